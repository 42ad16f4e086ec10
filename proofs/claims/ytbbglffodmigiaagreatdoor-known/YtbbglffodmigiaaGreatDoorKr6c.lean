/-
  Known: Decide at text 6, views 6 to 8: run by the kernel. (laid by mkkr.py)
-/
import Derived.Test.YtbbglffodmigiaaGreatDoorAiY
namespace Go.Proofs.YtbbglffodmigiaaGreatDoor
open Go.Ai

set_option maxRecDepth 1000000
theorem run_6_6 : Run 1000000 (txt Tryz.prog 6) 6 (res 1 (.slice none 0 0) (.slice none 0 0) 0) := of_eq_true (by kernel_rfl)
theorem run_6_7 : Run 1000000 (txt Tryz.prog 6) 7 (res 1 (.slice none 0 0) (.slice none 0 0) 0) := of_eq_true (by kernel_rfl)
theorem run_6_8 : Run 1000000 (txt Tryz.prog 6) 8 (res 1 (.slice none 0 0) (.slice none 0 0) 0) := of_eq_true (by kernel_rfl)
end Go.Proofs.YtbbglffodmigiaaGreatDoor
