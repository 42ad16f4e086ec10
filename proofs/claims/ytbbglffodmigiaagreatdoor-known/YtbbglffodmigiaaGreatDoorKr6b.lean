/-
  Known: Decide at text 6, views 3 to 5: run by the kernel. (laid by mkkr.py)
-/
import Derived.Test.YtbbglffodmigiaaGreatDoorAiY
namespace Go.Proofs.YtbbglffodmigiaaGreatDoor
open Go.Ai

set_option maxRecDepth 1000000
theorem run_6_3 : Run 1000000 (txt Tryz.prog 6) 3 (res 1 (.slice none 0 0) (.slice none 0 0) 0) := of_eq_true (by kernel_rfl)
theorem run_6_4 : Run 1000000 (txt Tryz.prog 6) 4 (res 1 (.slice none 0 0) (.slice none 0 0) 0) := of_eq_true (by kernel_rfl)
theorem run_6_5 : Run 1000000 (txt Tryz.prog 6) 5 (res 1 (.slice none 0 0) (.slice none 0 0) 0) := of_eq_true (by kernel_rfl)
end Go.Proofs.YtbbglffodmigiaaGreatDoor
