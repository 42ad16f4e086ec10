/-
  Known: Decide at text 5, views 3 to 5: run by the kernel. (laid by mkkr.py)
-/
import Derived.Test.YtbbglffodmigiaaGreatDoorAiY
namespace Go.Proofs.YtbbglffodmigiaaGreatDoor
open Go.Ai

set_option maxRecDepth 1000000
theorem run_5_3 : Run 1000000 (txt Tryz.prog 5) 3 (res 1 (.slice none 0 0) (.slice none 0 0) 0) := of_eq_true (by kernel_rfl)
theorem run_5_4 : Run 1000000 (txt Tryz.prog 5) 4 (res 1 (.slice none 0 0) (.slice none 0 0) 0) := of_eq_true (by kernel_rfl)
theorem run_5_5 : Run 1000000 (txt Tryz.prog 5) 5 (res 1 (.slice none 0 0) (.slice none 0 0) 0) := of_eq_true (by kernel_rfl)
end Go.Proofs.YtbbglffodmigiaaGreatDoor
