/-
  Known: Decide at text 7, views 0 to 2: run by the kernel. (laid by mkkr.py)
-/
import Derived.Test.YtbbglffodmigiaaGreatDoorAiY
namespace Go.Proofs.YtbbglffodmigiaaGreatDoor
open Go.Ai

set_option maxRecDepth 1000000
theorem run_7_0 : Run 1000000 (txt Tryz.prog 7) 0 (res 1 (.slice none 0 0) (.slice none 0 0) 0) := of_eq_true (by kernel_rfl)
theorem run_7_1 : Run 1000000 (txt Tryz.prog 7) 1 (res 1 (.slice none 0 0) (.slice none 0 0) 0) := of_eq_true (by kernel_rfl)
theorem run_7_2 : Run 1000000 (txt Tryz.prog 7) 2 (res 1 (.slice none 0 0) (.slice none 0 0) 0) := of_eq_true (by kernel_rfl)
end Go.Proofs.YtbbglffodmigiaaGreatDoor
