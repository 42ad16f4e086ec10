/-
  Known: Decide at text 2, views 3 to 5: run by the kernel. (laid by mkkr.py)
-/
import Derived.Test.YtbbglffodmigiaaGreatDoorAiY
namespace Go.Proofs.YtbbglffodmigiaaGreatDoor
open Go.Ai

set_option maxRecDepth 1000000
theorem run_2_3 : Run 1000000 (txt Tryz.prog 2) 3 (res 2 (dead 9) (dead 9) 0) := of_eq_true (by kernel_rfl)
theorem run_2_4 : Run 1000000 (txt Tryz.prog 2) 4 (res 2 (dead 9) (dead 9) 0) := of_eq_true (by kernel_rfl)
theorem run_2_5 : Run 1000000 (txt Tryz.prog 2) 5 (res 1 (.slice none 0 0) (.slice none 0 0) 0) := of_eq_true (by kernel_rfl)
end Go.Proofs.YtbbglffodmigiaaGreatDoor
