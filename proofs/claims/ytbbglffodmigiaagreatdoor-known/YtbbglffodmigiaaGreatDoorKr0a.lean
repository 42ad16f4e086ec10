/-
  Known: Decide at text 0, views 0 to 2: run by the kernel. (laid by mkkr.py)
-/
import Derived.Test.YtbbglffodmigiaaGreatDoorAiY
namespace Go.Proofs.YtbbglffodmigiaaGreatDoor
open Go.Ai

set_option maxRecDepth 1000000
theorem run_0_0 : Run 1000000 (txt Tryz.prog 0) 0 (res 1 (.slice none 0 0) (.slice none 0 0) 0) := of_eq_true (by kernel_rfl)
theorem run_0_1 : Run 1000000 (txt Tryz.prog 0) 1 (res 2 (dead 3) (dead 3) 0) := of_eq_true (by kernel_rfl)
theorem run_0_2 : Run 1000000 (txt Tryz.prog 0) 2 (res 1 (.slice none 0 0) (.slice none 0 0) 0) := of_eq_true (by kernel_rfl)
end Go.Proofs.YtbbglffodmigiaaGreatDoor
