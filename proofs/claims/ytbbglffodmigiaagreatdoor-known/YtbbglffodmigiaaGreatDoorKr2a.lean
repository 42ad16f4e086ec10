/-
  Known: Decide at text 2, views 0 to 2: run by the kernel. (laid by mkkr.py)
-/
import Derived.Test.YtbbglffodmigiaaGreatDoorAiY
namespace Go.Proofs.YtbbglffodmigiaaGreatDoor
open Go.Ai

set_option maxRecDepth 1000000
theorem run_2_0 : Run 1000000 (txt Tryz.prog 2) 0 (res 2 (dead 9) (dead 9) 0) := of_eq_true (by kernel_rfl)
theorem run_2_1 : Run 1000000 (txt Tryz.prog 2) 1 (res 2 (dead 9) (dead 9) 0) := of_eq_true (by kernel_rfl)
theorem run_2_2 : Run 1000000 (txt Tryz.prog 2) 2 (res 2 (dead 9) (dead 9) 0) := of_eq_true (by kernel_rfl)
end Go.Proofs.YtbbglffodmigiaaGreatDoor
