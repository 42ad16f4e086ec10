/-
  Known: Decide at text 1, views 0 to 2: run by the kernel. (laid by mkkr.py)
-/
import Derived.Test.YtbbglffodmigiaaGreatDoorAiY
namespace Go.Proofs.YtbbglffodmigiaaGreatDoor
open Go.Ai

set_option maxRecDepth 1000000
theorem run_1_0 : Run 1000000 (txt Tryz.prog 1) 0 (res 2 (dead 5) (dead 5) 0) := of_eq_true (by kernel_rfl)
theorem run_1_1 : Run 1000000 (txt Tryz.prog 1) 1 (res 2 (dead 5) (dead 5) 0) := of_eq_true (by kernel_rfl)
theorem run_1_2 : Run 1000000 (txt Tryz.prog 1) 2 (res 2 (dead 5) (dead 5) 0) := of_eq_true (by kernel_rfl)
end Go.Proofs.YtbbglffodmigiaaGreatDoor
