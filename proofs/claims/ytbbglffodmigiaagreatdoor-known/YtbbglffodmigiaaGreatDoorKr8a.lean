/-
  Known: Decide at text 8, views 0 to 2: run by the kernel. (laid by mkkr.py)
-/
import Derived.Test.YtbbglffodmigiaaGreatDoorAiY
namespace Go.Proofs.YtbbglffodmigiaaGreatDoor
open Go.Ai

set_option maxRecDepth 1000000
theorem run_8_0 : Run 1000000 (txt Tryz.prog 8) 0 (res 2 (dead 2) (dead 2) 0) := of_eq_true (by kernel_rfl)
theorem run_8_1 : Run 1000000 (txt Tryz.prog 8) 1 (res 2 (dead 2) (dead 2) 0) := of_eq_true (by kernel_rfl)
theorem run_8_2 : Run 1000000 (txt Tryz.prog 8) 2 (res 2 (dead 2) (dead 2) 0) := of_eq_true (by kernel_rfl)
end Go.Proofs.YtbbglffodmigiaaGreatDoor
