/-
  Known: Decide at text 4, views 0 to 2: run by the kernel. (laid by mkkr.py)
-/
import Derived.Test.YtbbglffodmigiaaGreatDoorAiY
namespace Go.Proofs.YtbbglffodmigiaaGreatDoor
open Go.Ai

set_option maxRecDepth 1000000
theorem run_4_0 : Run 1000000 (txt Tryz.prog 4) 0 (res 2 (dead 1) (dead 1) 0) := of_eq_true (by kernel_rfl)
theorem run_4_1 : Run 1000000 (txt Tryz.prog 4) 1 (res 2 (dead 1) (dead 1) 0) := of_eq_true (by kernel_rfl)
theorem run_4_2 : Run 1000000 (txt Tryz.prog 4) 2 (res 2 (dead 1) (dead 1) 0) := of_eq_true (by kernel_rfl)
end Go.Proofs.YtbbglffodmigiaaGreatDoor
