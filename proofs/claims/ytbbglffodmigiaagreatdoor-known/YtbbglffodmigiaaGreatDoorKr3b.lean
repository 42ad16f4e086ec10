/-
  Known: Decide at text 3, views 3 to 5: run by the kernel. (laid by mkkr.py)
-/
import Derived.Test.YtbbglffodmigiaaGreatDoorAiY
namespace Go.Proofs.YtbbglffodmigiaaGreatDoor
open Go.Ai

set_option maxRecDepth 1000000
theorem run_3_3 : Run 1000000 (txt Tryz.prog 3) 3 (res 2 (dead 4) (dead 4) 0) := of_eq_true (by kernel_rfl)
theorem run_3_4 : Run 1000000 (txt Tryz.prog 3) 4 (res 2 (dead 4) (dead 4) 0) := of_eq_true (by kernel_rfl)
theorem run_3_5 : Run 1000000 (txt Tryz.prog 3) 5 (res 2 (dead 4) (dead 4) 0) := of_eq_true (by kernel_rfl)
end Go.Proofs.YtbbglffodmigiaaGreatDoor
