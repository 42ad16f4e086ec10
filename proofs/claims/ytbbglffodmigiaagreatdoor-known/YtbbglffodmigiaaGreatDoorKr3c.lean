/-
  Known: Decide at text 3, views 6 to 8: run by the kernel. (laid by mkkr.py)
-/
import Derived.Test.YtbbglffodmigiaaGreatDoorAiY
namespace Go.Proofs.YtbbglffodmigiaaGreatDoor
open Go.Ai

set_option maxRecDepth 1000000
theorem run_3_6 : Run 1000000 (txt Tryz.prog 3) 6 (res 2 (dead 4) (dead 4) 0) := of_eq_true (by kernel_rfl)
theorem run_3_7 : Run 1000000 (txt Tryz.prog 3) 7 (res 2 (dead 4) (dead 4) 0) := of_eq_true (by kernel_rfl)
theorem run_3_8 : Run 1000000 (txt Tryz.prog 3) 8 (res 2 (dead 4) (dead 4) 0) := of_eq_true (by kernel_rfl)
end Go.Proofs.YtbbglffodmigiaaGreatDoor
