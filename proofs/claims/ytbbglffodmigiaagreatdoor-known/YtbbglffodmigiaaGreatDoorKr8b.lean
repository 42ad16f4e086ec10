/-
  Known: Decide at text 8, views 3 to 5: run by the kernel. (laid by mkkr.py)
-/
import Derived.Test.YtbbglffodmigiaaGreatDoorAiY
namespace Go.Proofs.YtbbglffodmigiaaGreatDoor
open Go.Ai

set_option maxRecDepth 1000000
theorem run_8_3 : Run 1000000 (txt Tryz.prog 8) 3 (res 2 (dead 2) (dead 2) 0) := of_eq_true (by kernel_rfl)
theorem run_8_4 : Run 1000000 (txt Tryz.prog 8) 4 (res 2 (dead 2) (dead 2) 0) := of_eq_true (by kernel_rfl)
theorem run_8_5 : Run 1000000 (txt Tryz.prog 8) 5 (res 2 (dead 2) (dead 2) 0) := of_eq_true (by kernel_rfl)
end Go.Proofs.YtbbglffodmigiaaGreatDoor
