/-
  Known: Decide at text 4, views 3 to 5: run by the kernel. (laid by mkkr.py)
-/
import Derived.Test.YtbbglffodmigiaaGreatDoorAiY
namespace Go.Proofs.YtbbglffodmigiaaGreatDoor
open Go.Ai

set_option maxRecDepth 1000000
theorem run_4_3 : Run 1000000 (txt Tryz.prog 4) 3 (res 2 (dead 1) (dead 1) 0) := of_eq_true (by kernel_rfl)
theorem run_4_4 : Run 1000000 (txt Tryz.prog 4) 4 (res 2 (dead 1) (dead 1) 0) := of_eq_true (by kernel_rfl)
theorem run_4_5 : Run 1000000 (txt Tryz.prog 4) 5 (res 2 (dead 1) (dead 1) 0) := of_eq_true (by kernel_rfl)
end Go.Proofs.YtbbglffodmigiaaGreatDoor
