/-
  Known: Decide at text 9, views 0 to 8: run by the kernel. (laid by mkkr.py)
-/
import Derived.Test.YtbbglffodmigiaaGreatDoorAiY
namespace Go.Proofs.YtbbglffodmigiaaGreatDoor
open Go.Ai

set_option maxRecDepth 1000000
theorem run_9_0 : Run 1000000 (txt Tryz.prog 9) 0 (res 0 (.slice none 0 0) (.slice none 0 0) 2) := of_eq_true (by kernel_rfl)
theorem run_9_1 : Run 1000000 (txt Tryz.prog 9) 1 (res 0 (.slice none 0 0) (.slice none 0 0) 2) := of_eq_true (by kernel_rfl)
theorem run_9_2 : Run 1000000 (txt Tryz.prog 9) 2 (res 0 (.slice none 0 0) (.slice none 0 0) 2) := of_eq_true (by kernel_rfl)
theorem run_9_3 : Run 1000000 (txt Tryz.prog 9) 3 (res 0 (.slice none 0 0) (.slice none 0 0) 2) := of_eq_true (by kernel_rfl)
theorem run_9_4 : Run 1000000 (txt Tryz.prog 9) 4 (res 0 (.slice none 0 0) (.slice none 0 0) 2) := of_eq_true (by kernel_rfl)
theorem run_9_5 : Run 1000000 (txt Tryz.prog 9) 5 (res 0 (.slice none 0 0) (.slice none 0 0) 2) := of_eq_true (by kernel_rfl)
theorem run_9_6 : Run 1000000 (txt Tryz.prog 9) 6 (res 0 (.slice none 0 0) (.slice none 0 0) 2) := of_eq_true (by kernel_rfl)
theorem run_9_7 : Run 1000000 (txt Tryz.prog 9) 7 (res 0 (.slice none 0 0) (.slice none 0 0) 2) := of_eq_true (by kernel_rfl)
theorem run_9_8 : Run 1000000 (txt Tryz.prog 9) 8 (res 0 (.slice none 0 0) (.slice none 0 0) 2) := of_eq_true (by kernel_rfl)
end Go.Proofs.YtbbglffodmigiaaGreatDoor
