/-
  result.
-/
import Derived.Test.YtfolokhilkffcaaMach6
import Derived.Laws.BytesArg
namespace Go.Proofs.Ytfolokhilkffcaa
open Go.RowKit

theorem sn_conv {w : World} {b : Nat} {sv : Value} {sn : List Int} (h : Sn w b sv sn) : (convert 48 9 sv).run Try.prog w = .ok (.string (strOfNums sn)) w := by
  rcases h.2 with ⟨rfl, h0⟩ | ⟨g, cap, cur, rfl, _, hh, hn, _, hs, ht⟩
  · have : sn = [] := List.eq_nil_of_length_eq_zero h0
    subst this
    exact run_convert_bytes_nil (P := Try.prog) w 48 5 Try.underlying48 Try.underlying5 0 0 9 Try.underlying9
  · refine run_convert_bytes_arg (P := Try.prog) w 48 5 Try.underlying48 Try.underlying5 g 0 sn.length cap sn rfl (fun i hi => ?_) 9 Try.underlying9
    have hc := World.ownsRow.cellAt h i (by omega)
    rw [Nat.zero_add, hc]
    simp [bytesV, List.getD, hi]

set_option maxHeartbeats 2000000 in
theorem mresult_any {w : World} {b gs : Nat} {W V n m view : Int} {σ : List Int} {sv : Value} {sn : List Int} {steps : Int} {tr : Bool} (hM : Mac w b gs W V n m view σ sv steps tr) (hS : Sn w b sv sn) (tag : Int) :
    Calls Try.prog 36 #[.pointer (some ⟨b, 0, none⟩), .int .i64 tag] w fun e w' => e = .returned (.agg #[.int .i64 tag, .int .i64 steps, .string (strOfNums sn), .slice (some ⟨gs, 0, none⟩) σ.length σ.length]) ∧ w.grownBy w' none := by
  obtain ⟨ao, cap, rfl⟩ := hS.shape
  obtain ⟨m0, m1, m2, m3, m4, m5, m6, m7, m8, mf⟩ := hM.nine
  have hbl : b < w.heap.size := hM.1.lt
  have hcv := fun o => sn_conv (show Sn (w.alloc o).drew b (.slice ao sn.length cap) sn from hS.alloc o)
  generalize strOfNums sn = str at *
  go_enter Try.func36, Try.ntmps36
  go_wp2_with fail
  go_region
  go_wp2_with fail
  refine bodyPost_ret (v := .agg #[.int .i64 tag, .int .i64 steps, .string str, .slice (some ⟨gs, 0, none⟩) σ.length σ.length]) (by simp [results, Try.results36, go_sem]) rfl ⟨rfl, gb_drew (gb_alloc (gb_refl _ _) _)⟩
end Go.Proofs.Ytfolokhilkffcaa
