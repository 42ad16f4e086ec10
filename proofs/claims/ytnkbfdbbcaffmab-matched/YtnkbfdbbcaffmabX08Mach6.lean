import Derived.Test.YtnkbfdbbcaffmabX07Mach4
import Derived.Deep.OwnRows
import Derived.Laws.CopyOwn
import Derived.Laws.BytesArg
/-
  begin, result.
-/
namespace Go.Proofs.Ytnkbfdbbcaffmab
open Go.RowKit

theorem Try.infoInt : (Try.prog.info? 3).map (fun i => (i.zero, i.size, i.bytes)) = some (some (.int .i64 0), 1, 8) := by kernel_rfl
theorem Try.sizeInt : (Try.prog.info? 3).map (·.size) = some 1 := by kernel_rfl

/-- A list of numbers that lies at an address. -/
def Lies (w : World) (ad : Addr) (zs : List Int) : Prop := ∀ j v, zs[j]? = some v → w.cell? (ad.add j) = some (.int .i64 v)

theorem lies_cells {w : World} {ad : Addr} {zs : List Int} (h : Lies w ad zs) : ∀ j v, (zs.map fun z => Value.int .i64 z)[j]? = some v → w.cell? (ad.add j) = some v := by
  intro j v hv
  rw [List.getElem?_map] at hv
  cases hz : zs[j]? with
  | none => rw [hz] at hv; cases hv
  | some z =>
    rw [hz] at hv
    simp at hv
    subst hv
    exact h j z hz
theorem Lies.grown {w w' : World} {ad : Addr} {zs : List Int} {row : Option Nat} (h : Lies w ad zs) (hg : w.grownBy w' row) (hr : some ad.block ≠ row) : Lies w' ad zs := by
  intro j v hv
  have hc := h j v hv
  have hb : (ad.add j).block = ad.block := by unfold Addr.add; split <;> rfl
  exact hg.cell hc (by rw [hb]; exact hr)

theorem made_int (l : Nat) : (madeCells #[Value.int .i64 0] l).toList = List.replicate l (.int .i64 0) := toList_madeCells_one _ _

theorem ten_at {w : World} {b : Nat} {t : TypeId} {cs : Array Value} (h : At w b t cs) {c : Nat} (hc : c ≠ b) (v0 v1 v2 v3 v4 v5 v6 v7 v8 v9 : Value) :
    At ((((((((((w.setCell ⟨c, 0, none⟩ v0).setCell ⟨c, 1, none⟩ v1).setCell ⟨c, 2, none⟩ v2).setCell ⟨c, 3, none⟩ v3).setCell ⟨c, 4, none⟩ v4).setCell ⟨c, 5, none⟩ v5).setCell ⟨c, 6, none⟩ v6).setCell ⟨c, 7, none⟩ v7).setCell ⟨c, 8, none⟩ v8).setCell ⟨c, 9, none⟩ v9) b t cs := ((((((((((h.other _ hc).other _ hc).other _ hc).other _ hc).other _ hc).other _ hc).other _ hc).other _ hc).other _ hc).other _ hc)
theorem gb_ten {w1 w2 : World} {row : Option Nat} (h : w1.grownBy w2 row) (c : Nat) (hc : w1.heap.size ≤ c) (v0 v1 v2 v3 v4 v5 v6 v7 v8 v9 : Value) :
    w1.grownBy ((((((((((w2.setCell ⟨c, 0, none⟩ v0).setCell ⟨c, 1, none⟩ v1).setCell ⟨c, 2, none⟩ v2).setCell ⟨c, 3, none⟩ v3).setCell ⟨c, 4, none⟩ v4).setCell ⟨c, 5, none⟩ v5).setCell ⟨c, 6, none⟩ v6).setCell ⟨c, 7, none⟩ v7).setCell ⟨c, 8, none⟩ v8).setCell ⟨c, 9, none⟩ v9) row := (gb_set (gb_set (gb_set (gb_set (gb_set (gb_set (gb_set (gb_set (gb_set (gb_set h _ (.inr hc)) _ (.inr hc)) _ (.inr hc)) _ (.inr hc)) _ (.inr hc)) _ (.inr hc)) _ (.inr hc)) _ (.inr hc)) _ (.inr hc)) _ (.inr hc))

set_option maxHeartbeats 2000000 in
set_option maxRecDepth 100000 in
theorem mbegin_any (tx : ByteArray) (W V n m view : Int) (ad : Addr) (cin : Nat) (zs : List Int) (hz : zs.length ≤ 100) (w : World) (hL : Lies w ad zs) :
    Calls Try.prog 61 #[.agg #[.string tx, .int .i64 W, .int .i64 V, .int .i64 n, .int .i64 m], .int .i64 view, .slice (some ad) zs.length cin] w fun e w' => ∃ gs, e = .returned (.agg #[.string tx, .int .i64 W, .int .i64 V, .int .i64 n, .int .i64 m, .int .i64 view, .slice (some ⟨gs, 0, none⟩) zs.length zs.length, .slice none 0 0, .slice none 0 0, .bool false]) ∧ At w' gs 3 (intsV zs) ∧ w.heap.size ≤ gs ∧ w.grownBy w' none := by
  have hmk := run_make_row' (P := Try.prog) 22 3 (.int .i64 0) 8 Try.underlying22 Try.infoInt rfl .i64 .i64 zs.length (by omega) (by omega)
  go_enter Try.func61, Try.ntmps61
  go_wp2_with (refine wpList_copy_splice rfl (.tmp 11) (.tmp 12) 22 22 rfl 3 Try.underlying22 Try.sizeInt (some ⟨w.heap.size + 1 + 1, 0, none⟩) (some ad) zs.length zs.length zs.length cin rfl rfl (w.heap.size + 1 + 1) 0 (List.replicate zs.length (.int .i64 0)) 3 ?_ (zs.map fun z => Value.int .i64 z) ?_ ?_ ?_ ?_ (w.heap.size + 1 + 1) _ (Below.refl _ _) (Nat.le_refl _) ?_)
  · have h := At.new ((w.alloc (.cells #[.string tx, .int .i64 W, .int .i64 V, .int .i64 n, .int .i64 m] 53)).alloc (.cells #[.string ⟨#[]⟩, .int .i64 0, .int .i64 0, .int .i64 0, .int .i64 0, .int .i64 0, .slice none 0 0, .slice none 0 0, .slice none 0 0, .bool false] 97)) 3 (madeCells #[.int .i64 0] zs.length)
    have e : madeCells #[Value.int .i64 0] zs.length = (List.replicate zs.length (Value.int .i64 0)).toArray := by
      apply Array.ext'; rw [made_int]
    rw [e] at h ⊢
    simpa [At] using h
  · simp
  · intro _ j v hv
    exact (hL.grown (gb_alloc (gb_alloc (gb_alloc (gb_refl w none) _) _) _) (by simp)) j v hv
  · simp
  · intro v hv
    obtain ⟨z, _, rfl⟩ := List.mem_map.1 hv
    rfl
  · intro w' hG hB
    have hA : At w' (w.heap.size + 1 + 1) 3 (intsV zs) := by
      have h := hG.out
      have e : splice (List.replicate zs.length (Value.int .i64 0)) 0 (zs.map fun z => Value.int .i64 z) = zs.map fun z => Value.int .i64 z := by simp [splice]
      rw [e] at h
      exact h
    have hH : At w' w.heap.size 53 #[.string tx, .int .i64 W, .int .i64 V, .int .i64 n, .int .i64 m] := by
      have h := At.alloc (At.alloc (At.new w 53 #[.string tx, .int .i64 W, .int .i64 V, .int .i64 n, .int .i64 m]) (.cells #[.string ⟨#[]⟩, .int .i64 0, .int .i64 0, .int .i64 0, .int .i64 0, .int .i64 0, .slice none 0 0, .slice none 0 0, .slice none 0 0, .bool false] 97)) (.cells (madeCells #[.int .i64 0] zs.length) 3)
      unfold At at h ⊢
      rw [hB.block w.heap.size (by omega)]; exact h
    have hO : At w' (w.heap.size + 1) 97 #[.string ⟨#[]⟩, .int .i64 0, .int .i64 0, .int .i64 0, .int .i64 0, .int .i64 0, .slice none 0 0, .slice none 0 0, .slice none 0 0, .bool false] := by
      have h := At.new (w.alloc (.cells #[.string tx, .int .i64 W, .int .i64 V, .int .i64 n, .int .i64 m] 53)) 97 #[.string ⟨#[]⟩, .int .i64 0, .int .i64 0, .int .i64 0, .int .i64 0, .int .i64 0, .slice none 0 0, .slice none 0 0, .slice none 0 0, .bool false]
      have h := At.alloc h (.cells (madeCells #[.int .i64 0] zs.length) 3)
      rw [show (w.alloc (.cells #[.string tx, .int .i64 W, .int .i64 V, .int .i64 n, .int .i64 m] 53)).heap.size = w.heap.size + 1 from by simp] at h
      unfold At at h ⊢
      rw [hB.block (w.heap.size + 1) (by omega)]; exact h
    have hg : w.grownBy w' none := by
      have h1 := gb_alloc (gb_alloc (gb_alloc (gb_refl w none) (.cells #[.string tx, .int .i64 W, .int .i64 V, .int .i64 n, .int .i64 m] 53)) (.cells #[.string ⟨#[]⟩, .int .i64 0, .int .i64 0, .int .i64 0, .int .i64 0, .int .i64 0, .slice none 0 0, .slice none 0 0, .slice none 0 0, .bool false] 97)) (.cells (madeCells #[.int .i64 0] zs.length) 3)
      exact ⟨hB.os.trans h1.os, hB.tape.trans h1.tape, hB.output.trans h1.output, Nat.le_trans h1.size hB.size, fun k hk hr => (hB.block k (by omega)).trans (h1.block k hk hr)⟩
    have q0 := hH.cell 0
    have q1 := hH.cell 1
    have q2 := hH.cell 2
    have q3 := hH.cell 3
    have q4 := hH.cell 4
    simp at q0 q1 q2 q3 q4
    obtain ⟨d1, d2, d3, d4, d5, d6, d7, d8, d9, d0, df⟩ := At.mten hO
    clear hmk hB hG
    go_wp2_with fail
    refine bodyPost_ret (v := .agg #[.string tx, .int .i64 W, .int .i64 V, .int .i64 n, .int .i64 m, .int .i64 view, .slice (some ⟨w.heap.size + 1 + 1, 0, none⟩) zs.length zs.length, .slice none 0 0, .slice none 0 0, .bool false]) (by simp [results, Try.results61, go_sem, d0, d1, d2, d3, d4, d5, d6, d7, d8, d9]) rfl ⟨w.heap.size + 1 + 1, rfl, ?_, by omega, ?_⟩
    · exact ten_at hA (by omega) _ _ _ _ _ _ _ _ _ _
    · exact gb_ten hg _ (by omega) _ _ _ _ _ _ _ _ _ _
end Go.Proofs.Ytnkbfdbbcaffmab
/-
  What is seen, as a text.
-/
namespace Go.Proofs.Ytnkbfdbbcaffmab
open Go.RowKit

theorem sn_conv {w : World} {b : Nat} {sv : Value} {sn : List Int} (h : Sn w b sv sn) : (convert 51 9 sv).run Try.prog w = .ok (.string (strOfNums sn)) w := by
  rcases h.2 with ⟨rfl, h0⟩ | ⟨g, cap, cur, rfl, _, hh, hn, _, hs, ht⟩
  · have : sn = [] := List.eq_nil_of_length_eq_zero h0
    subst this
    exact run_convert_bytes_nil (P := Try.prog) w 51 5 Try.underlying51 Try.underlying5 0 0 9 Try.underlying9
  · refine run_convert_bytes_arg (P := Try.prog) w 51 5 Try.underlying51 Try.underlying5 g 0 sn.length cap sn rfl (fun i hi => ?_) 9 Try.underlying9
    have hc := World.ownsRow.cellAt h i (by omega)
    rw [Nat.zero_add, hc]
    simp [bytesV, List.getD, hi]
end Go.Proofs.Ytnkbfdbbcaffmab
