/-
  sameInts, lent.
-/
import Derived.Test.YtfolokhilkffcaaGreatDoc7
import Derived.Test.YtfolokhilkffcaaGreatLaw
namespace Go.Proofs.YtfolokhilkffcaaGreat
open Go.RowKit

theorem LiesO.drewN {w : World} {ao : Option Addr} {zs : List Int} (h : LiesO w ao zs) (j : Nat) : LiesO (w.drewN j) ao zs := h.grown (gb_drewN (gb_refl w none) j)

set_option maxHeartbeats 1000000 in
theorem sameInts_any (a1 a2 : Option Addr) (c1 c2 : Nat) (zs : List Int) (hl : zs.length ≤ 9223372036854775807) (w : World) (h1 : LiesO w a1 zs) (h2 : LiesO w a2 zs) :
    Calls Tryz.prog 32 #[.slice a1 zs.length c1, .slice a2 zs.length c2] w fun e w' => e = .returned (.bool true) ∧ ∃ j, w' = w.drewN j := by
  have H1 := hide h1
  have H2 := hide h2
  clear h1 h2
  go_enter Tryz.func32, Tryz.ntmps32
  go_wp2_with fail
  go_loopw [5] (fun i wr => ∃ k : Nat, i = .int .i64 k ∧ k ≤ zs.length ∧ ∃ j, wr = w.drewN j) (fun i _ => zs.length - (intOf i).toNat)
  case atStart => exact ⟨0, rfl, Nat.zero_le _, 0, rfl⟩
  case round =>
    obtain ⟨k, rfl, hk, j, rfl⟩ := hrel
    by_cases hlt : k < zs.length
    · rcases unhide H1 with hn | ⟨ab, off, rfl, hL1, _⟩
      · rw [hn] at hlt; simp at hlt
      rcases unhide H2 with hn | ⟨ab2, off2, rfl, hL2, _⟩
      · rw [hn] at hlt; simp at hlt
      have q1 := hL1.at_ k hlt
      have q2 := hL2.at_ k hlt
      clear hL1 hL2
      generalize zs.getD k 0 = z at *
      have hlI : (k : Int) < (zs.length : Int) := by omega
      go_wp2_with fail
      go_quiet (fail)
      go_wp2_with fail
      go_roundw
      case rel => exact ⟨k + 1, by go_num, by omega, _, rfl⟩
      case measure => simp [intOf]; omega
    · go_wp2_with fail
      go_ret
      exact ⟨rfl, j, rfl⟩

def lentV (zs : List Int) : Array Value := ((zs.map fun z => Value.int .i64 z) ++ [Value.int .i64 (-77), Value.int .i64 (-77)]).toArray

set_option maxHeartbeats 2000000 in
set_option maxRecDepth 100000 in
theorem lent_any (ao : Option Addr) (cin : Nat) (zs : List Int) (hl : zs.length ≤ 17592186043904) (w : World) (hL : LiesO w ao zs) :
    Calls Tryz.prog 22 #[.slice ao zs.length cin] w fun e w' => ∃ g, e = .returned (.slice (some ⟨g, 0, none⟩) zs.length (zs.length + 2)) ∧ At w' g 3 (lentV zs) ∧ w.heap.size ≤ g ∧ Below w.heap.size w w' := by
  have hmk := run_make_row' (P := Tryz.prog) 29 3 (.int .i64 0) 8 Tryz.underlying29 Tryz.infoInt rfl .i64 .i64 (zs.length + 2) (by omega) (by omega)
  have e2 : ((zs.length + 2 : Nat) : Int) = (zs.length : Int) + 2 := by omega
  simp only [e2] at hmk
  clear e2
  go_enter Tryz.func22, Tryz.ntmps22
  go_wp2_with (refine wpList_copy_splice rfl (.tmp 8) (.tmp 9) 29 29 rfl 3 Tryz.underlying29 Tryz.sizeInt (some ⟨w.heap.size, 0, none⟩) ao (zs.length + 2) (zs.length + 2) zs.length cin rfl rfl w.heap.size 0 (List.replicate (zs.length + 2) (.int .i64 0)) 3 ?_ (zs.map fun z => Value.int .i64 z) ?_ ?_ ?_ ?_ w.heap.size _ (Below.refl _ _) (Nat.le_refl _) ?_)
  · have h := At.new w 3 (madeCells #[.int .i64 0] (zs.length + 2))
    have e : madeCells #[Value.int .i64 0] (zs.length + 2) = (List.replicate (zs.length + 2) (Value.int .i64 0)).toArray := by
      apply Array.ext'; rw [made_int]
    rw [e] at h ⊢
    simpa [At] using h
  · simp
  · intro hp
    rcases hL with hn | ⟨ab, off, rfl, hL, _⟩
    · rw [hn] at hp; simp at hp
    · exact ⟨_, rfl, fun j a ha => (hL.grown (gb_alloc (gb_refl w none) _) (by simp)) j a ha⟩
  · simp
  · intro v hv
    obtain ⟨z, _, rfl⟩ := List.mem_map.1 hv
    rfl
  · intro w' hG hB
    have hA : At w' w.heap.size 3 ((zs.map fun z => Value.int .i64 z) ++ [Value.int .i64 0, Value.int .i64 0]).toArray := by
      have h := hG.out
      have e : splice (List.replicate (zs.length + 2) (Value.int .i64 0)) 0 (zs.map fun z => Value.int .i64 z) = (zs.map fun z => Value.int .i64 z) ++ [Value.int .i64 0, Value.int .i64 0] := by
        simp [splice]
      rw [e] at h
      exact h
    have hB' : Below w.heap.size w w' := ((Below.refl w.heap.size w).alloc (Nat.le_refl _) _).trans hB
    have c1 := hA.cell zs.length
    have c2 := hA.cell (zs.length + 1)
    have fz := fun j => hA.frozen j
    simp at c1 c2
    clear hmk hG hB hL
    have i1 : (zs.length : Int) < (zs.length : Int) + 2 := by omega
    have i2 : (zs.length : Int) + 1 < (zs.length : Int) + 2 := by omega
    go_wp2_with fail
    go_ret
    refine ⟨w.heap.size, rfl, ?_, Nat.le_refl _, (hB'.setCell (Nat.le_refl _) _).setCell (Nat.le_refl _) _⟩
    have h := (hA.set zs.length (.int .i64 (-77))).set (zs.length + 1) (.int .i64 (-77))
    have e : (((((zs.map fun z => Value.int .i64 z) ++ [Value.int .i64 0, Value.int .i64 0]).toArray).setIfInBounds zs.length (Value.int .i64 (-77))).setIfInBounds (zs.length + 1) (Value.int .i64 (-77))) = lentV zs := by
      apply Array.ext'
      simp [lentV]
    rw [e] at h
    exact h

theorem lentV_len (zs : List Int) : (lentV zs).size = zs.length + 2 := by simp [lentV]
theorem lent_lies {w : World} {g : Nat} {zs : List Int} (h : At w g 3 (lentV zs)) : LiesO w (some ⟨g, 0, none⟩) zs := .inr ⟨g, 0, rfl, fun j v hv => by
  rw [Addr.add_lit, Nat.zero_add, h.cell j]
  obtain ⟨hj, hv'⟩ := List.getElem?_eq_some_iff.1 hv
  simp [lentV, List.getElem?_append, hj, hv'], h.lt⟩

set_option maxHeartbeats 1000000 in
theorem whole_any (g : Nat) (ao : Option Addr) (cin : Nat) (zs : List Int) (hl : zs.length ≤ 17592186043904) (w : World) (hA : At w g 3 (lentV zs)) (hL : LiesO w ao zs) :
    Calls Tryz.prog 27 #[.slice (some ⟨g, 0, none⟩) zs.length (zs.length + 2), .slice ao zs.length cin] w fun e w' => e = .returned (.bool true) ∧ Below w.heap.size w w' := by
  have hs := hide (sameInts_any (some ⟨g, 0, none⟩) ao (zs.length + 2) cin zs (by omega) w (lent_lies hA) hL)
  have c1 := hA.cell zs.length
  have c2 := hA.cell (zs.length + 1)
  simp [lentV] at c1 c2
  clear hL hA
  go_enter Tryz.func27, Tryz.ntmps27
  go_wp2_with fail
  refine (unhide hs).mono ?_
  rintro e w1 ⟨rfl, j, rfl⟩
  have i1 : (zs.length : Int) + 1 < (zs.length : Int) + 2 := by omega
  have i2 : (zs.length : Int) < (zs.length : Int) + 2 := by omega
  go_wp2_with fail
  go_ret
  exact ⟨rfl, below_drewN (Below.refl _ _) j⟩

set_option maxHeartbeats 1000000 in
theorem sameResult_any (tag steps : Int) (str : ByteArray) (a1 a2 : Option Addr) (c1 c2 : Nat) (zs : List Int) (hl : zs.length ≤ 17592186043904) (w : World) (h1 : LiesO w a1 zs) (h2 : LiesO w a2 zs) :
    Calls Tryz.prog 25 #[.agg #[.int .i64 tag, .int .i64 steps, .string str, .slice a1 zs.length c1], .agg #[.int .i64 tag, .int .i64 steps, .string str, .slice a2 zs.length c2]] w fun e w' => e = .returned (.bool true) ∧ Below w.heap.size w w' := by
  have hs := hide (fun w0 (h1 : LiesO w0 a1 zs) (h2 : LiesO w0 a2 zs) => sameInts_any a1 a2 c1 c2 zs (by omega) w0 h1 h2)
  have hg := gb_alloc (gb_alloc (gb_refl w none) (.cells #[.int .i64 tag, .int .i64 steps, .string str, .slice a1 zs.length c1] 52)) (.cells #[.int .i64 tag, .int .i64 steps, .string str, .slice a2 zs.length c2] 55)
  have H1 := hide (h1.grown hg)
  have H2 := hide (h2.grown hg)
  clear h1 h2
  go_enter Tryz.func25, Tryz.ntmps25
  go_wp2_with fail
  refine (unhide hs _ (unhide H1) (unhide H2)).mono ?_
  rintro e w1 ⟨rfl, j, rfl⟩
  go_wp2_with fail
  go_ret
  exact ⟨rfl, below_drewN (((Below.refl _ _).alloc (Nat.le_refl _) _).alloc (by simp) _) j⟩
end Go.Proofs.YtfolokhilkffcaaGreat
