/-
  runs.
-/
import Derived.Test.YtfolokhilkffcaaGreatLawC
namespace Go.Proofs.YtfolokhilkffcaaGreat
open Go.RowKit

/-- A list of numbers below block b. -/
def LiesB (w : World) (b : Nat) (ao : Option Addr) (zs : List Int) : Prop := zs = [] ∨ ∃ ab off, ao = some ⟨ab, off, none⟩ ∧ Lies w ⟨ab, off, none⟩ zs ∧ ab < b
theorem LiesB.toO {w : World} {b : Nat} {ao : Option Addr} {zs : List Int} (h : LiesB w b ao zs) (hb : b ≤ w.heap.size) : LiesO w ao zs := by
  rcases h with h | ⟨ab, off, e, hL, hlt⟩
  · exact .inl h
  · exact .inr ⟨ab, off, e, hL, by omega⟩
theorem Lies.below {w w' : World} {ab off b : Nat} {zs : List Int} (h : Lies w ⟨ab, off, none⟩ zs) (hB : Below b w w') (hab : ab < b) : Lies w' ⟨ab, off, none⟩ zs := fun j v hv => by
  have h' := h j v hv
  rw [Addr.add_lit] at h' ⊢
  rw [hB.cell (p := ⟨ab, off + j, none⟩) hab]; exact h'
theorem LiesB.below {w w' : World} {b B : Nat} {ao : Option Addr} {zs : List Int} (h : LiesB w b ao zs) (hB : Below B w w') (hb : b ≤ B) : LiesB w' b ao zs := by
  rcases h with h | ⟨ab, off, e, hL, hlt⟩
  · exact .inl h
  · exact .inr ⟨ab, off, e, hL.below hB (by omega), hlt⟩
theorem below_gb {w w' : World} (h : Below w.heap.size w w') : w.grownBy w' none := ⟨h.os, h.tape, h.output, h.size, fun k hk _ => h.block k hk⟩
theorem At.below {w w' : World} {b B : Nat} {t : TypeId} {cs : Array Value} (h : At w b t cs) (hB : Below B w w') (hb : b < B) : At w' b t cs := by
  unfold At at *
  rw [hB.block b hb]; exact h
theorem Bk.below {w w' : World} {b : Nat} {lv : Value} {ls : List Value} (h : Bk w b lv ls) (hB : Below w.heap.size w w') : Bk w' b lv ls := by
  refine ⟨h.at_.below hB h.at_.lt, World.ownsRow.kept h.row (below_gb hB) (by
    cases h' : lv.ownBlock with
    | none => exact .inl rfl
    | some k => exact .inr (by simp)), fun k v hv => ?_⟩
  rcases h.full k v hv with h' | ⟨g, c, e1, e2, e3, e4⟩
  · exact .inl h'
  · exact .inr ⟨g, c, e1, e2, e3, e4.below hB e4.lt⟩
theorem StV.lies {w : World} {B : Nat} {st : Value} {σ : List Int} (h : StV w B st σ) : ∃ ao cap, st = .slice ao σ.length cap ∧ LiesO w ao σ := by
  rcases h with ⟨rfl, rfl⟩ | ⟨gs, rfl, hA, _⟩
  · exact ⟨_, _, rfl, .inl rfl⟩
  · refine ⟨_, _, rfl, .inr ⟨gs, 0, rfl, fun j v hv => ?_, hA.lt⟩⟩
    rw [Addr.add_lit, Nat.zero_add, hA.cell j]
    obtain ⟨hj, hv'⟩ := List.getElem?_eq_some_iff.1 hv
    simp [intsV, hj, hv']
theorem StR.lies {w : World} {B : Nat} {st : Value} {σ : List Int} (h : StR w B st σ) : ∃ ao cap, st = .slice ao σ.length cap ∧ LiesO w ao σ := by
  obtain ⟨b, hb, hT⟩ := h
  obtain ⟨so, cap, rfl⟩ := hT.shape
  refine ⟨so, cap, rfl, ?_⟩
  by_cases hz : σ = []
  · exact .inl hz
  · obtain ⟨g, cap', he, hg⟩ := hT.form hz
    simp at he
    obtain ⟨rfl, rfl⟩ := he
    refine .inr ⟨g, 0, rfl, fun j v hv => ?_, (World.ownsRow.lt hT g rfl).2⟩
    obtain ⟨hj, hv'⟩ := List.getElem?_eq_some_iff.1 hv
    rw [Addr.add_lit, Nat.zero_add, hT.cell j hj]
    simp [List.getD, hj, hv']

theorem rfs_in {V : Int} {k : Nat} {view : Int} {zs : List Int} {fuel : Int} (h : rfs V k view zs fuel = 0) : inB V k zs = true := by
  unfold rfs at h
  by_cases c1 : view < 0 ∨ 8 < view
  · rw [if_pos c1] at h; cases h
  · rw [if_neg c1] at h
    cases c2 : inB V k zs with
    | false => rw [c2, if_pos rfl] at h; cases h
    | true => rfl
theorem pRun_len (s : ByteArray) (view : Int) (zs : List Int) (fuel : Int) : (pRun s view zs fuel).2.σ.length ≤ 100 := by
  unfold pRun
  split
  · exact Nat.zero_le _
  · split
    · exact Nat.zero_le _
    · rename_i h
      dsimp only
      rw [runP_len]
      have := (inB_fits (rfs_in (Classical.not_not.1 h))).1
      have h1 := hdr_vars s
      have h2 := hdr_words s
      omega

set_option maxRecDepth 20000 in
set_option maxHeartbeats 4000000 in
theorem runs_any {w : World} {b : Nat} {lv : Value} {ls : List Value} (h : Bk w b lv ls) (hl : ls.length ≤ 1466015503701) (n m p : Int) (S : ByteArray) (hS : S.size ≤ maxLen) (ao : Option Addr) (cin : Nat) (zs : List Int) (hz : zs.length ≤ 17592186043904) (hL : LiesB w b ao zs) (a2 : Option Addr) (l2 c2 : Nat) :
    Calls Tryz.prog 13 #[.pointer (some ⟨b, 0, none⟩), .agg #[.int .i64 2, .int .i64 n, .int .i64 m, .int .i64 p, .string S, .slice ao zs.length cin, .slice a2 l2 c2]] w fun e w' => e = .returned (.bool true) ∧ (∃ lv' f, Bk w' b lv' (ls ++ [f])) ∧ Below b w w' := by
  have hlen := pRun_len S n zs m
  generalize hP : pRun S n zs m = P at *
  obtain ⟨e0, tag, steps, sn, σ⟩ := P
  dsimp only at hlen
  have HP := hide hP
  have HB := hide h
  have HL := hide hL
  have hbl := h.at_.lt
  clear hP h hL
  go_enter Tryz.func13, Tryz.ntmps13
  go_wp2_with fail
  have hB0 := (Below.refl w.heap.size w).alloc (Nat.le_refl _) (.cells #[.int .i64 2, .int .i64 n, .int .i64 m, .int .i64 p, .string S, .slice ao zs.length cin, .slice a2 l2 c2] 31)
  have hA0 := At.new w 31 #[.int .i64 2, .int .i64 n, .int .i64 m, .int .i64 p, .string S, .slice ao zs.length cin, .slice a2 l2 c2]
  have hL0 := (unhide HL).below hB0 (Nat.le_of_lt hbl)
  have hs0 : (w.alloc (.cells #[.int .i64 2, .int .i64 n, .int .i64 m, .int .i64 p, .string S, .slice ao zs.length cin, .slice a2 l2 c2] 31)).heap.size = w.heap.size + 1 := by simp
  refine (lent_any ao cin zs hz _ (hL0.toO (by omega))).mono ?_
  rintro e w1 ⟨gi, rfl, hI1, hgi, hB1⟩
  rw [hs0] at hgi
  have hA1 := hA0.below hB1 (by simp)
  have hL1 := hL0.below hB1 (by omega)
  have hBB1 := hB0.trans (hB1.mono (by simp))
  have d0 := hA1.cell 0
  have d1 := hA1.cell 1
  have d2 := hA1.cell 2
  have d4 := hA1.cell 4
  have d5 := hA1.cell 5
  simp at d0 d1 d2 d4 d5
  have hgl := hI1.lt
  have HR1 := hide (leakRun_any S hS n m gi 0 (zs.length + 2) zs (by omega) w1 (by
    rcases lent_lies hI1 with hn | ⟨ab, off, e, hLL, _⟩
    · rw [hn]; intro j v hv; simp at hv
    · simp at e; obtain ⟨rfl, rfl⟩ := e; exact hLL) hgl)
  clear hA0 hL0 hB0 hB1
  rw [unhide HP] at HR1
  dsimp only at HR1
  go_wp2_with fail
  refine (unhide HR1).mono ?_
  rintro e w2 ⟨st, rfl, hSt, hB2⟩
  obtain ⟨so, scap, rfl, hSL⟩ := hSt.lies
  have hA2 := hA1.below hB2 hA1.lt
  have hL2 := hL1.below hB2 (by have := hA1.lt; omega)
  have hI2 := hI1.below hB2 hgl
  have hBB2 := hBB1.trans (hB2.mono (by have := hA1.lt; omega))
  have hq2 : w.heap.size < w2.heap.size := hA2.lt
  generalize hstr : strOfNums sn = str at *
  have Hstr := hide hstr
  clear hstr
  clear d0 d1 d2 d4 d5
  have d0 := hA2.cell 0
  have d1 := hA2.cell 1
  have d2 := hA2.cell 2
  have d4 := hA2.cell 4
  have d5 := hA2.cell 5
  simp at d0 d1 d2 d4 d5
  go_wp2_with fail
  have hB2' : Below w2.heap.size w2 (w2.alloc (.cells #[.int .i64 tag, .int .i64 steps, .string str, .slice so σ.length scap] 52)) := (Below.refl _ _).alloc (Nat.le_refl _) _
  have hs2 : (w2.alloc (.cells #[.int .i64 tag, .int .i64 steps, .string str, .slice so σ.length scap] 52)).heap.size = w2.heap.size + 1 := by simp
  have hRa := At.new w2 52 #[.int .i64 tag, .int .i64 steps, .string str, .slice so σ.length scap]
  have HR2 := hide (refRun_any S hS n m ao cin zs (by omega) _ ((hL2.below hB2' (by omega)).toO (by rw [hs2]; omega)))
  rw [unhide HP] at HR2
  dsimp only at HR2
  rw [unhide Hstr] at HR2
  refine (unhide HR2).mono ?_
  rintro e w3 ⟨st2, rfl, hSt2, hB3⟩
  obtain ⟨so2, scap2, rfl, hSL2⟩ := hSt2.lies
  have hB3' : Below w2.heap.size w2 w3 := hB2'.trans (hB3.mono (by rw [hs2]; omega))
  have hRa3 := hRa.below hB3 (by rw [hs2]; omega)
  have hA3 := hA2.below hB3' hq2
  have hI3 := hI2.below hB3' hI2.lt
  have hL3 := hL2.below hB3' (by omega)
  have hBB3 := hBB2.trans (hB3'.mono (by omega))
  have hq3 : w2.heap.size < w3.heap.size := hRa3.lt
  have hSL3 : LiesO w3 so σ := hSL.grown (below_gb hB3')
  have r0 := hRa3.cell 0
  have r1 := hRa3.cell 1
  have r2 := hRa3.cell 2
  have r3 := hRa3.cell 3
  clear d0 d1 d2 d4 d5
  have d0 := hA3.cell 0
  have d5 := hA3.cell 5
  simp at d0 d5 r0 r1 r2 r3
  clear hB2' hB3 hRa hSt2
  go_wp2_with fail
  have hB3a : Below w3.heap.size w3 (w3.alloc (.cells #[.int .i64 tag, .int .i64 steps, .string str, .slice so2 σ.length scap2] 55)) := (Below.refl _ _).alloc (Nat.le_refl _) _
  refine (sameResult_any tag steps str so so2 scap scap2 σ (by omega) _ (hSL3.grown (below_gb hB3a)) (hSL2.grown (below_gb hB3a))).mono ?_
  rintro e w4 ⟨rfl, hB4⟩
  have hB4' : Below w3.heap.size w3 w4 := hB3a.trans (hB4.mono (by simp))
  have hRa4 := hRa3.below hB4' hRa3.lt
  have hA4 := hA3.below hB4' hA3.lt
  have hI4 := hI3.below hB4' hI3.lt
  have hL4 := hL3.below hB4' (by omega)
  have hBB4 := hBB3.trans (hB4'.mono (by omega))
  have hBk4 := (unhide HB).below hBB4
  have hq4 : w2.heap.size < w4.heap.size := hRa4.lt
  have hB24 : Below w2.heap.size w2 w4 := hB3'.trans (hB4'.mono (by omega))
  clear r0 r1 r2 r3 d0 d5
  have r3 := hRa4.cell 3
  simp at r3
  have hfin : ∀ w5, Below b w4 w5 → (∀ k t cs, At w4 k t cs → t ≠ 29 → k ≠ b → (t = 3 → k < w1.heap.size) → At w5 k t cs) → At w5 gi 3 (lentV zs) ∧ LiesB w5 b ao zs ∧ Below b w w5 ∧ At w5 w.heap.size 31 #[.int .i64 2, .int .i64 n, .int .i64 m, .int .i64 p, .string S, .slice ao zs.length cin, .slice a2 l2 c2] := by
    intro w5 hB5 hfr5
    exact ⟨hfr5 gi 3 _ hI4 (by decide) (by omega) (fun _ => hgl), hL4.below hB5 (Nat.le_refl _), (hBB4.mono (by omega)).trans hB5, hfr5 _ _ _ hA4 (by decide) (by omega) (fun e => by cases e)⟩
  have Hfin := hide hfin
  clear hB3a hB4 hfin
  rcases hSt with ⟨rfl, hst⟩ | ⟨gs, hst, hAs, hgs⟩
  · simp at hst
    obtain ⟨rfl, rfl⟩ := hst
    go_wp2_with fail
    refine (take_nil hBk4 hl).mono ?_
    rintro e w5 ⟨rfl, ⟨lv5, hBk5⟩, hB5, hfr5⟩
    obtain ⟨hI5, hL5, hBB5, hA5⟩ := unhide Hfin w5 hB5 (fun k t cs h1 h2 h3 _ => hfr5 k t cs h1 h2 h3)
    have hbl5 := hBk5.at_.lt
    have d5 := hA5.cell 5
    simp at d5
    go_wp2_with fail
    refine (whole_any gi ao cin zs hz w5 hI5 (hL5.toO (by omega))).mono ?_
    rintro e w6 ⟨rfl, hB6⟩
    go_wp2_with fail
    refine (num_any _ _).mono ?_
    rintro e w7 ⟨rfl, rfl⟩
    go_wp2_with fail
    go_ret
    exact ⟨rfl, ⟨_, _, hBk5.below hB6⟩, hBB5.trans (hB6.mono (by omega))⟩
  · simp at hst
    obtain ⟨rfl, rfl⟩ := hst
    have hAs4 := hAs.below hB24 hAs.lt
    have hgl4 : gs ≠ gi := by omega
    go_wp2_with fail
    refine (take_some hBk4 hl gs σ.length (σ.map fun c => Value.int .i64 c) (by simpa [intsV] using hAs4) (by simp) hlen (by omega) (by
      intro v hv g' c c' e
      obtain ⟨k, hk⟩ := List.mem_iff_getElem?.1 hv
      rcases (unhide HB).full k v hk with h' | ⟨g2, c2, e1, _, _, e4⟩
      · rw [h'] at e; cases e
      · rw [e] at e1
        simp at e1
        have := e4.lt
        omega)).mono ?_
    rintro e w5 ⟨rfl, ⟨lv5, hBk5⟩, hB5, hfr5⟩
    obtain ⟨hI5, hL5, hBB5, hA5⟩ := unhide Hfin w5 hB5 (fun k t cs h1 h2 h3 h4 => hfr5 k t cs h1 h2 h3 (by
      intro e
      subst e
      have h5 := hAs4
      unfold At at h5 h1
      rw [h1] at h5
      simp at h5
      have := h4 (by first | exact h5.2 | exact h5.2.1 | exact h5.1)
      omega))
    have hbl5 := hBk5.at_.lt
    have d5 := hA5.cell 5
    simp at d5
    go_wp2_with fail
    refine (whole_any gi ao cin zs hz w5 hI5 (hL5.toO (by omega))).mono ?_
    rintro e w6 ⟨rfl, hB6⟩
    go_wp2_with fail
    refine (num_any _ _).mono ?_
    rintro e w7 ⟨rfl, rfl⟩
    go_wp2_with fail
    go_ret
    exact ⟨rfl, ⟨_, _, hBk5.below hB6⟩, hBB5.trans (hB6.mono (by omega))⟩
end Go.Proofs.YtfolokhilkffcaaGreat
