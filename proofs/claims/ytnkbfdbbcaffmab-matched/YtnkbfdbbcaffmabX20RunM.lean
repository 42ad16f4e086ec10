import Derived.Test.YtnkbfdbbcaffmabX12Inp
import Derived.Test.YtnkbfdbbcaffmabX19RunO
import Derived.Test.YtnkbfdbbcaffmabX15Mk
/-
  leak.Run, walked.
-/
namespace Go.Proofs.Ytnkbfdbbcaffmab
open Go.RowKit

def zres : Res := ⟨0, 0, [], []⟩

/-- What Run answers: the error, the result. -/
def pRun (s : ByteArray) (view : Int) (zs : List Int) (fuel : Int) : Int × Res :=
  if (chk s).1 ≠ 0 then ((chk s).1, zres)
  else if rfs (pw (hdr s).2.2.1) ((hdr s).2.2.2.1 + (hdr s).2.2.2.2) view zs fuel ≠ 0 then (rfs (pw (hdr s).2.2.1) ((hdr s).2.2.2.1 + (hdr s).2.2.2.2) view zs fuel, zres)
  else (0, runP (pw (hdr s).2.2.1) view (hdr s).2.2.2.1 (hdr s).2.2.2.2 fuel.toNat (krn s).cs (fuel.toNat + 1) 0 zs [] 0)

/-- A state that came out: none, or in new memory. -/
def StV (w : World) (B : Nat) (st : Value) (σ : List Int) : Prop :=
  (σ = [] ∧ st = .slice none 0 0) ∨ ∃ gs, st = .slice (some ⟨gs, 0, none⟩) σ.length σ.length ∧ At w gs 3 (intsV σ) ∧ B ≤ gs

theorem inB_fits {V : Int} {k : Nat} {zs : List Int} (h : inB V k zs = true) : zs.length = k ∧ Fits V zs := by
  simp [inB, okV] at h
  exact ⟨h.1, fun x hx => h.2 x hx⟩

theorem chk_ok {s : ByteArray} (h : (chk s).1 = 0) : ¬ 300 < s.size ∧ krnBad s = false := by
  unfold chk at h
  by_cases h1 : 300 < s.size
  · rw [if_pos h1] at h; cases h
  · rw [if_neg h1] at h
    cases h2 : krnBad s with
    | true => rw [h2, if_pos rfl] at h; cases h
    | false => exact ⟨h1, rfl⟩

structure Pg.OK (q : Pg) : Prop where
  w1 : 1 ≤ q.W
  w8 : q.W ≤ 8
  v : q.V = pw q.W
  n : q.n ≤ 8
  m : q.m ≤ 16
  cs : CsOK q.V q.n q.cs
  len : q.cs.length ≤ 1000

/-- What a run of it answers: the error, the result. -/
def Pg.run (q : Pg) (view : Int) (zs : List Int) (fuel : Int) : Int × Res :=
  if q.e ≠ 0 then (q.e, zres)
  else if rfs q.V (q.n + q.m) view zs fuel ≠ 0 then (rfs q.V (q.n + q.m) view zs fuel, zres)
  else (0, runP q.V view q.n q.m fuel.toNat q.cs (fuel.toNat + 1) 0 zs [] 0)

theorem rfs_ok {V : Int} {k : Nat} {view : Int} {zs : List Int} {fuel : Int} (hz : rfs V k view zs fuel = 0) : ¬ (view < 0 ∨ 8 < view) ∧ inB V k zs = true ∧ ¬ (fuel < 0 ∨ 10000 < fuel) := by
  have hv : ¬ (view < 0 ∨ 8 < view) := by intro h; rw [rfs, if_pos h] at hz; cases hz
  have hin : inB V k zs = true := by
    cases h : inB V k zs with
    | true => rfl
    | false => rw [rfs, if_neg hv, if_pos h] at hz; cases hz
  have hfu : ¬ (fuel < 0 ∨ 10000 < fuel) := by intro h; rw [rfs, if_neg hv, if_neg (by rw [hin]; simp), if_pos h] at hz; cases hz
  exact ⟨hv, hin, hfu⟩

set_option maxHeartbeats 1000000 in
theorem run_gen (q : Pg) (hq : q.e = 0 → q.OK) (ao' : Option Addr) (cap' kb : Nat) (view fuel : Int) (ab ao cin : Nat) (zs : List Int) (hl : zs.length ≤ 9223372036854775807) (w : World) (hO : Own w kb (.slice ao' q.cs.length cap') q.cs) (hL : Lies w ⟨ab, ao, none⟩ zs) :
    Calls Try.prog 24 #[q.val ao' cap', .int .i64 view, .slice (some ⟨ab, ao, none⟩) zs.length cin, .int .i64 fuel] w fun e w' => ∃ st, e = .returned (.tuple #[.agg #[.int .i64 (q.run view zs fuel).2.tag, .int .i64 (q.run view zs fuel).2.steps, .string (strOfNums (q.run view zs fuel).2.sn), st], .int .i64 (q.run view zs fuel).1]) ∧ StV w' w.heap.size st (q.run view zs fuel).2.σ ∧ Below w.heap.size w w' := by
  generalize hP : q.run view zs fuel = P
  have HP := hide hP
  clear hP
  unfold Pg.val
  by_cases he : q.e = 0
  · obtain ⟨hw1, hw8, hV, hn, hm, hcs, hcl⟩ := hq he
    have hPP : P = if rfs q.V (q.n + q.m) view zs fuel ≠ 0 then (rfs q.V (q.n + q.m) view zs fuel, zres)
        else (0, runP q.V view q.n q.m fuel.toNat q.cs (fuel.toNat + 1) 0 zs [] 0) := by
      rw [← unhide HP, Pg.run, if_neg (by rw [he]; simp)]
    have HPP := hide hPP
    clear HP hPP
    obtain ⟨qe, z1, tx, W, V, n, m, cs⟩ := q
    dsimp only at *
    subst he
    have HO := hide hO
    have Hcs := hide hcs
    have HV := hide hV
    have HL := hide hL
    clear hq hcs hO hV hL
    have hg0 : w.grownBy ((w.alloc (.cells #[.int .i64 0, .int .i64 z1, .string tx, .int .i64 W, .int .i64 V, .int .i64 n, .int .i64 m, .slice ao' cs.length cap'] 56)).alloc (.cells #[.int .i64 0, .int .i64 0, .string ⟨#[]⟩, .slice none 0 0] 32)) none := gb_alloc (gb_alloc (gb_refl w none) _) _
    have hK0 : At ((w.alloc (.cells #[.int .i64 0, .int .i64 z1, .string tx, .int .i64 W, .int .i64 V, .int .i64 n, .int .i64 m, .slice ao' cs.length cap'] 56)).alloc (.cells #[.int .i64 0, .int .i64 0, .string ⟨#[]⟩, .slice none 0 0] 32)) w.heap.size 56 #[.int .i64 0, .int .i64 z1, .string tx, .int .i64 W, .int .i64 V, .int .i64 n, .int .i64 m, .slice ao' cs.length cap'] := At.alloc (At.new w _ _) _
    have hA0 : At ((w.alloc (.cells #[.int .i64 0, .int .i64 z1, .string tx, .int .i64 W, .int .i64 V, .int .i64 n, .int .i64 m, .slice ao' cs.length cap'] 56)).alloc (.cells #[.int .i64 0, .int .i64 0, .string ⟨#[]⟩, .slice none 0 0] 32)) (w.heap.size + 1) 32 #[.int .i64 0, .int .i64 0, .string ⟨#[]⟩, .slice none 0 0] := by
      have h := At.new (w.alloc (.cells #[.int .i64 0, .int .i64 z1, .string tx, .int .i64 W, .int .i64 V, .int .i64 n, .int .i64 m, .slice ao' cs.length cap'] 56)) 32 #[.int .i64 0, .int .i64 0, .string ⟨#[]⟩, .slice none 0 0]
      simpa using h
    have hL0 := (unhide HL).grown hg0 (by simp)
    have hO0 := World.ownsRow.alloc (World.ownsRow.alloc (unhide HO) (.cells #[.int .i64 0, .int .i64 z1, .string tx, .int .i64 W, .int .i64 V, .int .i64 n, .int .i64 m, .slice ao' cs.length cap'] 56)) (.cells #[.int .i64 0, .int .i64 0, .string ⟨#[]⟩, .slice none 0 0] 32)
    have hrf := hide (refusal_any tx z1 (.slice ao' cs.length cap') W V n m view fuel ab ao cin zs hl (by omega) (by omega) _ hL0)
    have hB0 : Below w.heap.size w ((w.alloc (.cells #[.int .i64 0, .int .i64 z1, .string tx, .int .i64 W, .int .i64 V, .int .i64 n, .int .i64 m, .slice ao' cs.length cap'] 56)).alloc (.cells #[.int .i64 0, .int .i64 0, .string ⟨#[]⟩, .slice none 0 0] 32)) := ((Below.refl w.heap.size w).alloc (Nat.le_refl _) _).alloc (by simp) _
    have HK0 := hide hK0
    have HA0 := hide hA0
    have HL0 := hide hL0
    have HO0 := hide hO0
    have HB0 := hide hB0
    clear hg0 hK0 hA0 hL0 hO0 hB0
    go_enter Try.func24, Try.ntmps24
    go_wp2_with fail
    refine (unhide hrf).mono ?_
    rintro e w3 ⟨rfl, hg3⟩
    have hA3 := At.grown (unhide HA0) hg3 (by simp)
    have hK3 := At.grown (unhide HK0) hg3 (by simp)
    have hL3 := Lies.grown (unhide HL0) hg3 (by simp)
    have hO3 := World.ownsRow.kept (unhide HO0) hg3 (by
      cases h' : (Value.slice ao' cs.length cap').ownBlock with
      | none => exact .inl rfl
      | some k => exact .inr (by simp))
    have hB3 : Below w.heap.size w w3 := (unhide HB0).trans ⟨hg3.os, hg3.tape, hg3.output, hg3.size, fun k hk => hg3.block k (by simp; omega) (by simp)⟩
    have hsz3 := hA3.lt
    have r0 := hA3.cell 0
    have r1 := hA3.cell 1
    have r2 := hA3.cell 2
    have r3 := hA3.cell 3
    have rf := fun j => hA3.frozen j
    simp at r0 r1 r2 r3
    obtain ⟨k0, k1, k2, k3, k4, k5, k6, k7, kf⟩ := At.eight hK3
    have HO3 := hide hO3
    have HL3 := hide hL3
    clear hO3 hL3 hrf
    by_cases hz : rfs V (n + m) view zs fuel = 0
    · have hb : (rfs V (n + m) view zs fuel != 0) = false := by simpa using hz
      have hP2 : P = (0, runP V view n m fuel.toNat cs (fuel.toNat + 1) 0 zs [] 0) := by
        have h := unhide HPP
        rw [if_neg (by rw [hz]; simp)] at h; exact h
      have HP2 := hide hP2
      obtain ⟨hv, hin, hfu⟩ := rfs_ok hz
      obtain ⟨hzl, hft⟩ := inB_fits hin
      obtain ⟨fu, rfl⟩ := Int.eq_ofNat_of_zero_le (show 0 ≤ fuel by omega)
      have hrk := mRun_any tx W view n m fu cs cap' ao' kb ⟨ab, ao, none⟩ cin zs w3 hw1 hw8 (by rw [← unhide HV]; exact unhide Hcs) (unhide HO3) hcl (unhide HL3) hzl (by omega) (by rw [← unhide HV]; exact hft) (by omega) (by omega) (by omega) 0 z1
      rw [← unhide HV] at hrk
      simp only [Int.toNat_natCast] at HP2
      have hrl := runP_len V view n m fu cs (fu + 1) 0 zs [] 0
      generalize runP V view n m fu cs (fu + 1) 0 zs [] 0 = R at *
      have Hrk := hide hrk
      have Hrl := hide hrl
      have Hz := hide hz
      clear hrk hrl hz hin hP2 hzl hft hv hfu
      go_wp2_with fail
      refine (unhide Hrk).mono ?_
      rintro e w4 ⟨gs, rfl, hAg, hgs, hB4⟩
      have hA4 : At w4 (w.heap.size + 1) 32 #[.int .i64 0, .int .i64 0, .string ⟨#[]⟩, .slice none 0 0] := hA3.below hB4 (by omega)
      clear r0 r1 r2 r3 rf k0 k1 k2 k3 k4 k5 k6 k7 kf
      have r0 := hA4.cell 0
      have r1 := hA4.cell 1
      have r2 := hA4.cell 2
      have r3 := hA4.cell 3
      have rf := fun j => hA4.frozen j
      simp at r0 r1 r2 r3
      go_wp2_with fail
      refine bodyPost_ret (v := .tuple #[.agg #[.int .i64 R.tag, .int .i64 R.steps, .string (strOfNums R.sn), .slice (some ⟨gs, 0, none⟩) zs.length zs.length], .int .i64 0]) (by simp [results, Try.results24, go_sem, r0, r1, r2, r3]) rfl ⟨.slice (some ⟨gs, 0, none⟩) zs.length zs.length, by rw [unhide HP2], .inr ⟨gs, by rw [unhide HP2]; dsimp only; rw [unhide Hrl], ?_, by omega⟩, ?_⟩
      · rw [unhide HP2]; exact (((hAg.other _ (by show w.heap.size + 1 ≠ gs; omega)).other _ (by show w.heap.size + 1 ≠ gs; omega)).other _ (by show w.heap.size + 1 ≠ gs; omega)).other _ (by show w.heap.size + 1 ≠ gs; omega)
      · exact ((((hB3.trans (hB4.mono (by omega))).setCell (Nat.le_succ _) _).setCell (Nat.le_succ _) _).setCell (Nat.le_succ _) _).setCell (Nat.le_succ _) _
    · have hb : (rfs V (n + m) view zs fuel != 0) = true := by simpa using hz
      have hP2 : P = (rfs V (n + m) view zs fuel, zres) := by
        have h := unhide HPP
        rw [if_pos hz] at h; exact h
      have HP2 := hide hP2
      clear hP2 hz
      go_wp2_with fail
      refine bodyPost_ret (v := .tuple #[.agg #[.int .i64 0, .int .i64 0, .string ⟨#[]⟩, .slice none 0 0], .int .i64 (rfs V (n + m) view zs fuel)]) (by simp [results, Try.results24, go_sem, r0, r1, r2, r3]) rfl ⟨.slice none 0 0, by rw [unhide HP2]; rfl, .inl ⟨by rw [unhide HP2]; rfl, rfl⟩, ?_⟩
      exact (((hB3.setCell (Nat.le_succ _) _).setCell (Nat.le_succ _) _).setCell (Nat.le_succ _) _).setCell (Nat.le_succ _) _
  · have hPP : P = (q.e, zres) := by rw [← unhide HP, Pg.run, if_pos he]
    have HPP := hide hPP
    have hb : (q.e != 0) = true := by simpa using he
    clear hPP HP
    obtain ⟨qe, z1, tx, W, V, n, m, cs⟩ := q
    dsimp only at *
    have hA0 : At ((w.alloc (.cells #[.int .i64 qe, .int .i64 z1, .string tx, .int .i64 W, .int .i64 V, .int .i64 n, .int .i64 m, .slice ao' cs.length cap'] 56)).alloc (.cells #[.int .i64 0, .int .i64 0, .string ⟨#[]⟩, .slice none 0 0] 32)) (w.heap.size + 1) 32 #[.int .i64 0, .int .i64 0, .string ⟨#[]⟩, .slice none 0 0] := by
      have h := At.new (w.alloc (.cells #[.int .i64 qe, .int .i64 z1, .string tx, .int .i64 W, .int .i64 V, .int .i64 n, .int .i64 m, .slice ao' cs.length cap'] 56)) 32 #[.int .i64 0, .int .i64 0, .string ⟨#[]⟩, .slice none 0 0]
      simpa using h
    have hB0 : Below w.heap.size w ((w.alloc (.cells #[.int .i64 qe, .int .i64 z1, .string tx, .int .i64 W, .int .i64 V, .int .i64 n, .int .i64 m, .slice ao' cs.length cap'] 56)).alloc (.cells #[.int .i64 0, .int .i64 0, .string ⟨#[]⟩, .slice none 0 0] 32)) := ((Below.refl w.heap.size w).alloc (Nat.le_refl _) _).alloc (by simp) _
    have hrf := hide (refusal_err qe z1 tx W V n m ao' cs.length cap' view fuel (some ⟨ab, ao, none⟩) zs.length cin he ((w.alloc (.cells #[.int .i64 qe, .int .i64 z1, .string tx, .int .i64 W, .int .i64 V, .int .i64 n, .int .i64 m, .slice ao' cs.length cap'] 56)).alloc (.cells #[.int .i64 0, .int .i64 0, .string ⟨#[]⟩, .slice none 0 0] 32)))
    have HA0 := hide hA0
    have HB0 := hide hB0
    clear hA0 hB0 he hq hO hL
    go_enter Try.func24, Try.ntmps24
    go_wp2_with fail
    refine (unhide hrf).mono ?_
    rintro e w3 ⟨rfl, hg3⟩
    have hA3 := At.grown (unhide HA0) hg3 (by simp)
    have hB3 : Below w.heap.size w w3 := (unhide HB0).trans ⟨hg3.os, hg3.tape, hg3.output, hg3.size, fun k hk => hg3.block k (by simp; omega) (by simp)⟩
    have r0 := hA3.cell 0
    have r1 := hA3.cell 1
    have r2 := hA3.cell 2
    have r3 := hA3.cell 3
    have rf := fun j => hA3.frozen j
    simp at r0 r1 r2 r3
    go_wp2_with fail
    refine bodyPost_ret (v := .tuple #[.agg #[.int .i64 0, .int .i64 0, .string ⟨#[]⟩, .slice none 0 0], .int .i64 qe]) (by simp [results, Try.results24, go_sem, r0, r1, r2, r3]) rfl ⟨.slice none 0 0, by rw [unhide HPP]; rfl, .inl ⟨by rw [unhide HPP]; rfl, rfl⟩, ?_⟩
    exact (((hB3.setCell (Nat.le_succ _) _).setCell (Nat.le_succ _) _).setCell (Nat.le_succ _) _).setCell (Nat.le_succ _) _

/-- A kernel as it is read. -/
def kerP (s : ByteArray) : Pg :=
  if 300 < s.size then ⟨1, 0, ⟨#[]⟩, 0, 0, 0, 0, []⟩
  else if krnBad s = true then ⟨2, (krn s).p, ⟨#[]⟩, 0, 0, 0, 0, []⟩
  else ⟨0, 0, s.extract 0 (hdr s).1, (hdr s).2.2.1, pw (hdr s).2.2.1, (hdr s).2.2.2.1, (hdr s).2.2.2.2, (krn s).cs⟩

theorem kerP_e (s : ByteArray) : (kerP s).e = (chk s).1 := by
  unfold kerP chk
  split
  · rfl
  · split <;> rfl
theorem kerP_good {s : ByteArray} (h : (chk s).1 = 0) : kerP s = ⟨0, 0, s.extract 0 (hdr s).1, (hdr s).2.2.1, pw (hdr s).2.2.1, (hdr s).2.2.2.1, (hdr s).2.2.2.2, (krn s).cs⟩ := by
  obtain ⟨h1, h2⟩ := chk_ok h
  rw [kerP, if_neg h1, if_neg (by rw [h2]; simp)]
theorem kerP_ok {s : ByteArray} (h : (kerP s).e = 0) : (kerP s).OK := by
  rw [kerP_e] at h
  rw [kerP_good h]
  obtain ⟨h1, h2⟩ := chk_ok h
  exact ⟨(hdr_wid s).1, (hdr_wid s).2, rfl, hdr_vars s, hdr_words s, krn_ok s h2, by have := krn_len s; dsimp only; omega⟩
theorem pRun_eq (s : ByteArray) (view : Int) (zs : List Int) (fuel : Int) : pRun s view zs fuel = (kerP s).run view zs fuel := by
  unfold pRun Pg.run
  by_cases h : (chk s).1 = 0
  · rw [if_neg (fun k => k h), kerP_good h]; rfl
  · rw [kerP_e, if_pos h, if_pos h]

theorem readKernel_pg (s : ByteArray) (hmx : s.size ≤ maxLen) (w : World) :
    Calls Try.prog 22 #[.string s] w fun e w' => ∃ ao cap, e = .returned ((kerP s).val ao cap) ∧ Below w.heap.size w w' ∧ Own w' (w.heap.size + 1) (.slice ao (kerP s).cs.length cap) (kerP s).cs := by
  refine (readKernel_any s hmx w).mono ?_
  rintro e w' ⟨ao, n, cap, rfl, hB, hO⟩
  unfold kernV kerP
  by_cases h1 : 300 < s.size
  · rw [if_pos h1, if_pos h1]
    exact ⟨none, 0, rfl, hB, World.ownsRow_nil _ _ _ _⟩
  · rw [if_neg h1, if_neg h1]
    by_cases h2 : krnBad s = true
    · rw [if_pos h2, if_pos h2]
      exact ⟨none, 0, rfl, hB, World.ownsRow_nil _ _ _ _⟩
    · rw [if_neg h2, if_neg h2]
      have h := hO (by omega)
      obtain ⟨ao2, cap2, e⟩ := h.shape
      rw [e] at h ⊢
      exact ⟨ao2, cap2, rfl, hB, h⟩

set_option maxHeartbeats 1000000 in
theorem leakRun_any (s : ByteArray) (hmx : s.size ≤ maxLen) (view fuel : Int) (ab ao cin : Nat) (zs : List Int) (hl : zs.length ≤ 9223372036854775807) (w : World) (hL : Lies w ⟨ab, ao, none⟩ zs) (hab : ab < w.heap.size) :
    Calls Try.prog 9 #[.string s, .int .i64 view, .slice (some ⟨ab, ao, none⟩) zs.length cin, .int .i64 fuel] w fun e w' => ∃ st, e = .returned (.tuple #[.agg #[.int .i64 (pRun s view zs fuel).2.tag, .int .i64 (pRun s view zs fuel).2.steps, .string (strOfNums (pRun s view zs fuel).2.sn), st], .int .i64 (pRun s view zs fuel).1]) ∧ StV w' w.heap.size st (pRun s view zs fuel).2.σ ∧ Below w.heap.size w w' := by
  rw [pRun_eq]
  have hrk := readKernel_pg s hmx
  have hok : (kerP s).e = 0 → (kerP s).OK := kerP_ok
  generalize kerP s = q at *
  have HL := hide hL
  have Hok := hide hok
  have Hrk := hide hrk
  have hsz : ∀ w1 : World, Below w.heap.size w w1 → Lies w1 ⟨ab, ao, none⟩ zs := fun w1 hB => (unhide HL).below hB hab
  have Hsz := hide hsz
  clear hrk hok hL hsz
  generalize hP : q.run view zs fuel = P
  have HP := hide hP
  clear hP
  go_enter Try.func9, Try.ntmps9
  go_wp2_with fail
  refine (unhide Hrk _).mono ?_
  rintro e w1 ⟨ao', cap', rfl, hB1, hO1⟩
  have hA1 : At w1 w.heap.size 32 #[.int .i64 0, .int .i64 0, .string ⟨#[]⟩, .slice none 0 0] := (At.new w 32 #[.int .i64 0, .int .i64 0, .string ⟨#[]⟩, .slice none 0 0]).below hB1 (by simp)
  have hBa := ((Below.refl w.heap.size w).alloc (Nat.le_refl _) (.cells #[.int .i64 0, .int .i64 0, .string ⟨#[]⟩, .slice none 0 0] 32)).trans (hB1.mono (by simp))
  have hcall := run_gen q (unhide Hok) ao' cap' _ view fuel ab ao cin zs hl w1 hO1 (unhide Hsz w1 hBa)
  rw [unhide HP] at hcall
  have Hcall := hide hcall
  have HA1 := hide hA1
  clear hcall hA1 hO1 Hsz Hok Hrk
  go_wp2_with fail
  refine (unhide Hcall).mono ?_
  rintro e w2 ⟨st, rfl, hst, hB2⟩
  have hA2 := (unhide HA1).below hB2 (unhide HA1).lt
  have hBB := hBa.trans (hB2.mono hBa.size)
  have r0 := hA2.cell 0
  have r1 := hA2.cell 1
  have r2 := hA2.cell 2
  have r3 := hA2.cell 3
  have rf := fun j => hA2.frozen j
  simp at r0 r1 r2 r3
  have hlt := (unhide HA1).lt
  obtain ⟨a1, l1, c1, rfl⟩ : ∃ a1 l1 c1, st = .slice a1 l1 c1 := by
    rcases hst with ⟨_, h⟩ | ⟨gs, h, _⟩
    · exact ⟨_, _, _, h⟩
    · exact ⟨_, _, _, h⟩
  have hst2 : ∀ v0 v1 v2 v3, StV ((((w2.setCell ⟨w.heap.size, 0, none⟩ v0).setCell ⟨w.heap.size, 1, none⟩ v1).setCell ⟨w.heap.size, 2, none⟩ v2).setCell ⟨w.heap.size, 3, none⟩ v3) w.heap.size (.slice a1 l1 c1) P.2.σ := fun v0 v1 v2 v3 => by
    rcases hst with h | ⟨gs, h, hA, hgs⟩
    · exact .inl h
    · exact .inr ⟨gs, h, (((hA.other _ (by show w.heap.size ≠ gs; omega)).other _ (by show w.heap.size ≠ gs; omega)).other _ (by show w.heap.size ≠ gs; omega)).other _ (by show w.heap.size ≠ gs; omega), by omega⟩
  have Hst2 := hide hst2
  clear hst hst2 Hcall HA1
  go_wp2_with fail
  refine bodyPost_ret (v := .tuple #[.agg #[.int .i64 P.2.tag, .int .i64 P.2.steps, .string (strOfNums P.2.sn), .slice a1 l1 c1], .int .i64 P.1]) (by simp [results, Try.results9, go_sem, r0, r1, r2, r3]) rfl ⟨.slice a1 l1 c1, rfl, unhide Hst2 _ _ _ _, ?_⟩
  exact (((hBB.setCell (Nat.le_refl _) _).setCell (Nat.le_refl _) _).setCell (Nat.le_refl _) _).setCell (Nat.le_refl _) _
end Go.Proofs.Ytnkbfdbbcaffmab
/-
  Runs of commands: with more fuel, in other views.
-/
namespace Go.Proofs.Ytnkbfdbbcaffmab
open Go.RowKit

section
variable (V view : Int) (n m : Nat) (cs : List Cm)

theorem runP_none {f g : Nat} {i : Int} {σ sn : List Int} {st : Nat} (h : cs[i.toNat]? = none) : runP V view n m f cs (g + 1) i σ sn st = ⟨1, st, sn, σ⟩ := by
  rw [runP, h]
theorem runP_dry {f g : Nat} {i : Int} {σ sn : List Int} {st : Nat} {c : Cm} (h : cs[i.toNat]? = some c) (hf : f ≤ st) : runP V view n m f cs (g + 1) i σ sn st = ⟨3, st, sn, σ⟩ := by
  rw [runP, h]
  dsimp only
  rw [if_pos hf]
theorem runP_trap {f g : Nat} {i : Int} {σ sn : List Int} {st : Nat} {c : Cm} (h : cs[i.toNat]? = some c) (hf : ¬ f ≤ st) (ht : (act V view n m σ c).2.2.1 = true) : runP V view n m f cs (g + 1) i σ sn st = ⟨2, st + 1, sn ++ (act V view n m σ c).2.1, (act V view n m σ c).1⟩ := by
  rw [runP, h]
  dsimp only
  rw [if_neg hf, if_pos ht]
theorem runP_step {f g : Nat} {i : Int} {σ sn : List Int} {st : Nat} {c : Cm} (h : cs[i.toNat]? = some c) (hf : ¬ f ≤ st) (ht : ¬ (act V view n m σ c).2.2.1 = true) : runP V view n m f cs (g + 1) i σ sn st = runP V view n m f cs g (act V view n m σ c).2.2.2 (act V view n m σ c).1 (sn ++ (act V view n m σ c).2.1) (st + 1) := by
  rw [runP, h]
  dsimp only
  rw [if_neg hf, if_neg ht]

theorem runP_mono (f : Nat) : ∀ g i σ sn st, st ≤ (runP V view n m f cs g i σ sn st).steps ∧ ∃ t, (runP V view n m f cs g i σ sn st).sn = sn ++ t
  | 0, i, σ, sn, st => ⟨Nat.le_refl _, [], by simp [runP]⟩
  | g + 1, i, σ, sn, st => by
    cases hc : cs[i.toNat]? with
    | none => rw [runP_none V view n m cs hc]; exact ⟨Nat.le_refl _, [], by simp⟩
    | some c =>
      by_cases hf : f ≤ st
      · rw [runP_dry V view n m cs hc hf]; exact ⟨Nat.le_refl _, [], by simp⟩
      · by_cases ht : (act V view n m σ c).2.2.1 = true
        · rw [runP_trap V view n m cs hc hf ht]; exact ⟨Nat.le_succ _, _, rfl⟩
        · rw [runP_step V view n m cs hc hf ht]
          obtain ⟨h1, t, h2⟩ := runP_mono f g (act V view n m σ c).2.2.2 (act V view n m σ c).1 (sn ++ (act V view n m σ c).2.1) (st + 1)
          exact ⟨by omega, _, by rw [h2, List.append_assoc]⟩

theorem runP_tag (f : Nat) : ∀ g i σ sn st, (runP V view n m f cs g i σ sn st).tag = 1 ∨ (runP V view n m f cs g i σ sn st).tag = 2 ∨ (runP V view n m f cs g i σ sn st).tag = 3
  | 0, i, σ, sn, st => .inr (.inr rfl)
  | g + 1, i, σ, sn, st => by
    cases hc : cs[i.toNat]? with
    | none => rw [runP_none V view n m cs hc]; exact .inl rfl
    | some c =>
      by_cases hf : f ≤ st
      · rw [runP_dry V view n m cs hc hf]; exact .inr (.inr rfl)
      · by_cases ht : (act V view n m σ c).2.2.1 = true
        · rw [runP_trap V view n m cs hc hf ht]; exact .inr (.inl rfl)
        · rw [runP_step V view n m cs hc hf ht]
          exact runP_tag f g _ _ _ _

/-- With more fuel. -/
theorem runP_more (f f' : Nat) (hff : f ≤ f') : ∀ g i σ sn st, st ≤ f → g + st = f + 1 →
    (runP V view n m f cs g i σ sn st).steps ≤ f ∧
    ((runP V view n m f cs g i σ sn st).tag ≠ 3 → runP V view n m f' cs (g + (f' - f)) i σ sn st = runP V view n m f cs g i σ sn st) ∧
    ((runP V view n m f cs g i σ sn st).tag = 3 → (runP V view n m f cs g i σ sn st).steps = f ∧ f ≤ (runP V view n m f' cs (g + (f' - f)) i σ sn st).steps ∧ ∃ t, (runP V view n m f' cs (g + (f' - f)) i σ sn st).sn = (runP V view n m f cs g i σ sn st).sn ++ t)
  | 0, i, σ, sn, st, h1, h2 => by omega
  | g + 1, i, σ, sn, st, h1, h2 => by
    have e : g + 1 + (f' - f) = (g + (f' - f)) + 1 := by omega
    rw [e]
    cases hc : cs[i.toNat]? with
    | none =>
      rw [runP_none V view n m cs hc, runP_none V view n m cs hc]
      exact ⟨h1, fun _ => rfl, fun h => by cases h⟩
    | some c =>
      by_cases hf : f ≤ st
      · rw [runP_dry V view n m cs hc hf]
        have hm := runP_mono V view n m cs f' (g + (f' - f) + 1) i σ sn st
        have est : st = f := by omega
        exact ⟨h1, fun h => absurd rfl h, fun _ => ⟨est, by have := hm.1; omega, hm.2⟩⟩
      · have hf' : ¬ f' ≤ st := by omega
        by_cases ht : (act V view n m σ c).2.2.1 = true
        · rw [runP_trap V view n m cs hc hf ht, runP_trap V view n m cs hc hf' ht]
          exact ⟨by show st + 1 ≤ f; omega, fun _ => rfl, fun h => by cases h⟩
        · rw [runP_step V view n m cs hc hf ht, runP_step V view n m cs hc hf' ht]
          exact runP_more f f' hff g _ _ _ _ (by omega) (by omega)
end

/-- What happens at a command, whatever the view shows of it: a test; a word is touched; a division. -/
abbrev Ev : Type := Bool ⊕ (Int × Bool) ⊕ (Int × Int)
def Ev.tf (b : Bool) : Ev := .inl b
def Ev.md (x : Int) (o : Bool) : Ev := .inr (.inl (x, o))
def Ev.dv (x y : Int) : Ev := .inr (.inr (x, y))

def evB (view : Int) : Ev → List Int
  | .inl b => [if b = true then 116 else 102]
  | .inr (.inl (x, o)) => 109 :: hxd (shn view x / 16) :: hxd (shn view x % 16) :: (if o = true then [111] else [])
  | .inr (.inr (x, y)) => (if y = 0 then 120 else 118) :: (if view = 1 then [hxd (btc 8 x), hxd (btc 8 y)] else [])
def Ev.trap : Ev → Bool
  | .inl _ => false
  | .inr (.inl (_, o)) => o
  | .inr (.inr (_, y)) => decide (y = 0)
def Ev.ok : Ev → Prop
  | .inl _ => True
  | .inr (.inl (x, _)) => 0 ≤ x ∧ x ≤ 255
  | .inr (.inr _) => True
def flatE (view : Int) (es : List Ev) : List Int := es.flatMap (evB view)
theorem flatE_append (view : Int) (a b : List Ev) : flatE view (a ++ b) = flatE view a ++ flatE view b := by simp [flatE]
theorem flatE_cons (view : Int) (a : Ev) (b : List Ev) : flatE view (a :: b) = evB view a ++ flatE view b := by simp [flatE]

def evOf (σ : List Int) (m : Nat) (c : Cm) : List Ev :=
  if c.kind = 61 then (if isDiv c.op = true then [Ev.dv (vl σ c.xn c.xv.toNat) (vl σ c.yn c.yv.toNat)] else [])
  else if c.kind = 108 ∨ c.kind = 115 then [Ev.md (vl σ c.xn c.xv.toNat) (decide ((m : Int) ≤ vl σ c.xn c.xv.toNat))]
  else if c.kind = 106 ∨ c.kind = 104 then []
  else [Ev.tf (decide (vl σ c.xn c.xv.toNat ≠ 0))]

theorem evOf_mem {σ : List Int} {m : Nat} {c : Cm} (h : c.kind = 108 ∨ c.kind = 115) : evOf σ m c = [Ev.md (vl σ c.xn c.xv.toNat) (decide ((m : Int) ≤ vl σ c.xn c.xv.toNat))] := by
  unfold evOf
  rw [if_neg (by rcases h with h | h <;> rw [h] <;> decide), if_pos h]
theorem evOf_tst {σ : List Int} {m : Nat} {c : Cm} (h1 : ¬ c.kind = 61) (h2 : ¬ c.kind = 108) (h3 : ¬ c.kind = 115) (h4 : ¬ (c.kind = 106 ∨ c.kind = 104)) : evOf σ m c = [Ev.tf (decide (vl σ c.xn c.xv.toNat ≠ 0))] := by
  unfold evOf
  rw [if_neg h1, if_neg (by rintro (h | h) <;> contradiction), if_neg h4]
theorem evOf_jmp {σ : List Int} {m : Nat} {c : Cm} (h4 : c.kind = 106 ∨ c.kind = 104) : evOf σ m c = [] := by
  unfold evOf
  rw [if_neg (by omega), if_neg (by omega), if_pos h4]

theorem act_ev (V view : Int) (n m : Nat) (σ : List Int) (c : Cm) : (act V view n m σ c).2.1 = flatE view (evOf σ m c) := by
  by_cases h1 : c.kind = 61
  · unfold act evOf
    rw [if_pos h1, if_pos h1]
    unfold actSet
    by_cases hd : isDiv c.op = true
    · rw [if_pos hd, if_pos hd]
      split <;> simp [flatE, evB, Ev.dv, sdB] <;> split <;> simp
    · rw [if_neg hd, if_neg hd]; rfl
  · by_cases h2 : c.kind = 108
    · rw [evOf_mem (.inl h2), act, if_neg h1, if_pos h2]
      split <;> rename_i h <;> simp [flatE, evB, Ev.md, swB, h]
    · by_cases h3 : c.kind = 115
      · rw [evOf_mem (.inr h3), act, if_neg h1, if_neg h2, if_pos h3]
        split <;> rename_i h <;> simp [flatE, evB, Ev.md, swB, h]
      · by_cases h4 : c.kind = 106 ∨ c.kind = 104
        · rw [evOf_jmp h4, act, if_neg h1, if_neg h2, if_neg h3, if_pos h4]; rfl
        rw [evOf_tst h1 h2 h3 h4, act, if_neg h1, if_neg h2, if_neg h3, if_neg h4]
        by_cases h0 : vl σ c.xn c.xv.toNat = 0 <;> simp [flatE, evB, Ev.tf, h0]

theorem act_view (V view : Int) (n m : Nat) (σ : List Int) (c : Cm) : (act V view n m σ c).1 = (act V 0 n m σ c).1 ∧ (act V view n m σ c).2.2 = (act V 0 n m σ c).2.2 := by
  unfold act
  by_cases h1 : c.kind = 61
  · rw [if_pos h1, if_pos h1]
    unfold actSet
    by_cases hd : isDiv c.op = true
    · rw [if_pos hd, if_pos hd]
      split <;> exact ⟨rfl, rfl⟩
    · rw [if_neg hd, if_neg hd]; exact ⟨rfl, rfl⟩
  · rw [if_neg h1, if_neg h1]
    by_cases h2 : c.kind = 108
    · rw [if_pos h2, if_pos h2]
      split <;> exact ⟨rfl, rfl⟩
    · rw [if_neg h2, if_neg h2]
      by_cases h3 : c.kind = 115
      · rw [if_pos h3, if_pos h3]
        split <;> exact ⟨rfl, rfl⟩
      · rw [if_neg h3, if_neg h3]
        split <;> exact ⟨rfl, rfl⟩

theorem act_trap (V view : Int) (n m : Nat) (σ : List Int) (c : Cm) : ((act V view n m σ c).2.2.1 = true ∧ ∃ e, evOf σ m c = [e] ∧ e.trap = true) ∨ ((act V view n m σ c).2.2.1 = false ∧ ∀ e ∈ evOf σ m c, e.trap = false) := by
  by_cases h1 : c.kind = 61
  · unfold act evOf
    rw [if_pos h1, if_pos h1]
    unfold actSet
    by_cases hd : isDiv c.op = true
    · rw [if_pos hd, if_pos hd]
      split
      · rename_i h
        exact .inl ⟨rfl, _, rfl, by simp [Ev.trap, Ev.dv, h]⟩
      · rename_i h
        exact .inr ⟨rfl, by simp [Ev.trap, Ev.dv, h]⟩
    · rw [if_neg hd, if_neg hd]; exact .inr ⟨rfl, by simp⟩
  · by_cases h2 : c.kind = 108
    · rw [evOf_mem (.inl h2), act, if_neg h1, if_pos h2]
      split
      · rename_i h
        exact .inl ⟨rfl, _, rfl, by simp [Ev.trap, Ev.md, h]⟩
      · rename_i h
        exact .inr ⟨rfl, by simp [Ev.trap, Ev.md]; omega⟩
    · by_cases h3 : c.kind = 115
      · rw [evOf_mem (.inr h3), act, if_neg h1, if_neg h2, if_pos h3]
        split
        · rename_i h
          exact .inl ⟨rfl, _, rfl, by simp [Ev.trap, Ev.md, h]⟩
        · rename_i h
          exact .inr ⟨rfl, by simp [Ev.trap, Ev.md]; omega⟩
      · by_cases h4 : c.kind = 106 ∨ c.kind = 104
        · rw [evOf_jmp h4, act, if_neg h1, if_neg h2, if_neg h3, if_pos h4]; exact .inr ⟨rfl, by simp⟩
        rw [evOf_tst h1 h2 h3 h4, act, if_neg h1, if_neg h2, if_neg h3, if_neg h4]
        exact .inr ⟨rfl, by simp [Ev.trap, Ev.tf]⟩

theorem evOf_ok {W n : Nat} {m : Nat} {σ : List Int} {c : Cm} (hc : CmOK (pw W) n c) (hf : Fits (pw W) σ) (hn : n ≤ σ.length) (hW : W ≤ 8) : ∀ e ∈ evOf σ m c, e.ok := by
  have b := vl_bd hf hc.x hn
  have hb := pw_bd W hW
  unfold evOf
  intro e he
  split at he
  · split at he
    · simp at he; subst he; trivial
    · simp at he
  · split at he
    · simp at he; subst he; exact ⟨b.1, by omega⟩
    · split at he
      · simp at he
      · simp at he; subst he; trivial

/-- One run, in all views. -/
theorem runP_views {W n m : Nat} {cs : List Cm} (hW1 : 1 ≤ W) (hW : W ≤ 8) (hcs : CsOK (pw W) n cs) (f : Nat) : ∀ (g : Nat) (i : Int) (σ : List Int) (st : Nat) (es0 : List Ev), Fits (pw W) σ → n + m = σ.length → (∀ e ∈ es0, e.ok ∧ e.trap = false) →
    ∃ (tag : Int) (steps : Nat) (σ' : List Int) (es : List Ev), (∀ view, runP (pw W) view n m f cs g i σ (flatE view es0) st = ⟨tag, steps, flatE view es, σ'⟩) ∧ (∀ e ∈ es, e.ok) ∧ ((tag = 2 ∧ ∃ es1 e, es = es1 ++ [e] ∧ e.trap = true) ∨ (tag ≠ 2 ∧ ∀ e ∈ es, e.trap = false))
  | 0, i, σ, st, es0, hf, hn, h0 => ⟨3, st, σ, es0, fun _ => rfl, fun e he => (h0 e he).1, .inr ⟨by decide, fun e he => (h0 e he).2⟩⟩
  | g + 1, i, σ, st, es0, hf, hn, h0 => by
    cases hc : cs[i.toNat]? with
    | none => exact ⟨1, st, σ, es0, fun _ => runP_none _ _ _ _ _ hc, fun e he => (h0 e he).1, .inr ⟨by decide, fun e he => (h0 e he).2⟩⟩
    | some c =>
      by_cases hfu : f ≤ st
      · exact ⟨3, st, σ, es0, fun _ => runP_dry _ _ _ _ _ hc hfu, fun e he => (h0 e he).1, .inr ⟨by decide, fun e he => (h0 e he).2⟩⟩
      · have hmem : c ∈ cs := List.mem_of_getElem? hc
        have hco := (hcs c hmem).1
        have hok := evOf_ok (m := m) hco hf (by omega) hW
        have hall : ∀ e ∈ es0 ++ evOf σ m c, e.ok := fun e he => by
          rcases List.mem_append.1 he with he | he
          · exact (h0 e he).1
          · exact hok e he
        rcases act_trap (pw W) 0 n m σ c with ⟨ht, e, he, hte⟩ | ⟨ht, hnt⟩
        · refine ⟨2, st + 1, (act (pw W) 0 n m σ c).1, es0 ++ evOf σ m c, fun view => ?_, hall, .inl ⟨rfl, es0, e, by rw [he], hte⟩⟩
          have ht' : (act (pw W) view n m σ c).2.2.1 = true := by rw [(act_view _ view n m σ c).2]; exact ht
          rw [runP_trap _ _ _ _ _ hc hfu ht', act_ev, (act_view _ view n m σ c).1, flatE_append]
        · obtain ⟨tag, steps, σ', es, h1, h2, h3⟩ := runP_views hW1 hW hcs f g (act (pw W) 0 n m σ c).2.2.2 (act (pw W) 0 n m σ c).1 (st + 1) (es0 ++ evOf σ m c) (act_fits hco hf hn hW1) (by rw [act_σlen]; exact hn) (fun e he => ⟨hall e he, by
            rcases List.mem_append.1 he with he | he
            · exact (h0 e he).2
            · exact hnt e he⟩)
          refine ⟨tag, steps, σ', es, fun view => ?_, h2, h3⟩
          have ht' : ¬ (act (pw W) view n m σ c).2.2.1 = true := by rw [(act_view _ view n m σ c).2, ht]; simp
          rw [runP_step _ _ _ _ _ hc hfu ht', act_ev, (act_view _ view n m σ c).1, (act_view _ view n m σ c).2, ← flatE_append]
          exact h1 view

/-- Half of each number of a line, of so many pieces. -/
def HvN : Nat → List Int → List Int → Prop
  | 0, l, u => l = [] ∧ u = []
  | k + 1, l, u => (∃ c t u', l = c :: t ∧ u = c :: u' ∧ c ≠ 109 ∧ HvN k t u') ∨ (∃ a b t u', l = 109 :: hxd a :: hxd b :: t ∧ u = 109 :: hxd ((16 * a + b) / 2 / 16) :: hxd ((16 * a + b) / 2 % 16) :: u' ∧ 0 ≤ a ∧ a < 16 ∧ 0 ≤ b ∧ b < 16 ∧ HvN k t u')
def Hv (l u : List Int) : Prop := ∃ k, HvN k l u
theorem Hv.nil : Hv [] [] := ⟨0, rfl, rfl⟩
theorem Hv.one (c : Int) (t u : List Int) (h : c ≠ 109) : Hv t u → Hv (c :: t) (c :: u) := fun ⟨k, hk⟩ => ⟨k + 1, .inl ⟨c, t, u, rfl, rfl, h, hk⟩⟩
theorem Hv.mem (a b : Int) (t u : List Int) (h1 : 0 ≤ a) (h2 : a < 16) (h3 : 0 ≤ b) (h4 : b < 16) : Hv t u → Hv (109 :: hxd a :: hxd b :: t) (109 :: hxd ((16 * a + b) / 2 / 16) :: hxd ((16 * a + b) / 2 % 16) :: u) :=
  fun ⟨k, hk⟩ => ⟨k + 1, .inr ⟨a, b, t, u, rfl, rfl, h1, h2, h3, h4, hk⟩⟩
/-- Without lengths, of so many pieces. -/
def ShrN : Nat → List Int → List Int → Prop
  | 0, l, u => l = [] ∧ u = []
  | k + 1, l, u => (∃ c t u', l = c :: t ∧ u = c :: u' ∧ c ≠ 109 ∧ c ≠ 118 ∧ c ≠ 120 ∧ ShrN k t u') ∨ (∃ a b t u', l = 109 :: a :: b :: t ∧ u = 109 :: a :: b :: u' ∧ ShrN k t u') ∨ (∃ c a b t u', l = c :: a :: b :: t ∧ u = c :: u' ∧ (c = 118 ∨ c = 120) ∧ ShrN k t u')
def Shr (l u : List Int) : Prop := ∃ k, ShrN k l u
theorem Shr.nil : Shr [] [] := ⟨0, rfl, rfl⟩
theorem Shr.one (c : Int) (t u : List Int) (h1 : c ≠ 109) (h2 : c ≠ 118) (h3 : c ≠ 120) : Shr t u → Shr (c :: t) (c :: u) := fun ⟨k, hk⟩ => ⟨k + 1, .inl ⟨c, t, u, rfl, rfl, h1, h2, h3, hk⟩⟩
theorem Shr.mem (a b : Int) (t u : List Int) : Shr t u → Shr (109 :: a :: b :: t) (109 :: a :: b :: u) := fun ⟨k, hk⟩ => ⟨k + 1, .inr (.inl ⟨a, b, t, u, rfl, rfl, hk⟩)⟩
theorem Shr.dv (c a b : Int) (t u : List Int) (h : c = 118 ∨ c = 120) : Shr t u → Shr (c :: a :: b :: t) (c :: u) := fun ⟨k, hk⟩ => ⟨k + 1, .inr (.inr ⟨c, a, b, t, u, rfl, rfl, h, hk⟩)⟩

theorem hlv_succ : ∀ (t : Nat) (x : Int), 0 ≤ x → hlv (t + 1) x = hlv t x / 2
  | 0, x, h => by
    rw [hlv, hlv]
    split
    · rfl
    · rw [show x = 0 from by omega]; rfl
  | t + 1, x, h => by
    rw [hlv]
    split
    · rename_i hx
      rw [hlv_succ t (x / 2) (by omega)]
      conv => rhs; rw [hlv, if_pos hx]
    · rw [show x = 0 from by omega, hlv_nil]; rfl

theorem shn_low (view x : Int) (h : view ≤ 2) : shn view x = x := by
  unfold shn
  split
  · rw [show view - 2 = 0 from by omega]; rfl
  · rfl
theorem shn_half (view x : Int) (h : 2 ≤ view) (hx : 0 ≤ x) : shn (view + 1) x = shn view x / 2 := by
  unfold shn
  rw [if_pos (by omega), if_pos h, show (view + 1 - 2).toNat = (view - 2).toNat + 1 from by omega]
  exact hlv_succ _ _ hx

theorem short_flat : ∀ es, Shr (flatE 1 es) (flatE 0 es)
  | [] => .nil
  | e :: es => by
    rw [flatE_cons, flatE_cons]
    have ih := short_flat es
    rcases e with b | ⟨x, o⟩ | ⟨x, y⟩
    · cases b <;> exact .one _ _ _ (by decide) (by decide) (by decide) ih
    · simp only [evB, shn_low 1 x (by omega), shn_low 0 x (by omega), List.cons_append]
      refine .mem _ _ _ _ ?_
      cases o
      · exact ih
      · exact .one _ _ _ (by decide) (by decide) (by decide) ih
    · simp only [evB, List.cons_append]
      refine .dv _ _ _ _ _ ?_ ih
      split <;> simp

theorem base_flat : ∀ es, flatE 2 es = flatE 0 es
  | [] => rfl
  | e :: es => by
    rw [flatE_cons, flatE_cons, base_flat es]
    rcases e with b | ⟨x, o⟩ | ⟨x, y⟩
    · rfl
    · simp only [evB, shn_low 2 x (by omega), shn_low 0 x (by omega)]
    · rfl

theorem half_flat (view : Int) (hv : 2 ≤ view) : ∀ es : List Ev, (∀ e ∈ es, e.ok) → Hv (flatE view es) (flatE (view + 1) es)
  | [], _ => .nil
  | e :: es, h => by
    rw [flatE_cons, flatE_cons]
    have ih := half_flat view hv es (fun e he => h e (by simp [he]))
    have hok := h e (by simp)
    rcases e with b | ⟨x, o⟩ | ⟨x, y⟩
    · cases b <;> exact .one _ _ _ (by decide) ih
    · have hx : 0 ≤ x ∧ x ≤ 255 := hok
      have hb := shn_bd view x hx.1 hx.2
      have e1 : (16 * (shn view x / 16) + shn view x % 16) / 2 = shn (view + 1) x := by rw [shn_half view x hv hx.1]; omega
      simp only [evB, List.cons_append]
      have := Hv.mem (shn view x / 16) (shn view x % 16) ((if o = true then [111] else []) ++ flatE view es) ((if o = true then [111] else []) ++ flatE (view + 1) es) (by omega) (by omega) (by omega) (by omega) (by
        cases o
        · exact ih
        · exact .one _ _ _ (by decide) ih)
      rw [e1] at this
      exact this
    · simp only [evB, if_neg (show ¬ view = 1 by omega), if_neg (show ¬ view + 1 = 1 by omega), List.cons_append, List.nil_append]
      refine .one _ _ _ ?_ ih
      split <;> decide

theorem hxd_bd (x : Int) (h0 : 0 ≤ x) (h1 : x < 16) : 48 ≤ hxd x ∧ hxd x ≤ 102 := by unfold hxd; split <;> omega
theorem evB_bd {view : Int} {e : Ev} (h : e.ok) : ∀ x ∈ evB view e, 48 ≤ x ∧ x ≤ 120 := by
  rcases e with b | ⟨x, o⟩ | ⟨x, y⟩
  · cases b <;> simp [evB]
  · have hx : 0 ≤ x ∧ x ≤ 255 := h
    have hb := shn_bd view x hx.1 hx.2
    have q1 := hxd_bd (shn view x / 16) (by omega) (by omega)
    have q2 := hxd_bd (shn view x % 16) (by omega) (by omega)
    cases o <;> simp [evB] <;> omega
  · have q1 := hxd_bd (btc 8 x) (by have := btc_bd 8 x; omega) (by have := btc_bd 8 x; omega)
    have q2 := hxd_bd (btc 8 y) (by have := btc_bd 8 y; omega) (by have := btc_bd 8 y; omega)
    simp only [evB]
    split <;> split <;> simp <;> omega
theorem flatE_bd (view : Int) {es : List Ev} (h : ∀ e ∈ es, e.ok) : ∀ x ∈ flatE view es, 48 ≤ x ∧ x ≤ 120 := by
  intro x hx
  obtain ⟨e, he, hx⟩ := List.mem_flatMap.1 hx
  exact evB_bd (h e he) x hx

/-- What is seen by Base ends so just if the run was trapped. -/
theorem trap_last {es : List Ev} (hok : ∀ e ∈ es, e.ok) {tag : Int} (h : (tag = 2 ∧ ∃ es1 e, es = es1 ++ [e] ∧ e.trap = true) ∨ (tag ≠ 2 ∧ ∀ e ∈ es, e.trap = false)) :
    (flatE 0 es = [] ∧ tag ≠ 2) ∨ ∃ t c, flatE 0 es = t ++ [c] ∧ ((c = 111 ∨ c = 120) ↔ tag = 2) := by
  rcases h with ⟨ht, es1, e, rfl, he⟩ | ⟨ht, hn⟩
  · right
    rw [flatE_append]
    rcases e with b | ⟨x, o⟩ | ⟨x, y⟩
    · cases he
    · have ho : o = true := he
      subst ho
      exact ⟨flatE 0 es1 ++ [109, hxd (shn 0 x / 16), hxd (shn 0 x % 16)], 111, by simp [flatE, evB], by simp [ht]⟩
    · have hy : y = 0 := by simpa [Ev.trap] using he
      subst hy
      exact ⟨flatE 0 es1, 120, by simp [flatE, evB], by simp [ht]⟩
  · rcases List.eq_nil_or_concat es with rfl | ⟨es1, e, rfl⟩
    · exact .inl ⟨rfl, ht⟩
    · right
      have he := hn e (by simp)
      have hk := hok e (by simp)
      rw [List.concat_eq_append, flatE_append]
      rcases e with b | ⟨x, o⟩ | ⟨x, y⟩
      · exact ⟨flatE 0 es1, _, by simp [flatE, evB]; rfl, by cases b <;> simp [ht]⟩
      · have ho : o = false := he
        subst ho
        have hx : 0 ≤ x ∧ x ≤ 255 := hk
        have hb := shn_bd 0 x hx.1 hx.2
        have q2 := hxd_bd (shn 0 x % 16) (by omega) (by omega)
        exact ⟨flatE 0 es1 ++ [109, hxd (shn 0 x / 16)], hxd (shn 0 x % 16), by simp [flatE, evB], by
          constructor
          · intro h; omega
          · intro h; exact absurd h ht⟩
      · have hy : ¬ y = 0 := by simpa [Ev.trap] using he
        exact ⟨flatE 0 es1, 118, by simp [flatE, evB, hy], by simp [ht]⟩
end Go.Proofs.Ytnkbfdbbcaffmab
