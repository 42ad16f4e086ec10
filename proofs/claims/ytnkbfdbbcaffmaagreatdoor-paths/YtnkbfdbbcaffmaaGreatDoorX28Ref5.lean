import Derived.Test.YtnkbfdbbcaffmaaGreatDoorX17RunK
import Derived.Test.YtnkbfdbbcaffmaaGreatDoorX18RunL
import Derived.Test.YtnkbfdbbcaffmaaGreatDoorX27RunN
/-
  refusal.
-/
namespace Go.Proofs.YtnkbfdbbcaffmaaGreatDoor
open Go.RowKit

set_option maxHeartbeats 1000000 in
theorem refusal_any (tx : ByteArray) (z1 : Int) (cv : Value) (W V : Int) (n m : Nat) (view fuel : Int) (ab ao cin : Nat) (zs : List Int) (hl : zs.length ≤ 9223372036854775807) (hn : n ≤ 100) (hm : m ≤ 100) (w : World) (hL : Lies w ⟨ab, ao, none⟩ zs) :
    Calls Tryz.prog 61 #[.agg #[.int .i64 0, .int .i64 z1, .string tx, .int .i64 W, .int .i64 V, .int .i64 n, .int .i64 m, cv], .int .i64 view, .slice (some ⟨ab, ao, none⟩) zs.length cin, .int .i64 fuel] w fun e w' => e = .returned (.int .i64 (rfs V (n + m) view zs fuel)) ∧ w.grownBy w' none := by
  generalize hr : rfs V (n + m) view zs fuel = r
  have Hr := hide hr
  clear hr
  have hL1 := hL.grown (gb_alloc (gb_refl w none) (.cells #[.int .i64 0, .int .i64 z1, .string tx, .int .i64 W, .int .i64 V, .int .i64 n, .int .i64 m, cv] 44)) (by simp)
  have hin := hide (isInput_any tx W V n m ab ao cin zs hl hn hm _ hL1)
  clear hL1
  by_cases hv : view < 0 ∨ 8 < view
  · have hrf : 4 = r := by rw [← unhide Hr, rfs, if_pos hv]
    have Hrf := hide hrf
    clear hrf
    rcases hv with hv | hv
    · go_enter Tryz.func61, Tryz.ntmps61
      go_wp2_with fail
      go_ret
      exact ⟨ret_int (unhide Hrf), gb_alloc (gb_refl _ _) _⟩
    · have hd : decide (view < 0) = false := by simp; omega
      go_enter Tryz.func61, Tryz.ntmps61
      go_wp2_with fail
      go_ret
      exact ⟨ret_int (unhide Hrf), gb_alloc (gb_refl _ _) _⟩
  · have hd : decide (view < 0) = false := by simp; omega
    have hd2 : decide (8 < view) = false := by simp; omega
    cases hi : inB V (n + m) zs with
    | false =>
      have hrf : 5 = r := by rw [← unhide Hr, rfs, if_neg hv, if_pos hi]
      have Hrf := hide hrf
      have Hi := hide hi
      clear hrf hv hi
      go_enter Tryz.func61, Tryz.ntmps61
      go_wp2_with fail
      refine (unhide hin).mono ?_
      rintro e w2 ⟨rfl, hg⟩
      rw [unhide Hi]
      go_wp2_with fail
      go_ret
      exact ⟨ret_int (unhide Hrf), gb_trans (gb_alloc (gb_refl _ _) _) hg⟩
    | true =>
      have Hi := hide hi
      by_cases hf : fuel < 0 ∨ 10000 < fuel
      · have hrf : 6 = r := by rw [← unhide Hr, rfs, if_neg hv, if_neg (by rw [hi]; simp), if_pos hf]
        have Hrf := hide hrf
        clear hrf hv hi
        rcases hf with hf | hf
        · go_enter Tryz.func61, Tryz.ntmps61
          go_wp2_with fail
          refine (unhide hin).mono ?_
          rintro e w2 ⟨rfl, hg⟩
          rw [unhide Hi]
          go_wp2_with fail
          go_ret
          exact ⟨ret_int (unhide Hrf), gb_trans (gb_alloc (gb_refl _ _) _) hg⟩
        · have hd3 : decide (fuel < 0) = false := by simp; omega
          go_enter Tryz.func61, Tryz.ntmps61
          go_wp2_with fail
          refine (unhide hin).mono ?_
          rintro e w2 ⟨rfl, hg⟩
          rw [unhide Hi]
          go_wp2_with fail
          go_ret
          exact ⟨ret_int (unhide Hrf), gb_trans (gb_alloc (gb_refl _ _) _) hg⟩
      · have hrf : 0 = r := by rw [← unhide Hr, rfs, if_neg hv, if_neg (by rw [hi]; simp), if_neg hf]
        have hd3 : decide (fuel < 0) = false := by simp; omega
        have hd4 : decide (10000 < fuel) = false := by simp; omega
        have Hrf := hide hrf
        clear hrf hv hi hf
        go_enter Tryz.func61, Tryz.ntmps61
        go_wp2_with fail
        refine (unhide hin).mono ?_
        rintro e w2 ⟨rfl, hg⟩
        rw [unhide Hi]
        go_wp2_with fail
        go_ret
        exact ⟨ret_int (unhide Hrf), gb_trans (gb_alloc (gb_refl _ _) _) hg⟩

set_option maxHeartbeats 1000000 in
theorem refusal_err (e z1 : Int) (tx : ByteArray) (W V n m : Int) (ao : Option Addr) (cl cap : Nat) (view fuel : Int) (a1 : Option Addr) (l1 c1 : Nat) (he : e ≠ 0) (w : World) :
    Calls Tryz.prog 61 #[.agg #[.int .i64 e, .int .i64 z1, .string tx, .int .i64 W, .int .i64 V, .int .i64 n, .int .i64 m, .slice ao cl cap], .int .i64 view, .slice a1 l1 c1, .int .i64 fuel] w fun e' w' => e' = .returned (.int .i64 e) ∧ w.grownBy w' none := by
  have hb : (e != 0) = true := by simpa using he
  clear he
  go_enter Tryz.func61, Tryz.ntmps61
  go_wp2_with fail
  go_ret
  exact ⟨rfl, gb_alloc (gb_refl _ _) _⟩
end Go.Proofs.YtnkbfdbbcaffmaaGreatDoor
/-
  leak.Run, walked.
-/
namespace Go.Proofs.YtnkbfdbbcaffmaaGreatDoor
open Go.RowKit

def zres : Res := ⟨0, 0, [], []⟩

/-- What Run answers: the error, the result. -/
def pRun (s : ByteArray) (view : Int) (zs : List Int) (fuel : Int) : Int × Res :=
  if (chk s).1 ≠ 0 then ((chk s).1, zres)
  else if rfs (pw (hdr s).2.2.1) ((hdr s).2.2.2.1 + (hdr s).2.2.2.2) view zs fuel ≠ 0 then (rfs (pw (hdr s).2.2.1) ((hdr s).2.2.2.1 + (hdr s).2.2.2.2) view zs fuel, zres)
  else (0, runP (pw (hdr s).2.2.1) view (hdr s).2.2.2.1 (hdr s).2.2.2.2 fuel.toNat (krn s).cs (fuel.toNat + 1) 0 zs [] 0)

/-- A state that came out: none, or in new memory. -/
def StV (w : World) (B : Nat) (st : Value) (σ : List Int) : Prop :=
  (σ = [] ∧ st = .slice none 0 0) ∨ ∃ gs, st = .slice (some ⟨gs, 0, none⟩) σ.length σ.length ∧ At w gs 3 (intsV σ) ∧ B ≤ gs

theorem inB_fits {V : Int} {k : Nat} {zs : List Int} (h : inB V k zs = true) : zs.length = k ∧ Fits V zs := by
  simp [inB, okV] at h
  exact ⟨h.1, fun x hx => h.2 x hx⟩

theorem chk_ok {s : ByteArray} (h : (chk s).1 = 0) : ¬ 300 < s.size ∧ krnBad s = false := by
  unfold chk at h
  by_cases h1 : 300 < s.size
  · rw [if_pos h1] at h; cases h
  · rw [if_neg h1] at h
    cases h2 : krnBad s with
    | true => rw [h2, if_pos rfl] at h; cases h
    | false => exact ⟨h1, rfl⟩

structure Pg.OK (q : Pg) : Prop where
  w1 : 1 ≤ q.W
  w8 : q.W ≤ 8
  v : q.V = pw q.W
  n : q.n ≤ 8
  m : q.m ≤ 16
  cs : CsOK q.V q.n q.cs
  len : q.cs.length ≤ 1000

/-- What a run of it answers: the error, the result. -/
def Pg.run (q : Pg) (view : Int) (zs : List Int) (fuel : Int) : Int × Res :=
  if q.e ≠ 0 then (q.e, zres)
  else if rfs q.V (q.n + q.m) view zs fuel ≠ 0 then (rfs q.V (q.n + q.m) view zs fuel, zres)
  else (0, runP q.V view q.n q.m fuel.toNat q.cs (fuel.toNat + 1) 0 zs [] 0)

theorem rfs_ok {V : Int} {k : Nat} {view : Int} {zs : List Int} {fuel : Int} (hz : rfs V k view zs fuel = 0) : ¬ (view < 0 ∨ 8 < view) ∧ inB V k zs = true ∧ ¬ (fuel < 0 ∨ 10000 < fuel) := by
  have hv : ¬ (view < 0 ∨ 8 < view) := by intro h; rw [rfs, if_pos h] at hz; cases hz
  have hin : inB V k zs = true := by
    cases h : inB V k zs with
    | true => rfl
    | false => rw [rfs, if_neg hv, if_pos h] at hz; cases hz
  have hfu : ¬ (fuel < 0 ∨ 10000 < fuel) := by intro h; rw [rfs, if_neg hv, if_neg (by rw [hin]; simp), if_pos h] at hz; cases hz
  exact ⟨hv, hin, hfu⟩

set_option maxHeartbeats 1000000 in
theorem run_gen (q : Pg) (hq : q.e = 0 → q.OK) (ao' : Option Addr) (cap' kb : Nat) (view fuel : Int) (ab ao cin : Nat) (zs : List Int) (hl : zs.length ≤ 9223372036854775807) (w : World) (hO : Own w kb (.slice ao' q.cs.length cap') q.cs) (hL : Lies w ⟨ab, ao, none⟩ zs) :
    Calls Tryz.prog 55 #[q.val ao' cap', .int .i64 view, .slice (some ⟨ab, ao, none⟩) zs.length cin, .int .i64 fuel] w fun e w' => ∃ st, e = .returned (.tuple #[.agg #[.int .i64 (q.run view zs fuel).2.tag, .int .i64 (q.run view zs fuel).2.steps, .string (strOfNums (q.run view zs fuel).2.sn), st], .int .i64 (q.run view zs fuel).1]) ∧ StV w' w.heap.size st (q.run view zs fuel).2.σ ∧ Below w.heap.size w w' := by
  generalize hP : q.run view zs fuel = P
  have HP := hide hP
  clear hP
  unfold Pg.val
  by_cases he : q.e = 0
  · obtain ⟨hw1, hw8, hV, hn, hm, hcs, hcl⟩ := hq he
    have hPP : P = if rfs q.V (q.n + q.m) view zs fuel ≠ 0 then (rfs q.V (q.n + q.m) view zs fuel, zres)
        else (0, runP q.V view q.n q.m fuel.toNat q.cs (fuel.toNat + 1) 0 zs [] 0) := by
      rw [← unhide HP, Pg.run, if_neg (by rw [he]; simp)]
    have HPP := hide hPP
    clear HP hPP
    obtain ⟨qe, z1, tx, W, V, n, m, cs⟩ := q
    dsimp only at *
    subst he
    have HO := hide hO
    have Hcs := hide hcs
    have HV := hide hV
    have HL := hide hL
    clear hq hcs hO hV hL
    have hg0 : w.grownBy ((w.alloc (.cells #[.int .i64 0, .int .i64 z1, .string tx, .int .i64 W, .int .i64 V, .int .i64 n, .int .i64 m, .slice ao' cs.length cap'] 44)).alloc (.cells #[.int .i64 0, .int .i64 0, .string ⟨#[]⟩, .slice none 0 0] 52)) none := gb_alloc (gb_alloc (gb_refl w none) _) _
    have hK0 : At ((w.alloc (.cells #[.int .i64 0, .int .i64 z1, .string tx, .int .i64 W, .int .i64 V, .int .i64 n, .int .i64 m, .slice ao' cs.length cap'] 44)).alloc (.cells #[.int .i64 0, .int .i64 0, .string ⟨#[]⟩, .slice none 0 0] 52)) w.heap.size 44 #[.int .i64 0, .int .i64 z1, .string tx, .int .i64 W, .int .i64 V, .int .i64 n, .int .i64 m, .slice ao' cs.length cap'] := At.alloc (At.new w _ _) _
    have hA0 : At ((w.alloc (.cells #[.int .i64 0, .int .i64 z1, .string tx, .int .i64 W, .int .i64 V, .int .i64 n, .int .i64 m, .slice ao' cs.length cap'] 44)).alloc (.cells #[.int .i64 0, .int .i64 0, .string ⟨#[]⟩, .slice none 0 0] 52)) (w.heap.size + 1) 52 #[.int .i64 0, .int .i64 0, .string ⟨#[]⟩, .slice none 0 0] := by
      have h := At.new (w.alloc (.cells #[.int .i64 0, .int .i64 z1, .string tx, .int .i64 W, .int .i64 V, .int .i64 n, .int .i64 m, .slice ao' cs.length cap'] 44)) 52 #[.int .i64 0, .int .i64 0, .string ⟨#[]⟩, .slice none 0 0]
      simpa using h
    have hL0 := (unhide HL).grown hg0 (by simp)
    have hO0 := World.ownsRow.alloc (World.ownsRow.alloc (unhide HO) (.cells #[.int .i64 0, .int .i64 z1, .string tx, .int .i64 W, .int .i64 V, .int .i64 n, .int .i64 m, .slice ao' cs.length cap'] 44)) (.cells #[.int .i64 0, .int .i64 0, .string ⟨#[]⟩, .slice none 0 0] 52)
    have hrf := hide (refusal_any tx z1 (.slice ao' cs.length cap') W V n m view fuel ab ao cin zs hl (by omega) (by omega) _ hL0)
    have hB0 : Below w.heap.size w ((w.alloc (.cells #[.int .i64 0, .int .i64 z1, .string tx, .int .i64 W, .int .i64 V, .int .i64 n, .int .i64 m, .slice ao' cs.length cap'] 44)).alloc (.cells #[.int .i64 0, .int .i64 0, .string ⟨#[]⟩, .slice none 0 0] 52)) := ((Below.refl w.heap.size w).alloc (Nat.le_refl _) _).alloc (by simp) _
    have HK0 := hide hK0
    have HA0 := hide hA0
    have HL0 := hide hL0
    have HO0 := hide hO0
    have HB0 := hide hB0
    clear hg0 hK0 hA0 hL0 hO0 hB0
    go_enter Tryz.func55, Tryz.ntmps55
    go_wp2_with fail
    refine (unhide hrf).mono ?_
    rintro e w3 ⟨rfl, hg3⟩
    have hA3 := At.grown (unhide HA0) hg3 (by simp)
    have hK3 := At.grown (unhide HK0) hg3 (by simp)
    have hL3 := Lies.grown (unhide HL0) hg3 (by simp)
    have hO3 := World.ownsRow.kept (unhide HO0) hg3 (by
      cases h' : (Value.slice ao' cs.length cap').ownBlock with
      | none => exact .inl rfl
      | some k => exact .inr (by simp))
    have hB3 : Below w.heap.size w w3 := (unhide HB0).trans ⟨hg3.os, hg3.tape, hg3.output, hg3.size, fun k hk => hg3.block k (by simp; omega) (by simp)⟩
    have hsz3 := hA3.lt
    have r0 := hA3.cell 0
    have r1 := hA3.cell 1
    have r2 := hA3.cell 2
    have r3 := hA3.cell 3
    have rf := fun j => hA3.frozen j
    simp at r0 r1 r2 r3
    obtain ⟨k0, k1, k2, k3, k4, k5, k6, k7, kf⟩ := At.eight hK3
    have HO3 := hide hO3
    have HL3 := hide hL3
    clear hO3 hL3 hrf
    by_cases hz : rfs V (n + m) view zs fuel = 0
    · have hb : (rfs V (n + m) view zs fuel != 0) = false := by simpa using hz
      have hP2 : P = (0, runP V view n m fuel.toNat cs (fuel.toNat + 1) 0 zs [] 0) := by
        have h := unhide HPP
        rw [if_neg (by rw [hz]; simp)] at h; exact h
      have HP2 := hide hP2
      obtain ⟨hv, hin, hfu⟩ := rfs_ok hz
      obtain ⟨hzl, hft⟩ := inB_fits hin
      obtain ⟨fu, rfl⟩ := Int.eq_ofNat_of_zero_le (show 0 ≤ fuel by omega)
      have hrk := mRun_any tx W view n m fu cs cap' ao' kb ⟨ab, ao, none⟩ cin zs w3 hw1 hw8 (by rw [← unhide HV]; exact unhide Hcs) (unhide HO3) hcl (unhide HL3) hzl (by omega) (by rw [← unhide HV]; exact hft) (by omega) (by omega) (by omega) 0 z1
      rw [← unhide HV] at hrk
      simp only [Int.toNat_natCast] at HP2
      have hrl := runP_len V view n m fu cs (fu + 1) 0 zs [] 0
      generalize runP V view n m fu cs (fu + 1) 0 zs [] 0 = R at *
      have Hrk := hide hrk
      have Hrl := hide hrl
      have Hz := hide hz
      clear hrk hrl hz hin hP2 hzl hft hv hfu
      go_wp2_with fail
      refine (unhide Hrk).mono ?_
      rintro e w4 ⟨gs, rfl, hAg, hgs, hB4⟩
      have hA4 : At w4 (w.heap.size + 1) 52 #[.int .i64 0, .int .i64 0, .string ⟨#[]⟩, .slice none 0 0] := hA3.below hB4 (by omega)
      clear r0 r1 r2 r3 rf k0 k1 k2 k3 k4 k5 k6 k7 kf
      have r0 := hA4.cell 0
      have r1 := hA4.cell 1
      have r2 := hA4.cell 2
      have r3 := hA4.cell 3
      have rf := fun j => hA4.frozen j
      simp at r0 r1 r2 r3
      go_wp2_with fail
      refine bodyPost_ret (v := .tuple #[.agg #[.int .i64 R.tag, .int .i64 R.steps, .string (strOfNums R.sn), .slice (some ⟨gs, 0, none⟩) zs.length zs.length], .int .i64 0]) (by simp [results, Tryz.results55, go_sem, r0, r1, r2, r3]) rfl ⟨.slice (some ⟨gs, 0, none⟩) zs.length zs.length, by rw [unhide HP2], .inr ⟨gs, by rw [unhide HP2]; dsimp only; rw [unhide Hrl], ?_, by omega⟩, ?_⟩
      · rw [unhide HP2]; exact (((hAg.other _ (by show w.heap.size + 1 ≠ gs; omega)).other _ (by show w.heap.size + 1 ≠ gs; omega)).other _ (by show w.heap.size + 1 ≠ gs; omega)).other _ (by show w.heap.size + 1 ≠ gs; omega)
      · exact ((((hB3.trans (hB4.mono (by omega))).setCell (Nat.le_succ _) _).setCell (Nat.le_succ _) _).setCell (Nat.le_succ _) _).setCell (Nat.le_succ _) _
    · have hb : (rfs V (n + m) view zs fuel != 0) = true := by simpa using hz
      have hP2 : P = (rfs V (n + m) view zs fuel, zres) := by
        have h := unhide HPP
        rw [if_pos hz] at h; exact h
      have HP2 := hide hP2
      clear hP2 hz
      go_wp2_with fail
      refine bodyPost_ret (v := .tuple #[.agg #[.int .i64 0, .int .i64 0, .string ⟨#[]⟩, .slice none 0 0], .int .i64 (rfs V (n + m) view zs fuel)]) (by simp [results, Tryz.results55, go_sem, r0, r1, r2, r3]) rfl ⟨.slice none 0 0, by rw [unhide HP2]; rfl, .inl ⟨by rw [unhide HP2]; rfl, rfl⟩, ?_⟩
      exact (((hB3.setCell (Nat.le_succ _) _).setCell (Nat.le_succ _) _).setCell (Nat.le_succ _) _).setCell (Nat.le_succ _) _
  · have hPP : P = (q.e, zres) := by rw [← unhide HP, Pg.run, if_pos he]
    have HPP := hide hPP
    have hb : (q.e != 0) = true := by simpa using he
    clear hPP HP
    obtain ⟨qe, z1, tx, W, V, n, m, cs⟩ := q
    dsimp only at *
    have hA0 : At ((w.alloc (.cells #[.int .i64 qe, .int .i64 z1, .string tx, .int .i64 W, .int .i64 V, .int .i64 n, .int .i64 m, .slice ao' cs.length cap'] 44)).alloc (.cells #[.int .i64 0, .int .i64 0, .string ⟨#[]⟩, .slice none 0 0] 52)) (w.heap.size + 1) 52 #[.int .i64 0, .int .i64 0, .string ⟨#[]⟩, .slice none 0 0] := by
      have h := At.new (w.alloc (.cells #[.int .i64 qe, .int .i64 z1, .string tx, .int .i64 W, .int .i64 V, .int .i64 n, .int .i64 m, .slice ao' cs.length cap'] 44)) 52 #[.int .i64 0, .int .i64 0, .string ⟨#[]⟩, .slice none 0 0]
      simpa using h
    have hB0 : Below w.heap.size w ((w.alloc (.cells #[.int .i64 qe, .int .i64 z1, .string tx, .int .i64 W, .int .i64 V, .int .i64 n, .int .i64 m, .slice ao' cs.length cap'] 44)).alloc (.cells #[.int .i64 0, .int .i64 0, .string ⟨#[]⟩, .slice none 0 0] 52)) := ((Below.refl w.heap.size w).alloc (Nat.le_refl _) _).alloc (by simp) _
    have hrf := hide (refusal_err qe z1 tx W V n m ao' cs.length cap' view fuel (some ⟨ab, ao, none⟩) zs.length cin he ((w.alloc (.cells #[.int .i64 qe, .int .i64 z1, .string tx, .int .i64 W, .int .i64 V, .int .i64 n, .int .i64 m, .slice ao' cs.length cap'] 44)).alloc (.cells #[.int .i64 0, .int .i64 0, .string ⟨#[]⟩, .slice none 0 0] 52)))
    have HA0 := hide hA0
    have HB0 := hide hB0
    clear hA0 hB0 he hq hO hL
    go_enter Tryz.func55, Tryz.ntmps55
    go_wp2_with fail
    refine (unhide hrf).mono ?_
    rintro e w3 ⟨rfl, hg3⟩
    have hA3 := At.grown (unhide HA0) hg3 (by simp)
    have hB3 : Below w.heap.size w w3 := (unhide HB0).trans ⟨hg3.os, hg3.tape, hg3.output, hg3.size, fun k hk => hg3.block k (by simp; omega) (by simp)⟩
    have r0 := hA3.cell 0
    have r1 := hA3.cell 1
    have r2 := hA3.cell 2
    have r3 := hA3.cell 3
    have rf := fun j => hA3.frozen j
    simp at r0 r1 r2 r3
    go_wp2_with fail
    refine bodyPost_ret (v := .tuple #[.agg #[.int .i64 0, .int .i64 0, .string ⟨#[]⟩, .slice none 0 0], .int .i64 qe]) (by simp [results, Tryz.results55, go_sem, r0, r1, r2, r3]) rfl ⟨.slice none 0 0, by rw [unhide HPP]; rfl, .inl ⟨by rw [unhide HPP]; rfl, rfl⟩, ?_⟩
    exact (((hB3.setCell (Nat.le_succ _) _).setCell (Nat.le_succ _) _).setCell (Nat.le_succ _) _).setCell (Nat.le_succ _) _

/-- A kernel as it is read. -/
def kerP (s : ByteArray) : Pg :=
  if 300 < s.size then ⟨1, 0, ⟨#[]⟩, 0, 0, 0, 0, []⟩
  else if krnBad s = true then ⟨2, (krn s).p, ⟨#[]⟩, 0, 0, 0, 0, []⟩
  else ⟨0, 0, s.extract 0 (hdr s).1, (hdr s).2.2.1, pw (hdr s).2.2.1, (hdr s).2.2.2.1, (hdr s).2.2.2.2, (krn s).cs⟩

theorem kerP_e (s : ByteArray) : (kerP s).e = (chk s).1 := by
  unfold kerP chk
  split
  · rfl
  · split <;> rfl
theorem kerP_good {s : ByteArray} (h : (chk s).1 = 0) : kerP s = ⟨0, 0, s.extract 0 (hdr s).1, (hdr s).2.2.1, pw (hdr s).2.2.1, (hdr s).2.2.2.1, (hdr s).2.2.2.2, (krn s).cs⟩ := by
  obtain ⟨h1, h2⟩ := chk_ok h
  rw [kerP, if_neg h1, if_neg (by rw [h2]; simp)]
theorem kerP_ok {s : ByteArray} (h : (kerP s).e = 0) : (kerP s).OK := by
  rw [kerP_e] at h
  rw [kerP_good h]
  obtain ⟨h1, h2⟩ := chk_ok h
  exact ⟨(hdr_wid s).1, (hdr_wid s).2, rfl, hdr_vars s, hdr_words s, krn_ok s h2, by have := krn_len s; dsimp only; omega⟩
theorem pRun_eq (s : ByteArray) (view : Int) (zs : List Int) (fuel : Int) : pRun s view zs fuel = (kerP s).run view zs fuel := by
  unfold pRun Pg.run
  by_cases h : (chk s).1 = 0
  · rw [if_neg (fun k => k h), kerP_good h]; rfl
  · rw [kerP_e, if_pos h, if_pos h]

theorem readKernel_pg (s : ByteArray) (hmx : s.size ≤ maxLen) (w : World) :
    Calls Tryz.prog 25 #[.string s] w fun e w' => ∃ ao cap, e = .returned ((kerP s).val ao cap) ∧ Below w.heap.size w w' ∧ Own w' (w.heap.size + 1) (.slice ao (kerP s).cs.length cap) (kerP s).cs := by
  refine (readKernel_any s hmx w).mono ?_
  rintro e w' ⟨ao, n, cap, rfl, hB, hO⟩
  unfold kernV kerP
  by_cases h1 : 300 < s.size
  · rw [if_pos h1, if_pos h1]
    exact ⟨none, 0, rfl, hB, World.ownsRow_nil _ _ _ _⟩
  · rw [if_neg h1, if_neg h1]
    by_cases h2 : krnBad s = true
    · rw [if_pos h2, if_pos h2]
      exact ⟨none, 0, rfl, hB, World.ownsRow_nil _ _ _ _⟩
    · rw [if_neg h2, if_neg h2]
      have h := hO (by omega)
      obtain ⟨ao2, cap2, e⟩ := h.shape
      rw [e] at h ⊢
      exact ⟨ao2, cap2, rfl, hB, h⟩

set_option maxHeartbeats 1000000 in
theorem leakRun_any (s : ByteArray) (hmx : s.size ≤ maxLen) (view fuel : Int) (ab ao cin : Nat) (zs : List Int) (hl : zs.length ≤ 9223372036854775807) (w : World) (hL : Lies w ⟨ab, ao, none⟩ zs) (hab : ab < w.heap.size) :
    Calls Tryz.prog 31 #[.string s, .int .i64 view, .slice (some ⟨ab, ao, none⟩) zs.length cin, .int .i64 fuel] w fun e w' => ∃ st, e = .returned (.tuple #[.agg #[.int .i64 (pRun s view zs fuel).2.tag, .int .i64 (pRun s view zs fuel).2.steps, .string (strOfNums (pRun s view zs fuel).2.sn), st], .int .i64 (pRun s view zs fuel).1]) ∧ StV w' w.heap.size st (pRun s view zs fuel).2.σ ∧ Below w.heap.size w w' := by
  rw [pRun_eq]
  have hrk := readKernel_pg s hmx
  have hok : (kerP s).e = 0 → (kerP s).OK := kerP_ok
  generalize kerP s = q at *
  have HL := hide hL
  have Hok := hide hok
  have Hrk := hide hrk
  have hsz : ∀ w1 : World, Below w.heap.size w w1 → Lies w1 ⟨ab, ao, none⟩ zs := fun w1 hB => (unhide HL).below hB hab
  have Hsz := hide hsz
  clear hrk hok hL hsz
  generalize hP : q.run view zs fuel = P
  have HP := hide hP
  clear hP
  go_enter Tryz.func31, Tryz.ntmps31
  go_wp2_with fail
  refine (unhide Hrk _).mono ?_
  rintro e w1 ⟨ao', cap', rfl, hB1, hO1⟩
  have hA1 : At w1 w.heap.size 52 #[.int .i64 0, .int .i64 0, .string ⟨#[]⟩, .slice none 0 0] := (At.new w 52 #[.int .i64 0, .int .i64 0, .string ⟨#[]⟩, .slice none 0 0]).below hB1 (by simp)
  have hBa := ((Below.refl w.heap.size w).alloc (Nat.le_refl _) (.cells #[.int .i64 0, .int .i64 0, .string ⟨#[]⟩, .slice none 0 0] 52)).trans (hB1.mono (by simp))
  have hcall := run_gen q (unhide Hok) ao' cap' _ view fuel ab ao cin zs hl w1 hO1 (unhide Hsz w1 hBa)
  rw [unhide HP] at hcall
  have Hcall := hide hcall
  have HA1 := hide hA1
  clear hcall hA1 hO1 Hsz Hok Hrk
  go_wp2_with fail
  refine (unhide Hcall).mono ?_
  rintro e w2 ⟨st, rfl, hst, hB2⟩
  have hA2 := (unhide HA1).below hB2 (unhide HA1).lt
  have hBB := hBa.trans (hB2.mono hBa.size)
  have r0 := hA2.cell 0
  have r1 := hA2.cell 1
  have r2 := hA2.cell 2
  have r3 := hA2.cell 3
  have rf := fun j => hA2.frozen j
  simp at r0 r1 r2 r3
  have hlt := (unhide HA1).lt
  obtain ⟨a1, l1, c1, rfl⟩ : ∃ a1 l1 c1, st = .slice a1 l1 c1 := by
    rcases hst with ⟨_, h⟩ | ⟨gs, h, _⟩
    · exact ⟨_, _, _, h⟩
    · exact ⟨_, _, _, h⟩
  have hst2 : ∀ v0 v1 v2 v3, StV ((((w2.setCell ⟨w.heap.size, 0, none⟩ v0).setCell ⟨w.heap.size, 1, none⟩ v1).setCell ⟨w.heap.size, 2, none⟩ v2).setCell ⟨w.heap.size, 3, none⟩ v3) w.heap.size (.slice a1 l1 c1) P.2.σ := fun v0 v1 v2 v3 => by
    rcases hst with h | ⟨gs, h, hA, hgs⟩
    · exact .inl h
    · exact .inr ⟨gs, h, (((hA.other _ (by show w.heap.size ≠ gs; omega)).other _ (by show w.heap.size ≠ gs; omega)).other _ (by show w.heap.size ≠ gs; omega)).other _ (by show w.heap.size ≠ gs; omega), by omega⟩
  have Hst2 := hide hst2
  clear hst hst2 Hcall HA1
  go_wp2_with fail
  refine bodyPost_ret (v := .tuple #[.agg #[.int .i64 P.2.tag, .int .i64 P.2.steps, .string (strOfNums P.2.sn), .slice a1 l1 c1], .int .i64 P.1]) (by simp [results, Tryz.results31, go_sem, r0, r1, r2, r3]) rfl ⟨.slice a1 l1 c1, rfl, unhide Hst2 _ _ _ _, ?_⟩
  exact (((hBB.setCell (Nat.le_refl _) _).setCell (Nat.le_refl _) _).setCell (Nat.le_refl _) _).setCell (Nat.le_refl _) _
end Go.Proofs.YtnkbfdbbcaffmaaGreatDoor
