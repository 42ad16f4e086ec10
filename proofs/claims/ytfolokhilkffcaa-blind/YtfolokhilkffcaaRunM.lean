/-
  leak.Run, walked.
-/
import Derived.Test.YtfolokhilkffcaaRunL
namespace Go.Proofs.Ytfolokhilkffcaa
open Go.RowKit

def zres : Res := ⟨0, 0, [], []⟩

/-- What Run answers: the error, the result. -/
def pRun (s : ByteArray) (view : Int) (zs : List Int) (fuel : Int) : Int × Res :=
  if (chk s).1 ≠ 0 then ((chk s).1, zres)
  else if rfs (pw (hdr s).2.2.1) ((hdr s).2.2.2.1 + (hdr s).2.2.2.2) view zs fuel ≠ 0 then (rfs (pw (hdr s).2.2.1) ((hdr s).2.2.2.1 + (hdr s).2.2.2.2) view zs fuel, zres)
  else (0, runP (pw (hdr s).2.2.1) view (hdr s).2.2.2.1 (hdr s).2.2.2.2 fuel.toNat (krn s).cs (fuel.toNat + 1) 0 zs [] 0)

/-- A state that came out: none, or in new memory. -/
def StV (w : World) (B : Nat) (st : Value) (σ : List Int) : Prop :=
  (σ = [] ∧ st = .slice none 0 0) ∨ ∃ gs, st = .slice (some ⟨gs, 0, none⟩) σ.length σ.length ∧ At w gs 3 (intsV σ) ∧ B ≤ gs

theorem runP_len (V view : Int) (n m fuel : Nat) (cs : List Cm) : ∀ g i σ sn steps, (runP V view n m fuel cs g i σ sn steps).σ.length = σ.length
  | 0, _, _, _, _ => rfl
  | g + 1, i, σ, sn, steps => by
    rw [runP]
    split
    · rfl
    · split
      · rfl
      · split
        · exact act_σlen _ _ _ _ _ _
        · rw [runP_len V view n m fuel cs g]; exact act_σlen _ _ _ _ _ _

theorem inB_fits {V : Int} {k : Nat} {zs : List Int} (h : inB V k zs = true) : zs.length = k ∧ Fits V zs := by
  simp [inB, okV] at h
  exact ⟨h.1, fun x hx => h.2 x hx⟩

theorem chk_ok {s : ByteArray} (h : (chk s).1 = 0) : ¬ 300 < s.size ∧ krnBad s = false := by
  unfold chk at h
  by_cases h1 : 300 < s.size
  · rw [if_pos h1] at h; cases h
  · rw [if_neg h1] at h
    cases h2 : krnBad s with
    | true => rw [h2, if_pos rfl] at h; cases h
    | false => exact ⟨h1, rfl⟩

set_option maxHeartbeats 2000000 in
theorem leakRun_any (s : ByteArray) (hmx : s.size ≤ maxLen) (view fuel : Int) (ab ao cin : Nat) (zs : List Int) (hl : zs.length ≤ 9223372036854775807) (w : World) (hL : Lies w ⟨ab, ao, none⟩ zs) (hab : ab < w.heap.size) :
    Calls Try.prog 9 #[.string s, .int .i64 view, .slice (some ⟨ab, ao, none⟩) zs.length cin, .int .i64 fuel] w fun e w' => ∃ st, e = .returned (.tuple #[.agg #[.int .i64 (pRun s view zs fuel).2.tag, .int .i64 (pRun s view zs fuel).2.steps, .string (strOfNums (pRun s view zs fuel).2.sn), st], .int .i64 (pRun s view zs fuel).1]) ∧ StV w' w.heap.size st (pRun s view zs fuel).2.σ ∧ Below w.heap.size w w' := by
  generalize hP : pRun s view zs fuel = P
  have HP := hide hP
  clear hP
  by_cases he : (chk s).1 = 0
  · obtain ⟨hbig, hbad⟩ := chk_ok he
    have hcs := krn_ok s hbad
    have hkl := krn_len s
    have hvr := hdr_vars s
    have hwo := hdr_words s
    have hwd := hdr_wid s
    have hkv : ∀ cv, kernV s cv = .agg #[.int .i64 0, .int .i64 0, .int .i64 (hdr s).2.2.1, .int .i64 (pw (hdr s).2.2.1), .int .i64 (hdr s).2.2.2.1, .int .i64 (hdr s).2.2.2.2, cv] := fun cv => by
      unfold kernV; rw [if_neg hbig, hbad]; rfl
    have hPP : P = if rfs (pw (hdr s).2.2.1) ((hdr s).2.2.2.1 + (hdr s).2.2.2.2) view zs fuel ≠ 0 then (rfs (pw (hdr s).2.2.1) ((hdr s).2.2.2.1 + (hdr s).2.2.2.2) view zs fuel, zres)
        else (0, runP (pw (hdr s).2.2.1) view (hdr s).2.2.2.1 (hdr s).2.2.2.2 fuel.toNat (krn s).cs (fuel.toNat + 1) 0 zs [] 0) := by
      rw [← unhide HP, pRun, if_neg (by rw [he]; simp)]
    have Hkv := hide hkv
    have HPP := hide hPP
    have Hcs := hide hcs
    have hs300 : s.size ≤ 300 := by omega
    clear HP hkv hPP hcs he hbad hbig
    generalize (hdr s).2.2.1 = W at *
    generalize (hdr s).2.2.2.1 = n at *
    generalize (hdr s).2.2.2.2 = m at *
    generalize hcsE : (krn s).cs = cs at *
    have HcsE := hide hcsE
    clear hcsE
    go_enter Try.func9, Try.ntmps9
    go_wp2_with fail
    refine (readKernel_any s hmx _).mono ?_
    rintro e w1 ⟨ao', n', cap', rfl, hB1, hOwn⟩
    rw [unhide Hkv]
    have hOwn : Own w1 (w.heap.size + 1 + 1) (.slice ao' n' cap') cs := by have h := hOwn hs300; rw [unhide HcsE] at h; simpa using h
    have hA1 : At w1 w.heap.size 29 #[.int .i64 0, .int .i64 0, .string ⟨#[]⟩, .slice none 0 0] := by
      have h := At.new w 29 #[.int .i64 0, .int .i64 0, .string ⟨#[]⟩, .slice none 0 0]
      unfold At at h ⊢
      rw [hB1.block w.heap.size (by simp)]; exact h
    have hB := ((Below.refl w.heap.size w).alloc (Nat.le_refl _) (.cells #[.int .i64 0, .int .i64 0, .string ⟨#[]⟩, .slice none 0 0] 29)).trans (hB1.mono (by simp))
    have hsz := hA1.lt
    have hL1 : Lies w1 ⟨ab, ao, none⟩ zs := fun j v hv => by
      have h := hL j v hv
      rw [Addr.add_lit] at h ⊢
      rw [hB.cell (p := ⟨ab, ao + j, none⟩) hab]; exact h
    have hn'' : n' = cs.length := by
      obtain ⟨_, _, h⟩ := hOwn.shape
      simp at h; exact h.2.1
    subst hn''
    generalize hV : pw W = V at *
    have HV := hide hV
    clear hV
    have hA2 : At (w1.alloc (.cells #[.int .i64 0, .int .i64 0, .int .i64 W, .int .i64 V, .int .i64 n, .int .i64 m, .slice ao' cs.length cap'] 53)) w1.heap.size 53 #[.int .i64 0, .int .i64 0, .int .i64 W, .int .i64 V, .int .i64 n, .int .i64 m, .slice ao' cs.length cap'] := At.new w1 _ _
    have HA2 := hide hA2
    have hL2 : Lies (w1.alloc (.cells #[.int .i64 0, .int .i64 0, .int .i64 W, .int .i64 V, .int .i64 n, .int .i64 m, .slice ao' cs.length cap'] 53)) ⟨ab, ao, none⟩ zs := hL1.grown (gb_alloc (gb_refl w1 none) _) (by simp)
    have hrf := hide (refusal_any W V n m view fuel ab ao cin zs hl (by omega) (by omega) _ hL2)
    have HL2 := hide hL2
    clear hA2 hL1 hL2
    go_wp2_with fail
    refine (unhide hrf).mono ?_
    rintro e w3 ⟨rfl, hg3⟩
    have hA3 := At.grown (At.alloc hA1 _) hg3 (by simp)
    have hK3 := At.grown (unhide HA2) hg3 (by simp)
    have hL3 := Lies.grown (unhide HL2) hg3 (by simp)
    have hO3 := World.ownsRow.kept (World.ownsRow.alloc hOwn (.cells #[.int .i64 0, .int .i64 0, .int .i64 W, .int .i64 V, .int .i64 n, .int .i64 m, .slice ao' cs.length cap'] 53)) hg3 (by
      cases h' : (Value.slice ao' cs.length cap').ownBlock with
      | none => exact .inl rfl
      | some k => exact .inr (by simp))
    have hB3 : Below w.heap.size w w3 := (hB.alloc (by omega) _).trans ⟨hg3.os, hg3.tape, hg3.output, hg3.size, fun k hk => hg3.block k (by simp; omega) (by simp)⟩
    have hsz3 := hA3.lt
    have r0 := hA3.cell 0
    have r1 := hA3.cell 1
    have r2 := hA3.cell 2
    have r3 := hA3.cell 3
    have rf := fun j => hA3.frozen j
    simp at r0 r1 r2 r3
    obtain ⟨k0, k1, k2, k3, k4, k5, k6, kf⟩ := At.seven hK3
    have HO3 := hide hO3
    have HL3 := hide hL3
    clear hO3 hL3 hA1 hOwn
    by_cases hz : rfs V (n + m) view zs fuel = 0
    · have hb : (rfs V (n + m) view zs fuel != 0) = false := by simpa using hz
      have hP2 : P = (0, runP V view n m fuel.toNat cs (fuel.toNat + 1) 0 zs [] 0) := by
        have h := unhide HPP
        rw [if_neg (by rw [hz]; simp)] at h; exact h
      have HP2 := hide hP2
      have hv : ¬ (view < 0 ∨ 8 < view) := by intro h; rw [rfs, if_pos h] at hz; cases hz
      have hin : inB V (n + m) zs = true := by
        cases h : inB V (n + m) zs with
        | true => rfl
        | false => rw [rfs, if_neg hv, if_pos h] at hz; cases hz
      have hfu : ¬ (fuel < 0 ∨ 10000 < fuel) := by intro h; rw [rfs, if_neg hv, if_neg (by rw [hin]; simp), if_pos h] at hz; cases hz
      obtain ⟨hzl, hft⟩ := inB_fits hin
      obtain ⟨fu, rfl⟩ := Int.eq_ofNat_of_zero_le (show 0 ≤ fuel by omega)
      have hrk := runKernel_any W view n m fu cs cap' ao' (w.heap.size + 1 + 1) ⟨ab, ao, none⟩ cin zs w3 (by omega) (by omega) (by rw [unhide HV]; exact unhide Hcs) (unhide HO3) (by omega) (unhide HL3) hzl (by omega) (by rw [unhide HV]; exact hft) (by omega) (by omega) (by omega) 0 0
      rw [unhide HV] at hrk
      simp only [Int.toNat_natCast] at HP2
      have hrl := runP_len V view n m fu cs (fu + 1) 0 zs [] 0
      generalize runP V view n m fu cs (fu + 1) 0 zs [] 0 = R at *
      have Hrk := hide hrk
      have Hrl := hide hrl
      have Hz := hide hz
      clear hrk hrl hz hin hP2 hzl hft
      go_wp2_with fail
      refine (unhide Hrk).mono ?_
      rintro e w4 ⟨gs, rfl, hAg, hgs, hB4⟩
      have hA4 : At w4 w.heap.size 29 #[.int .i64 0, .int .i64 0, .string ⟨#[]⟩, .slice none 0 0] := by
        have h := hA3
        unfold At at h ⊢
        rw [hB4.block w.heap.size (by omega)]; exact h
      clear r0 r1 r2 r3 rf k0 k1 k2 k3 k4 k5 k6 kf
      have r0 := hA4.cell 0
      have r1 := hA4.cell 1
      have r2 := hA4.cell 2
      have r3 := hA4.cell 3
      have rf := fun j => hA4.frozen j
      simp at r0 r1 r2 r3
      go_wp2_with fail
      refine bodyPost_ret (v := .tuple #[.agg #[.int .i64 R.tag, .int .i64 R.steps, .string (strOfNums R.sn), .slice (some ⟨gs, 0, none⟩) zs.length zs.length], .int .i64 0]) (by simp [results, Try.results9, go_sem, r0, r1, r2, r3]) rfl ⟨.slice (some ⟨gs, 0, none⟩) zs.length zs.length, by rw [unhide HP2], .inr ⟨gs, by rw [unhide HP2]; dsimp only; rw [unhide Hrl], ?_, by omega⟩, ?_⟩
      · rw [unhide HP2]; exact (((hAg.other _ (by show w.heap.size ≠ gs; omega)).other _ (by show w.heap.size ≠ gs; omega)).other _ (by show w.heap.size ≠ gs; omega)).other _ (by show w.heap.size ≠ gs; omega)
      · exact ((((hB3.trans (hB4.mono (by omega))).setCell (Nat.le_refl _) _).setCell (Nat.le_refl _) _).setCell (Nat.le_refl _) _).setCell (Nat.le_refl _) _
    · have hb : (rfs V (n + m) view zs fuel != 0) = true := by simpa using hz
      have hP2 : P = (rfs V (n + m) view zs fuel, zres) := by
        have h := unhide HPP
        rw [if_pos hz] at h; exact h
      have HP2 := hide hP2
      clear hP2 hz
      go_wp2_with fail
      refine bodyPost_ret (v := .tuple #[.agg #[.int .i64 0, .int .i64 0, .string ⟨#[]⟩, .slice none 0 0], .int .i64 (rfs V (n + m) view zs fuel)]) (by simp [results, Try.results9, go_sem, r0, r1, r2, r3]) rfl ⟨.slice none 0 0, by rw [unhide HP2]; rfl, .inl ⟨by rw [unhide HP2]; rfl, rfl⟩, ?_⟩
      exact (((hB3.setCell (Nat.le_refl _) _).setCell (Nat.le_refl _) _).setCell (Nat.le_refl _) _).setCell (Nat.le_refl _) _
  · have hPP : P = ((chk s).1, zres) := by rw [← unhide HP, pRun, if_pos he]
    have HPP := hide hPP
    have hb : ((chk s).1 != 0) = true := by simpa using he
    clear hPP he
    go_enter Try.func9, Try.ntmps9
    go_wp2_with fail
    refine (readKernel_any s hmx _).mono ?_
    rintro e w1 ⟨ao', n', cap', rfl, hB1, _⟩
    obtain ⟨c2, c3, c4, c5, ao2, n2, cap2, hk⟩ := kernV_form s ao' n' cap'
    rw [hk]
    have hA1 : At w1 w.heap.size 29 #[.int .i64 0, .int .i64 0, .string ⟨#[]⟩, .slice none 0 0] := by
      have h := At.new w 29 #[.int .i64 0, .int .i64 0, .string ⟨#[]⟩, .slice none 0 0]
      unfold At at h ⊢
      rw [hB1.block w.heap.size (by simp)]; exact h
    have hB := ((Below.refl w.heap.size w).alloc (Nat.le_refl _) _).trans (hB1.mono (by simp))
    have hsz := hA1.lt
    have r0 := hA1.cell 0
    have r1 := hA1.cell 1
    have r2 := hA1.cell 2
    have r3 := hA1.cell 3
    have rf := fun j => hA1.frozen j
    simp at r0 r1 r2 r3
    generalize hx : (chk s).1 = x at *
    clear hx
    go_wp2_with fail
    go_region
    have hA5 : ∀ o, At (((((w1.setCell ⟨w.heap.size, 0, none⟩ (.int .i64 0)).setCell ⟨w.heap.size, 1, none⟩ (.int .i64 0)).setCell ⟨w.heap.size, 2, none⟩ (.string ⟨#[]⟩)).setCell ⟨w.heap.size, 3, none⟩ (.slice none 0 0)).alloc o).drew w.heap.size 29 #[.int .i64 0, .int .i64 0, .string ⟨#[]⟩, .slice none 0 0] := fun o => by
      have h := At.drew (At.alloc (((hA1.set 0 (.int .i64 0)).set 1 (.int .i64 0)).set 2 (.string ⟨#[]⟩) |>.set 3 (.slice none 0 0)) o)
      simpa using h
    have e0 := fun o => (hA5 o).cell 0
    have e1 := fun o => (hA5 o).cell 1
    have e2 := fun o => (hA5 o).cell 2
    have e3 := fun o => (hA5 o).cell 3
    simp at e0 e1 e2 e3
    clear hA5 r0 r1 r2 r3 rf
    go_wp2_with fail
    refine bodyPost_ret (v := .tuple #[.agg #[.int .i64 0, .int .i64 0, .string ⟨#[]⟩, .slice none 0 0], .int .i64 x]) (by simp [results, Try.results9, go_sem, e0, e1, e2, e3]) rfl ⟨.slice none 0 0, by rw [unhide HPP]; rfl, .inl ⟨by rw [unhide HPP]; rfl, rfl⟩, ?_⟩
    exact Below.drew (Below.alloc ((((hB.setCell (Nat.le_refl _) _).setCell (Nat.le_refl _) _).setCell (Nat.le_refl _) _).setCell (Nat.le_refl _) _) (by simp [World.setCell]; omega) _)
end Go.Proofs.Ytfolokhilkffcaa
