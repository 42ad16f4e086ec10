/-
  RunKernel.
-/
import Derived.Test.YtfolokhilkffcaaMach7
import Derived.Test.YtfolokhilkffcaaKern
namespace Go.Proofs.Ytfolokhilkffcaa
open Go.RowKit

/-- The state, what is seen, the steps, the tag of a run's end. -/
structure Res where
  tag : Int
  steps : Nat
  sn : List Int
  σ : List Int

/-- A run of commands, as a plain function. -/
def runP (V view : Int) (n m fuel : Nat) (cs : List Cm) : Nat → Int → List Int → List Int → Nat → Res
  | 0, _, σ, sn, steps => ⟨3, steps, sn, σ⟩
  | g + 1, i, σ, sn, steps =>
    match cs[i.toNat]? with
    | none => ⟨1, steps, sn, σ⟩
    | some c =>
      if fuel ≤ steps then ⟨3, steps, sn, σ⟩
      else if (act V view n m σ c).2.2.1 = true then ⟨2, steps + 1, sn ++ (act V view n m σ c).2.1, (act V view n m σ c).1⟩
      else runP V view n m fuel cs g (act V view n m σ c).2.2.2 (act V view n m σ c).1 (sn ++ (act V view n m σ c).2.1) (steps + 1)

/-- Commands that fit, and lead to commands. -/
def CsOK (V : Int) (n : Nat) (cs : List Cm) : Prop := ∀ c ∈ cs, CmOK V n c ∧ 0 ≤ c.yes ∧ 0 ≤ c.no

theorem swB_len (view m x : Int) : (swB view m x).length ≤ 4 := by unfold swB; split <;> simp
theorem sdB_len (view x y : Int) : (sdB view x y).length ≤ 3 := by unfold sdB; split <;> split <;> simp
theorem act_len (V view : Int) (n m : Nat) (σ : List Int) (c : Cm) : (act V view n m σ c).2.1.length ≤ 4 := by
  unfold act
  split
  · unfold actSet
    split
    · split
      · exact Nat.le_trans (sdB_len _ _ _) (by omega)
      · exact Nat.le_trans (sdB_len _ _ _) (by omega)
    · simp
  · split
    · split <;> exact swB_len _ _ _
    · split
      · split <;> exact swB_len _ _ _
      · simp
theorem act_σlen (V view : Int) (n m : Nat) (σ : List Int) (c : Cm) : (act V view n m σ c).1.length = σ.length := by
  unfold act
  split
  · unfold actSet
    split
    · split <;> simp
    · simp
  · split
    · split <;> simp
    · split
      · split <;> simp
      · simp
theorem act_fits {W : Nat} {view : Int} {n m : Nat} {σ : List Int} {c : Cm} (hc : CmOK (pw W) n c) (hf : Fits (pw W) σ) (hnm : n + m = σ.length) (hW : 1 ≤ W) : Fits (pw W) (act (pw W) view n m σ c).1 := by
  have hn : n ≤ σ.length := by omega
  have bx := vl_bd hf hc.x hn
  unfold act
  split
  · rename_i k1
    have by' := vl_bd hf (hc.y (.inl k1)) hn
    unfold actSet
    split
    · rename_i hd
      split
      · exact hf
      · rename_i hz
        have hb := opr_bd W c.op _ _ bx.1 bx.2 by'.1 by'.2 hW (fun _ => hz) (hc.op k1)
        exact hf.set _ hb.1 hb.2
    · rename_i hd
      have hb := opr_bd W c.op _ _ bx.1 bx.2 by'.1 by'.2 hW (fun e => absurd e hd) (hc.op k1)
      exact hf.set _ hb.1 hb.2
  · split
    · split
      · exact hf
      · have hb := hf.get (n + (vl σ c.xn c.xv.toNat).toNat) (by omega)
        exact hf.set _ hb.1 hb.2
    · split
      · rename_i k3
        split
        · exact hf
        · have by' := vl_bd hf (hc.y (.inr k3)) hn
          exact hf.set _ by'.1 by'.2
      · exact hf
theorem act_next {V view : Int} {n m : Nat} {σ : List Int} {c : Cm} (h1 : 0 ≤ c.yes) (h2 : 0 ≤ c.no) : 0 ≤ (act V view n m σ c).2.2.2 := by
  unfold act
  split
  · exact h1
  · split
    · split <;> exact h1
    · split
      · split <;> exact h1
      · dsimp only; split
        · exact h2
        · exact h1

theorem own_below {w w' : World} {kb B : Nat} {v : Value} {cs : List Cm} (h : Own w kb v cs) (hlt : ∀ k, v.ownBlock = some k → k < B) (hb : Below B w w') : Own w' kb v cs := by
  obtain ⟨h1, h2⟩ := h
  refine ⟨h1, ?_⟩
  rcases h2 with h2 | ⟨g, cap, cur, e1, e2, e3, e4⟩
  · exact .inl h2
  · refine .inr ⟨g, cap, cur, e1, e2, ?_, e4⟩
    rw [hb.block g (hlt g (by rw [e1]; rfl))]; exact e3

set_option maxHeartbeats 2000000 in
theorem runKernel_any (W : Nat) (view : Int) (n m fuel : Nat) (cs : List Cm) (cap : Nat) (ao : Option Addr) (kb : Nat) (ad : Addr) (cin : Nat) (zs : List Int) (w : World)
    (hW1 : 1 ≤ W) (hW : W ≤ 8) (hcs : CsOK (pw W) n cs) (hO : Own w kb (.slice ao cs.length cap) cs) (hcl : cs.length ≤ 1000) (hL : Lies w ad zs) (hz : zs.length = n + m) (hz2 : zs.length ≤ 100) (hfit : Fits (pw W) zs) (hfu : fuel ≤ 10000) (hv0 : 0 ≤ view) (hv1 : view ≤ 8) (z0 z1 : Int) :
    Calls Try.prog 23 #[.agg #[.int .i64 z0, .int .i64 z1, .int .i64 W, .int .i64 (pw W), .int .i64 n, .int .i64 m, .slice ao cs.length cap], .int .i64 view, .slice (some ad) zs.length cin, .int .i64 fuel] w fun e w' =>
      ∃ gs, e = .returned (.agg #[.int .i64 (runP (pw W) view n m fuel cs (fuel + 1) 0 zs [] 0).tag, .int .i64 (runP (pw W) view n m fuel cs (fuel + 1) 0 zs [] 0).steps, .string (strOfNums (runP (pw W) view n m fuel cs (fuel + 1) 0 zs [] 0).sn), .slice (some ⟨gs, 0, none⟩) zs.length zs.length]) ∧
        At w' gs 3 (intsV (runP (pw W) view n m fuel cs (fuel + 1) 0 zs [] 0).σ) ∧ w.heap.size ≤ gs ∧ Below w.heap.size w w' := by
  generalize hR : runP (pw W) view n m fuel cs (fuel + 1) 0 zs [] 0 = R
  have HR := hide hR
  have Hz := hide hz
  clear hR hz
  go_enter Try.func23, Try.ntmps23
  go_wp2_with fail
  refine (mbegin_any W (pw W) n m view ad cin zs hz2 _ (by exact hL.grown (gb_alloc (gb_alloc (gb_refl w none) _) _) (by simp))).mono ?_
  rintro e w1 ⟨gs, rfl, hA1, hgs, hg1⟩
  have hgsl := hA1.lt
  have hb1 := hg1.size
  simp at hb1
  have hK2 : At (w1.alloc (.cells #[.int .i64 W, .int .i64 (pw W), .int .i64 n, .int .i64 m, .int .i64 view, .slice (some ⟨gs, 0, none⟩) zs.length zs.length, .slice none 0 0, .int .i64 0, .bool false] 67)) w.heap.size 53 #[.int .i64 z0, .int .i64 z1, .int .i64 W, .int .i64 (pw W), .int .i64 n, .int .i64 m, .slice ao cs.length cap] := At.alloc (At.grown (At.alloc (At.new w _ _) _) hg1 (by simp)) _
  have hR2 : At (w1.alloc (.cells #[.int .i64 W, .int .i64 (pw W), .int .i64 n, .int .i64 m, .int .i64 view, .slice (some ⟨gs, 0, none⟩) zs.length zs.length, .slice none 0 0, .int .i64 0, .bool false] 67)) (w.heap.size + 1) 29 #[.int .i64 0, .int .i64 0, .string ⟨#[]⟩, .slice none 0 0] := by
    have h := At.new (w.alloc (.cells #[.int .i64 z0, .int .i64 z1, .int .i64 W, .int .i64 (pw W), .int .i64 n, .int .i64 m, .slice ao cs.length cap] 53)) 29 #[.int .i64 0, .int .i64 0, .string ⟨#[]⟩, .slice none 0 0]
    rw [show (w.alloc (.cells #[.int .i64 z0, .int .i64 z1, .int .i64 W, .int .i64 (pw W), .int .i64 n, .int .i64 m, .slice ao cs.length cap] 53)).heap.size = w.heap.size + 1 from by simp] at h
    exact At.alloc (At.grown h hg1 (by simp)) _
  have hO2 : Own (w1.alloc (.cells #[.int .i64 W, .int .i64 (pw W), .int .i64 n, .int .i64 m, .int .i64 view, .slice (some ⟨gs, 0, none⟩) zs.length zs.length, .slice none 0 0, .int .i64 0, .bool false] 67)) kb (.slice ao cs.length cap) cs := World.ownsRow.alloc (World.ownsRow.kept (World.ownsRow.alloc (World.ownsRow.alloc hO _) _) hg1 (by
      cases h' : (Value.slice ao cs.length cap).ownBlock with
      | none => exact .inl rfl
      | some k => exact .inr (by simp))) _
  have hlt2 : Hid (∀ k, (Value.slice ao cs.length cap).ownBlock = some k → k < gs) := fun k hk => by have := World.ownsRow.lt hO k hk; simp at hgs; omega
  have hM2 : Mac (w1.alloc (.cells #[.int .i64 W, .int .i64 (pw W), .int .i64 n, .int .i64 m, .int .i64 view, .slice (some ⟨gs, 0, none⟩) zs.length zs.length, .slice none 0 0, .int .i64 0, .bool false] 67)) w1.heap.size gs W (pw W) n m view zs (.slice none 0 0) (0 : Nat) false := ⟨At.new w1 _ _, At.alloc hA1 _, hgsl⟩
  have hS2 : Sn (w1.alloc (.cells #[.int .i64 W, .int .i64 (pw W), .int .i64 n, .int .i64 m, .int .i64 view, .slice (some ⟨gs, 0, none⟩) zs.length zs.length, .slice none 0 0, .int .i64 0, .bool false] 67)) w1.heap.size (.slice none 0 0) [] := World.ownsRow_nil _ _ _ _
  have hBel : Below w.heap.size w (w1.alloc (.cells #[.int .i64 W, .int .i64 (pw W), .int .i64 n, .int .i64 m, .int .i64 view, .slice (some ⟨gs, 0, none⟩) zs.length zs.length, .slice none 0 0, .int .i64 0, .bool false] 67)) := by
    refine Below.alloc ?_ (by omega) _
    have h1 := ((Below.refl w.heap.size w).alloc (Nat.le_refl _) (.cells #[.int .i64 z0, .int .i64 z1, .int .i64 W, .int .i64 (pw W), .int .i64 n, .int .i64 m, .slice ao cs.length cap] 53)).alloc (by simp) (.cells #[.int .i64 0, .int .i64 0, .string ⟨#[]⟩, .slice none 0 0] 29)
    exact h1.trans ⟨hg1.os, hg1.tape, hg1.output, hg1.size, fun k hk => hg1.block k (by simp; omega) (by simp)⟩
  simp at hgs
  have HK2 := hide hK2
  have HR2 := hide hR2
  have HO2 := hide hO2
  have HM2 := hide hM2
  have HS2 := hide hS2
  have HBel := hide hBel
  clear hK2 hR2 hO2 hM2 hS2 hBel hO hL hA1 hg1
  go_wp2_with fail
  generalize hw2 : w1.alloc (.cells #[.int .i64 W, .int .i64 (pw W), .int .i64 n, .int .i64 m, .int .i64 view, .slice (some ⟨gs, 0, none⟩) zs.length zs.length, .slice none 0 0, .int .i64 0, .bool false] 67) = w2 at *
  clear hw2
  have Hcs := hide hcs
  have Hfit := hide hfit
  clear hcs hfit
  go_loopg [10] (fuel + 1) (fun g i wr => ∃ (at_ : Int) (σ : List Int) (sv : Value) (sn : List Int) (steps : Nat), i = .int .i64 at_ ∧ 0 ≤ at_ ∧ Hid (Mac wr w1.heap.size gs W (pw W) n m view σ sv steps false) ∧ Hid (Sn wr w1.heap.size sv sn) ∧ Hid (Fr gs w1.heap.size w2 wr) ∧ Hid (Fits (pw W) σ) ∧ Hid (σ.length = zs.length) ∧ steps ≤ fuel ∧ sn.length ≤ 4 * steps ∧ Hid (g + steps = fuel + 1) ∧ Hid (runP (pw W) view n m fuel cs g at_ σ sn steps = R))
  case atStart => exact ⟨0, zs, .slice none 0 0, [], 0, rfl, by omega, HM2, HS2, Fr.refl _ _ _, Hfit, rfl, by omega, by simp, rfl, HR⟩
  case round =>
    obtain ⟨at_, σ, sv, sn, steps, rfl, hat, hM, hS, hF, hfit', hσl, hst, hsnl, hgs', hrun⟩ := hrel
    obtain ⟨k, rfl⟩ := Int.eq_ofNat_of_zero_le hat
    have hgk : 0 < gk := by have := unhide hgs'; omega
    obtain ⟨g, rfl⟩ : ∃ g, gk = g + 1 := ⟨gk - 1, by omega⟩
    have hKr : At wr w.heap.size 53 #[.int .i64 z0, .int .i64 z1, .int .i64 W, .int .i64 (pw W), .int .i64 n, .int .i64 m, .slice ao cs.length cap] := by
      have h := unhide HK2
      unfold At at h ⊢
      rw [(unhide hF).below.block w.heap.size (by omega)]; exact h
    have hRr : At wr (w.heap.size + 1) 29 #[.int .i64 0, .int .i64 0, .string ⟨#[]⟩, .slice none 0 0] := by
      have h := unhide HR2
      unfold At at h ⊢
      rw [(unhide hF).below.block (w.heap.size + 1) (by omega)]; exact h
    obtain ⟨k0, k1, k2, k3, k4, k5, k6, kf⟩ := At.seven hKr
    obtain ⟨m0, m1, m2, m3, m4, m5, m6, m7, m8, mf⟩ := (unhide hM).nine
    have hrun2 := unhide hrun
    rw [runP] at hrun2
    simp only [Int.toNat_natCast] at hrun2
    by_cases hlt : k < cs.length
    · obtain ⟨c, hc⟩ : ∃ c, cs[k]? = some c := ⟨_, List.getElem?_eq_getElem hlt⟩
      rw [hc] at hrun2
      dsimp only at hrun2
      by_cases hfu2 : fuel ≤ steps
      · rw [if_pos hfu2] at hrun2
        have Hfin : Hid (R = ⟨3, steps, sn, σ⟩) := hrun2.symm
        have Hlen := hσl
        clear hrun2 hc
        go_wp2_with fail
        refine (mresult_any (unhide hM) (unhide hS) 3).mono ?_
        rintro e w9 ⟨rfl, hg9⟩
        have hR9 := At.grown hRr hg9 (by simp)
        have hM9 := Mac.grown (unhide hM) hg9
        have hF9 := Fr.grown (unhide hF) hg9 (by have := (unhide hM).2.1.lt; omega)
        have r0 := hR9.cell 0
        have r1 := hR9.cell 1
        have r2 := hR9.cell 2
        have r3 := hR9.cell 3
        have rf := fun j => hR9.frozen j
        simp at r0 r1 r2 r3
        go_wp2_with fail
        refine bodyPost_ret (v := .agg #[.int .i64 3, .int .i64 steps, .string (strOfNums (sn)), .slice (some ⟨gs, 0, none⟩) σ.length σ.length]) (by simp [results, Try.results23, go_sem, r0, r1, r2, r3]) rfl ⟨gs, by rw [unhide Hfin, unhide Hlen], ?_, by omega, ?_⟩
        · rw [unhide Hfin]; exact (((hM9.2.1.other _ (by show w.heap.size + 1 ≠ gs; omega)).other _ (by show w.heap.size + 1 ≠ gs; omega)).other _ (by show w.heap.size + 1 ≠ gs; omega)).other _ (by show w.heap.size + 1 ≠ gs; omega)
        · exact ((((unhide HBel).trans (hF9.below.mono (by omega))).setCell (Nat.le_succ _) _).setCell (Nat.le_succ _) _ |>.setCell (Nat.le_succ _) _).setCell (Nat.le_succ _) _
      · rw [if_neg hfu2] at hrun2
        have hmem : c ∈ cs := List.mem_of_getElem? hc
        obtain ⟨hcok, hy0, hn0⟩ := unhide Hcs c hmem
        have hOr : Own wr kb (.slice ao cs.length cap) cs := own_below (unhide HO2) (unhide hlt2) (unhide hF).below
        obtain ⟨gc, cap', he, _⟩ := hOr.form (by rintro rfl; simp at hlt)
        simp at he
        obtain ⟨rfl, rfl⟩ := he
        have o0 := hOr.at_ hc 0 (by omega)
        have o1 := hOr.at_ hc 1 (by omega)
        have o2 := hOr.at_ hc 2 (by omega)
        have o3 := hOr.at_ hc 3 (by omega)
        have o4 := hOr.at_ hc 4 (by omega)
        have o5 := hOr.at_ hc 5 (by omega)
        have o6 := hOr.at_ hc 6 (by omega)
        have o7 := hOr.at_ hc 7 (by omega)
        have o8 := hOr.at_ hc 8 (by omega)
        simp [Cm.cells] at o0 o1 o2 o3 o4 o5 o6 o7 o8
        have hfits2 := act_fits (view := view) (m := m) hcok (unhide hfit') (by rw [unhide hσl, unhide Hz]) hW1
        have hσl2 := act_σlen (pw W) view n m σ c
        have hal := act_len (pw W) view n m σ c
        have hnx := act_next (V := pw W) (view := view) (n := n) (m := m) (σ := σ) hy0 hn0
        have hstep := mstep_any hcok (unhide hM) (unhide hS) hW (unhide hfit') (by rw [unhide hσl, unhide Hz]) (by rw [unhide hσl]; exact hz2) (by omega) hv0 hv1 (by omega) (by omega)
        dsimp only [Cm.cells] at hstep
        generalize hact : act (pw W) view n m σ c = A at *
        clear hact
        obtain ⟨σ2, sn2, tr2, nx⟩ := A
        dsimp only at *
        have Hstep := hide hstep
        have Hfits2 := hide hfits2
        have Hσl2 : Hid (σ2.length = zs.length) := hσl2.trans (unhide hσl)
        clear hstep hfits2 hσl2 hOr hc hcok hmem
        cases tr2 with
        | true =>
          have Hfin : Hid (R = ⟨2, steps + 1, sn ++ sn2, σ2⟩) := by rw [if_pos rfl] at hrun2; exact hrun2.symm
          have Hlen := Hσl2
          clear hrun2
          go_wp2_with fail
          refine (unhide Hstep).mono ?_
          rintro e w3 ⟨rfl, sv3, hM3, hS3, hF3⟩
          have hRr2 := hF3.at_ hRr (by decide) (by omega) (by omega)
          have hF4 := (unhide hF).trans hF3
          clear m0 m1 m2 m3 m4 m5 m6 m7 m8 mf o0 o1 o2 o3 o4 o5 o6 o7 o8 k0 k1 k2 k3 k4 k5 k6 kf
          obtain ⟨m0, m1, m2, m3, m4, m5, m6, m7, m8, mf⟩ := hM3.nine
          go_wp2_with fail
          refine (mresult_any hM3 hS3 2).mono ?_
          rintro e w9 ⟨rfl, hg9⟩
          have hR9 := At.grown hRr2 hg9 (by simp)
          have hM9 := Mac.grown hM3 hg9
          have hF9 := Fr.grown hF4 hg9 (by have := hM3.2.1.lt; omega)
          have r0 := hR9.cell 0
          have r1 := hR9.cell 1
          have r2 := hR9.cell 2
          have r3 := hR9.cell 3
          have rf := fun j => hR9.frozen j
          simp at r0 r1 r2 r3
          go_wp2_with fail
          refine bodyPost_ret (v := .agg #[.int .i64 2, .int .i64 (steps + 1 : Nat), .string (strOfNums (sn ++ sn2)), .slice (some ⟨gs, 0, none⟩) σ2.length σ2.length]) (by simp [results, Try.results23, go_sem, r0, r1, r2, r3]) rfl ⟨gs, by rw [unhide Hfin, unhide Hlen], ?_, by omega, ?_⟩
          · rw [unhide Hfin]; exact (((hM9.2.1.other _ (by show w.heap.size + 1 ≠ gs; omega)).other _ (by show w.heap.size + 1 ≠ gs; omega)).other _ (by show w.heap.size + 1 ≠ gs; omega)).other _ (by show w.heap.size + 1 ≠ gs; omega)
          · exact ((((unhide HBel).trans (hF9.below.mono (by omega))).setCell (Nat.le_succ _) _).setCell (Nat.le_succ _) _ |>.setCell (Nat.le_succ _) _).setCell (Nat.le_succ _) _
        | false =>
          rw [if_neg (by simp)] at hrun2
          have Hrun2 := hide hrun2
          clear hrun2
          go_wp2_with fail
          refine (unhide Hstep).mono ?_
          rintro e w3 ⟨rfl, sv3, hM3, hS3, hF3⟩
          have hF4 := (unhide hF).trans hF3
          clear m0 m1 m2 m3 m4 m5 m6 m7 m8 mf o0 o1 o2 o3 o4 o5 o6 o7 o8 k0 k1 k2 k3 k4 k5 k6 kf
          obtain ⟨m0, m1, m2, m3, m4, m5, m6, m7, m8, mf⟩ := hM3.nine
          have HM3 : Hid (Mac w3 w1.heap.size gs W (pw W) n m view σ2 sv3 (steps + 1 : Nat) false) := by simpa [Hid] using hM3
          have HS3 := hide hS3
          have HF4 := hide hF4
          clear hM3 hS3 hF4 hF3
          go_wp2_with fail
          go_roundg g
          case measure => omega
          case rel => exact ⟨nx, σ2, sv3, sn ++ sn2, steps + 1, rfl, hnx, HM3, HS3, HF4, Hfits2, Hσl2, by omega, by rw [List.length_append]; omega, by have := unhide hgs'; exact hide (by omega), Hrun2⟩
    · rw [List.getElem?_eq_none (by omega)] at hrun2
      dsimp only at hrun2
      have Hfin : Hid (R = ⟨1, steps, sn, σ⟩) := hrun2.symm
      have Hlen := hσl
      clear hrun2
      go_wp2_with fail
      refine (mresult_any (unhide hM) (unhide hS) 1).mono ?_
      rintro e w9 ⟨rfl, hg9⟩
      have hR9 := At.grown hRr hg9 (by simp)
      have hM9 := Mac.grown (unhide hM) hg9
      have hF9 := Fr.grown (unhide hF) hg9 (by have := (unhide hM).2.1.lt; omega)
      have r0 := hR9.cell 0
      have r1 := hR9.cell 1
      have r2 := hR9.cell 2
      have r3 := hR9.cell 3
      have rf := fun j => hR9.frozen j
      simp at r0 r1 r2 r3
      go_wp2_with fail
      refine bodyPost_ret (v := .agg #[.int .i64 1, .int .i64 steps, .string (strOfNums (sn)), .slice (some ⟨gs, 0, none⟩) σ.length σ.length]) (by simp [results, Try.results23, go_sem, r0, r1, r2, r3]) rfl ⟨gs, by rw [unhide Hfin, unhide Hlen], ?_, by omega, ?_⟩
      · rw [unhide Hfin]; exact (((hM9.2.1.other _ (by show w.heap.size + 1 ≠ gs; omega)).other _ (by show w.heap.size + 1 ≠ gs; omega)).other _ (by show w.heap.size + 1 ≠ gs; omega)).other _ (by show w.heap.size + 1 ≠ gs; omega)
      · exact ((((unhide HBel).trans (hF9.below.mono (by omega))).setCell (Nat.le_succ _) _).setCell (Nat.le_succ _) _ |>.setCell (Nat.le_succ _) _).setCell (Nat.le_succ _) _
end Go.Proofs.Ytfolokhilkffcaa
