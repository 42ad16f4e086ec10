import Derived.Test.YtnkbfdbbcaffmaaGreatDoorX16Mach6
import Derived.Test.YtnkbfdbbcaffmaaGreatDoorX04Rec
/-
  RunKernel.
-/
namespace Go.Proofs.YtnkbfdbbcaffmaaGreatDoor
open Go.RowKit

/-- The state, what is seen, the steps, the tag of a run's end. -/
structure Res where
  tag : Int
  steps : Nat
  sn : List Int
  σ : List Int

/-- A run of commands, as a plain function. -/
def runP (V view : Int) (n m fuel : Nat) (cs : List Cm) : Nat → Int → List Int → List Int → Nat → Res
  | 0, _, σ, sn, steps => ⟨3, steps, sn, σ⟩
  | g + 1, i, σ, sn, steps =>
    match cs[i.toNat]? with
    | none => ⟨1, steps, sn, σ⟩
    | some c =>
      if fuel ≤ steps then ⟨3, steps, sn, σ⟩
      else if (act V view n m σ c).2.2.1 = true then ⟨2, steps + 1, sn ++ (act V view n m σ c).2.1, (act V view n m σ c).1⟩
      else runP V view n m fuel cs g (act V view n m σ c).2.2.2 (act V view n m σ c).1 (sn ++ (act V view n m σ c).2.1) (steps + 1)

/-- Commands that fit, and lead to commands. -/
def CsOK (V : Int) (n : Nat) (cs : List Cm) : Prop := ∀ c ∈ cs, CmOK V n c ∧ 0 ≤ c.yes ∧ 0 ≤ c.no

theorem swB_len (view m x : Int) : (swB view m x).length ≤ 4 := by unfold swB; split <;> simp
theorem sdB_len (view x y : Int) : (sdB view x y).length ≤ 3 := by unfold sdB; split <;> split <;> simp
theorem act_len (V view : Int) (n m : Nat) (σ : List Int) (c : Cm) : (act V view n m σ c).2.1.length ≤ 4 := by
  unfold act
  split
  · unfold actSet
    split
    · split
      · exact Nat.le_trans (sdB_len _ _ _) (by omega)
      · exact Nat.le_trans (sdB_len _ _ _) (by omega)
    · simp
  · split
    · split <;> exact swB_len _ _ _
    · split
      · split <;> exact swB_len _ _ _
      · split <;> simp
theorem act_σlen (V view : Int) (n m : Nat) (σ : List Int) (c : Cm) : (act V view n m σ c).1.length = σ.length := by
  unfold act
  split
  · unfold actSet
    split
    · split <;> simp
    · simp
  · split
    · split <;> simp
    · split
      · split <;> simp
      · split <;> rfl
theorem act_fits {W : Nat} {view : Int} {n m : Nat} {σ : List Int} {c : Cm} (hc : CmOK (pw W) n c) (hf : Fits (pw W) σ) (hnm : n + m = σ.length) (hW : 1 ≤ W) : Fits (pw W) (act (pw W) view n m σ c).1 := by
  have hn : n ≤ σ.length := by omega
  have bx := vl_bd hf hc.x hn
  unfold act
  split
  · rename_i k1
    have by' := vl_bd hf (hc.y (.inl k1)) hn
    unfold actSet
    split
    · rename_i hd
      split
      · exact hf
      · rename_i hz
        have hb := opr_bd W c.op _ _ bx.1 bx.2 by'.1 by'.2 hW (fun _ => hz) (hc.op k1)
        exact hf.set _ hb.1 hb.2
    · rename_i hd
      have hb := opr_bd W c.op _ _ bx.1 bx.2 by'.1 by'.2 hW (fun e => absurd e hd) (hc.op k1)
      exact hf.set _ hb.1 hb.2
  · split
    · split
      · exact hf
      · have hb := hf.get (n + (vl σ c.xn c.xv.toNat).toNat) (by omega)
        exact hf.set _ hb.1 hb.2
    · split
      · rename_i k3
        split
        · exact hf
        · have by' := vl_bd hf (hc.y (.inr k3)) hn
          exact hf.set _ by'.1 by'.2
      · split <;> exact hf
theorem act_next {V view : Int} {n m : Nat} {σ : List Int} {c : Cm} (h1 : 0 ≤ c.yes) (h2 : 0 ≤ c.no) : 0 ≤ (act V view n m σ c).2.2.2 := by
  unfold act
  split
  · exact h1
  · split
    · split <;> exact h1
    · split
      · split <;> exact h1
      · split
        · exact h1
        · dsimp only; split
          · exact h2
          · exact h1

theorem own_below {w w' : World} {kb B : Nat} {v : Value} {cs : List Cm} (h : Own w kb v cs) (hlt : ∀ k, v.ownBlock = some k → k < B) (hb : Below B w w') : Own w' kb v cs := by
  obtain ⟨h1, h2⟩ := h
  refine ⟨h1, ?_⟩
  rcases h2 with h2 | ⟨g, cap, cur, e1, e2, e3, e4⟩
  · exact .inl h2
  · refine .inr ⟨g, cap, cur, e1, e2, ?_, e4⟩
    rw [hb.block g (hlt g (by rw [e1]; rfl))]; exact e3

/-- The lines that are done, from there on. -/
def pathP (V view : Int) (n m fuel : Nat) (cs : List Cm) : Nat → Int → List Int → Nat → List Int
  | 0, _, _, _ => []
  | g + 1, i, σ, steps =>
    match cs[i.toNat]? with
    | none => []
    | some c =>
      if fuel ≤ steps then []
      else if (act V view n m σ c).2.2.1 = true then [i]
      else i :: pathP V view n m fuel cs g (act V view n m σ c).2.2.2 (act V view n m σ c).1 (steps + 1)

theorem pathP_len (V view : Int) (n m fuel : Nat) (cs : List Cm) : ∀ g i σ sn steps, (runP V view n m fuel cs g i σ sn steps).steps = steps + (pathP V view n m fuel cs g i σ steps).length
  | 0, _, _, _, _ => rfl
  | g + 1, i, σ, sn, steps => by
    rw [runP, pathP]
    split
    · rfl
    · split
      · rfl
      · split
        · rfl
        · rw [pathP_len V view n m fuel cs g]; simp; omega

theorem runP_len (V view : Int) (n m fuel : Nat) (cs : List Cm) : ∀ g i σ sn steps, (runP V view n m fuel cs g i σ sn steps).σ.length = σ.length
  | 0, _, _, _, _ => rfl
  | g + 1, i, σ, sn, steps => by
    rw [runP]
    split
    · rfl
    · split
      · rfl
      · split
        · exact act_σlen _ _ _ _ _ _
        · rw [runP_len V view n m fuel cs g]; exact act_σlen _ _ _ _ _ _

/-- The path so far, in a row of its own. -/
def Pt (w : World) (b : Nat) (pv : Value) (ps : List Int) : Prop := w.ownsRow (b + 1) 3 1 pv ps.length (ps.map fun c => Value.int .i64 c)

section
variable {w w1 : World} {b gs : Nat} {W V n m view : Int} {σ : List Int} {sv pv : Value} {sn ps : List Int} {tr : Bool}
theorem Pt.shape (h : Pt w b pv ps) : ∃ ao cap, pv = .slice ao ps.length cap := by
  rcases h.2 with ⟨h', h0⟩ | ⟨g, cap, cur, h', hb, _⟩
  · exact ⟨none, 0, by rw [h', h0]⟩
  · exact ⟨_, cap, h'⟩
theorem Pt.set (h : Pt w b pv ps) {a : Addr} (v : Value) (ha : a.block ≤ b) : Pt (w.setCell a v) b pv ps := ownsRow_setCell_below h (Nat.lt_succ_of_le ha) v
theorem Pt.fr (h : Pt w b pv ps) (hF : Fr gs b w w1) (hg : gs < b) : Pt w1 b pv ps := by
  obtain ⟨h1, h2⟩ := h
  refine ⟨h1, ?_⟩
  rcases h2 with h2 | ⟨g, cap, cur, e1, e2, e3, e4⟩
  · exact .inl h2
  · exact .inr ⟨g, cap, cur, e1, e2, hF.keep g _ _ _ e3 (by decide) (by omega) (by omega), e4⟩

theorem pt_post {tx : ByteArray} {ao : Option Addr} {cap : Nat} (hM : Mac w b gs W V n m view σ sv (tx, .slice ao ps.length cap) tr) (hS : Sn w b sv sn) (hP : Pt w b (.slice ao ps.length cap) ps) (c : Int) (o : Obj) {v' : Value} {w' : World}
    (h1 : w'.ownsRow (b + 1) 3 1 v' (ps.length + 1) ((ps.map fun c => Value.int .i64 c) ++ [.int .i64 c])) (h2 : (w.alloc o).grownBy w' (Value.slice ao ps.length cap).ownBlock) :
    Mac w' b gs W V n m view σ sv (tx, .slice ao ps.length cap) tr ∧ Sn w' b sv sn ∧ Pt w' b v' (ps ++ [c]) ∧ Below gs w w' ∧ ∃ g' cap', v' = .slice (some ⟨g', 0, none⟩) (ps.length + 1) cap' := by
  have hb := hM.1.lt
  have hg := hM.2.2
  have hown : ∀ k, (Value.slice ao ps.length cap).ownBlock = some k → b + 1 ≤ k ∧ k < w.heap.size := World.ownsRow.lt hP
  have ne1 : some b ≠ (Value.slice ao ps.length cap).ownBlock := fun e => by have := hown b e.symm; omega
  have ne2 : some gs ≠ (Value.slice ao ps.length cap).ownBlock := fun e => by have := hown gs e.symm; omega
  refine ⟨⟨(hM.1.alloc o).grown h2 ne1, (hM.2.1.alloc o).grown h2 ne2, hg⟩, ?_, ?_, ?_, ?_⟩
  · have hS1 := hS.alloc o
    obtain ⟨s1, s2⟩ := hS1
    refine ⟨s1, ?_⟩
    rcases s2 with s2 | ⟨g, cap', cur, e1, e2, e3, e4⟩
    · exact .inl s2
    · refine .inr ⟨g, cap', cur, e1, e2, ?_, e4⟩
      have hgl := (Array.getElem?_eq_some_iff.1 e3).1
      rw [h2.block g hgl (fun e => by
        have h3 := World.ownsRow.alloc hP o
        rcases h3.2 with ⟨e0, _⟩ | ⟨g2, cap2, cur2, f1, _, f3, _⟩
        · simp at e0; rw [e0.1] at e; cases e
        · rw [f1] at e
          simp [Value.ownBlock] at e
          subst e
          rw [e3] at f3
          simp at f3)]
      exact e3
  · unfold Pt
    rw [List.length_append, List.map_append]
    exact h1
  · refine ((Below.refl gs w).alloc (by omega) o).trans ?_
    exact ⟨h2.os, h2.tape, h2.output, h2.size, fun k hk => h2.block k (by simp; omega) (fun e => by have := hown k e.symm; omega)⟩
  · rcases h1.2 with ⟨_, h3⟩ | ⟨g', cap', cur, h4, _⟩
    · omega
    · exact ⟨g', cap', h4⟩
end
end Go.Proofs.YtnkbfdbbcaffmaaGreatDoor
/-
  IsInput, refusal.
-/
namespace Go.Proofs.YtnkbfdbbcaffmaaGreatDoor
open Go.RowKit

def okV (V z : Int) : Bool := decide (0 ≤ z) && decide (z < V)
/-- Is it an input? -/
def inB (V : Int) (k : Nat) (zs : List Int) : Bool := (zs.length == k) && zs.all (okV V)

theorem Lies.at_ {w : World} {ab ao : Nat} {zs : List Int} (h : Lies w ⟨ab, ao, none⟩ zs) (i : Nat) (hi : i < zs.length) : w.cell? ⟨ab, ao + i, none⟩ = some (.int .i64 (zs.getD i 0)) := by
  have := h i zs[i] (List.getElem?_eq_getElem hi)
  rw [Addr.add_lit] at this
  simpa [List.getD, hi] using this

set_option maxHeartbeats 1000000 in
theorem isInput_any (tx : ByteArray) (W V : Int) (n m : Nat) (ab ao cin : Nat) (zs : List Int) (hl : zs.length ≤ 9223372036854775807) (hn : n ≤ 100) (hm : m ≤ 100) (w : World) (hL : Lies w ⟨ab, ao, none⟩ zs) :
    Calls Tryz.prog 93 #[.agg #[.string tx, .int .i64 W, .int .i64 V, .int .i64 n, .int .i64 m], .slice (some ⟨ab, ao, none⟩) zs.length cin] w fun e w' => e = .returned (.bool (inB V (n + m) zs)) ∧ w.grownBy w' none := by
  generalize hr : inB V (n + m) zs = r
  have Hr := hide hr
  clear hr
  have hL1 := hL.grown (gb_alloc (gb_refl w none) (.cells #[.string tx, .int .i64 W, .int .i64 V, .int .i64 n, .int .i64 m] 41)) (by simp)
  have HL1 := hide hL1
  clear hL1
  by_cases hlen : zs.length = n + m
  · have hb : ((zs.length : Int) != (n : Int) + (m : Int)) = false := by simp; omega
    have hz2 : zs.length ≤ 200 := by omega
    have hr2 : zs.all (okV V) = r := by
      rw [← unhide Hr, inB, hlen]; simp
    have Hr2 := hide hr2
    clear hr2 hlen
    have hA := At.new w 41 #[.string tx, .int .i64 W, .int .i64 V, .int .i64 n, .int .i64 m]
    have q1 := hA.cell 2
    simp at q1
    clear hA q1
    go_enter Tryz.func93, Tryz.ntmps93
    go_wp2_with fail
    go_loopw [5] (fun i wr => ∃ k : Nat, i = .int .i64 k ∧ k ≤ zs.length ∧ (∃ j, wr = (w.alloc (.cells #[.string tx, .int .i64 W, .int .i64 V, .int .i64 n, .int .i64 m] 41)).drewN j) ∧ Hid ((zs.drop k).all (okV V) = r)) (fun i _ => zs.length - (intOf i).toNat)
    case atStart => exact ⟨0, rfl, by omega, ⟨0, rfl⟩, Hr2⟩
    case round =>
      obtain ⟨k, rfl, hk, ⟨j, rfl⟩, HK⟩ := hrel
      by_cases hlt : k < zs.length
      · have hc := (unhide HL1).at_ k hlt
        have hst := unhide HK
        rw [List.drop_eq_getElem_cons hlt, List.all_cons] at hst
        have hgd : zs.getD k 0 = zs[k] := by simp [List.getD, hlt]
        rw [hgd] at hc
        have Hst := hide hst
        clear hst hgd
        generalize hz : zs[k] = z at *
        clear hz
        have hlI : (k : Int) < (zs.length : Int) := by omega
        by_cases h0 : z < 0
        · have hd0 : decide (z < 0) = true := by simpa using h0
          have hrf : false = r := by rw [← unhide Hst, okV]; simp; omega
          have Hrf := hide hrf
          clear hrf h0
          go_wp2_with fail
          go_quiet (fail)
          go_wp2_with fail
          go_ret
          exact ⟨ret_bool (unhide Hrf), gb_drewN (gb_drewN (gb_alloc (gb_refl _ _) _) _) _⟩
        · have hd0 : decide (z < 0) = false := by simpa using h0
          by_cases hV : V ≤ z
          · have hd1 : decide (V ≤ z) = true := by simpa using hV
            have hrf : false = r := by rw [← unhide Hst, okV]; simp; omega
            have Hrf := hide hrf
            clear hrf h0 hV
            go_wp2_with fail
            go_quiet (fail)
            go_wp2_with fail
            go_ret
            exact ⟨ret_bool (unhide Hrf), gb_drewN (gb_drewN (gb_alloc (gb_refl _ _) _) _) _⟩
          · have hd1 : decide (V ≤ z) = false := by simpa using hV
            have hrf : (zs.drop (k + 1)).all (okV V) = r := by
              have h := unhide Hst
              have e : okV V z = true := by simp [okV]; omega
              rw [e, Bool.true_and] at h; exact h
            have Hrf := hide hrf
            clear hrf h0 hV
            go_wp2_with fail
            go_quiet (fail)
            go_wp2_with fail
            go_roundw
            case rel => exact ⟨k + 1, by go_num, by omega, ⟨_, rfl⟩, Hrf⟩
            case measure => simp [intOf]; omega
      · have hrf : true = r := by
          rw [← unhide HK, List.drop_of_length_le (by omega)]; rfl
        have Hrf := hide hrf
        clear hrf
        go_wp2_with fail
        go_ret
        exact ⟨ret_bool (unhide Hrf), gb_drewN (gb_alloc (gb_refl _ _) _) _⟩
  · have hb : ((zs.length : Int) != (n : Int) + (m : Int)) = true := by simp; omega
    have hr2 : false = r := by
      rw [← unhide Hr, inB]
      have : (zs.length == n + m) = false := by simpa using hlen
      rw [this]; rfl
    have Hr2 := hide hr2
    clear hr2 hlen
    go_enter Tryz.func93, Tryz.ntmps93
    go_wp2_with fail
    go_ret
    exact ⟨ret_bool (unhide Hr2), gb_alloc (gb_refl _ _) _⟩

/-- The first thing that is wrong with what a run begins with. -/
def rfs (V : Int) (k : Nat) (view : Int) (zs : List Int) (fuel : Int) : Int :=
  if view < 0 ∨ 8 < view then 4 else if inB V k zs = false then 5 else if fuel < 0 ∨ 10000 < fuel then 6 else 0

end Go.Proofs.YtnkbfdbbcaffmaaGreatDoor
