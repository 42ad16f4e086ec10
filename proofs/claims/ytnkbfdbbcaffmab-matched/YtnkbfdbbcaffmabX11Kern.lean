import Derived.Test.YtnkbfdbbcaffmabX10App
import Derived.Test.YtnkbfdbbcaffmabX08Mach6
/-
  ReadKernel, leak.Check.
-/
namespace Go.Proofs.Ytnkbfdbbcaffmab
open Go.RowKit

/-- The reader's state at the text's end. -/
def krn (s : ByteArray) : PS := rdB s (pw (hdr s).2.2.1) (hdr s).2.2.2.1 s.size ⟨(hdr s).1, (hdr s).2.1, []⟩

def krnBad (s : ByteArray) : Bool := (krn s).bad || decide ((krn s).p < s.size)

theorem hdr_wid (s : ByteArray) : 1 ≤ (hdr s).2.2.1 ∧ (hdr s).2.2.1 ≤ 8 := by
  have := tb_wid s 0 false
  unfold hdr
  dsimp only
  omega
theorem hdr_vars (s : ByteArray) : (hdr s).2.2.2.1 ≤ 8 := by
  unfold hdr
  dsimp only
  exact cnt_le _ _ _ _
theorem krn_le (s : ByteArray) : (krn s).p ≤ s.size :=
  (rdB_nxt s _ _ s.size ⟨(hdr s).1, (hdr s).2.1, []⟩ ⟨Nat.zero_le _, hdr_le s⟩ (by unfold lft; split <;> simp)).2.2.2
theorem krn_len (s : ByteArray) : (krn s).cs.length ≤ s.size := by
  have := (rdB_nxt s (pw (hdr s).2.2.1) (hdr s).2.2.2.1 s.size ⟨(hdr s).1, (hdr s).2.1, []⟩ ⟨Nat.zero_le _, hdr_le s⟩ (by unfold lft; split <;> simp)).2.2
  exact Nat.le_trans this.1 this.2

theorem At.eight {w : World} {c : Nat} {t : TypeId} {v0 v1 v2 v3 v4 v5 v6 v7 : Value} (h : At w c t #[v0, v1, v2, v3, v4, v5, v6, v7]) :
    w.cell? ⟨c, 0, none⟩ = some v0 ∧ w.cell? ⟨c, 1, none⟩ = some v1 ∧ w.cell? ⟨c, 2, none⟩ = some v2 ∧ w.cell? ⟨c, 3, none⟩ = some v3 ∧ w.cell? ⟨c, 4, none⟩ = some v4 ∧ w.cell? ⟨c, 5, none⟩ = some v5 ∧ w.cell? ⟨c, 6, none⟩ = some v6 ∧ w.cell? ⟨c, 7, none⟩ = some v7 ∧ (∀ j, w.frozen? ⟨c, j, none⟩ = false) := by
  refine ⟨?_, ?_, ?_, ?_, ?_, ?_, ?_, ?_, fun j => h.frozen j⟩ <;> (rw [h.cell]; rfl)

theorem bset8 {c : Nat} {w w2 : World} (h : Below c w w2) (v0 v1 v2 v3 v4 v5 v6 v7 : Value) :
    Below c w ((((((((w2.setCell ⟨c, 0, none⟩ v0).setCell ⟨c, 1, none⟩ v1).setCell ⟨c, 2, none⟩ v2).setCell ⟨c, 3, none⟩ v3).setCell ⟨c, 4, none⟩ v4).setCell ⟨c, 5, none⟩ v5).setCell ⟨c, 6, none⟩ v6).setCell ⟨c, 7, none⟩ v7) := ((((((((h.setCell (Nat.le_refl _) _).setCell (Nat.le_refl _) _).setCell (Nat.le_refl _) _).setCell (Nat.le_refl _) _).setCell (Nat.le_refl _) _).setCell (Nat.le_refl _) _).setCell (Nat.le_refl _) _).setCell (Nat.le_refl _) _)
theorem oset8 {c : Nat} {w : World} {cv : Value} {cs : List Cm} (h : Own w (c + 1) cv cs) (v0 v1 v2 v3 v4 v5 v6 v7 : Value) :
    Own ((((((((w.setCell ⟨c, 0, none⟩ v0).setCell ⟨c, 1, none⟩ v1).setCell ⟨c, 2, none⟩ v2).setCell ⟨c, 3, none⟩ v3).setCell ⟨c, 4, none⟩ v4).setCell ⟨c, 5, none⟩ v5).setCell ⟨c, 6, none⟩ v6).setCell ⟨c, 7, none⟩ v7) (c + 1) cv cs := by
  have hc : c < c + 1 + 1 := by omega
  exact (ownsRow_setCell_below (ownsRow_setCell_below (ownsRow_setCell_below (ownsRow_setCell_below (ownsRow_setCell_below (ownsRow_setCell_below (ownsRow_setCell_below (ownsRow_setCell_below h hc _) hc _) hc _) hc _) hc _) hc _) hc _) hc _)

/-- A program as it was read. -/
structure Pg where
  e : Int
  z1 : Int
  tx : ByteArray
  W : Nat
  V : Int
  n : Nat
  m : Nat
  cs : List Cm

def Pg.val (q : Pg) (ao : Option Addr) (cap : Nat) : Value :=
  .agg #[.int .i64 q.e, .int .i64 q.z1, .string q.tx, .int .i64 q.W, .int .i64 q.V, .int .i64 q.n, .int .i64 q.m, .slice ao q.cs.length cap]

/-- What ReadKernel answers. -/
def kernV (s : ByteArray) (cv : Value) : Value :=
  if 300 < s.size then .agg #[.int .i64 1, .int .i64 0, .string ⟨#[]⟩, .int .i64 0, .int .i64 0, .int .i64 0, .int .i64 0, .slice none 0 0]
  else if krnBad s = true then .agg #[.int .i64 2, .int .i64 (krn s).p, .string ⟨#[]⟩, .int .i64 0, .int .i64 0, .int .i64 0, .int .i64 0, .slice none 0 0]
  else .agg #[.int .i64 0, .int .i64 0, .string (s.extract 0 (hdr s).1), .int .i64 (hdr s).2.2.1, .int .i64 (pw (hdr s).2.2.1), .int .i64 (hdr s).2.2.2.1, .int .i64 (hdr s).2.2.2.2, cv]

set_option maxHeartbeats 2000000 in
theorem readKernel_any (s : ByteArray) (hmx : s.size ≤ maxLen) (w : World) :
    Calls Try.prog 22 #[.string s] w fun e w' => ∃ ao n cap, e = .returned (kernV s (.slice ao n cap)) ∧ Below w.heap.size w w' ∧ (s.size ≤ 300 → Own w' (w.heap.size + 1) (.slice ao n cap) (krn s).cs) := by
  have hmx' := hmx
  unfold maxLen at hmx'
  by_cases hbig : 300 < s.size
  · have hkv : kernV s (.slice none 0 0) = .agg #[.int .i64 1, .int .i64 0, .string ⟨#[]⟩, .int .i64 0, .int .i64 0, .int .i64 0, .int .i64 0, .slice none 0 0] := by unfold kernV; rw [if_pos hbig]
    have Hkv := hide hkv
    clear hkv
    go_enter Try.func22, Try.ntmps22
    go_wp2_with fail
    refine bodyPost_ret (v := .agg #[.int .i64 1, .int .i64 0, .string ⟨#[]⟩, .int .i64 0, .int .i64 0, .int .i64 0, .int .i64 0, .slice none 0 0]) (by simp [results, Try.results22, go_sem]) rfl ⟨none, 0, 0, by rw [unhide Hkv], ?_, fun h => by omega⟩
    exact (Below.refl _ _).alloc (Nat.le_refl _) _
  · have hsm : s.size ≤ 1000 := by omega
    have hvr := hdr_vars s
    have hpw := pw_bd _ (hdr_wid s).2
    have hbody := body_all (b := w.heap.size + 1) (s := s) (ht := s.extract 0 (hdr s).1) (hw := (hdr s).2.2.1) (hv := pw (hdr s).2.2.1) (hn := (hdr s).2.2.2.1) (hm := (hdr s).2.2.2.2) hsm (by omega) (by omega) hpw.1 hpw.2 s.size s.size (Nat.le_refl _)
      ⟨(hdr s).1, (hdr s).2.1, []⟩
    have hI : Inv s ⟨(hdr s).1, (hdr s).2.1, []⟩ := ⟨Nat.zero_le _, hdr_le s⟩
    have hl : lft s ⟨(hdr s).1, (hdr s).2.1, []⟩ ≤ s.size := by unfold lft; split <;> simp
    have hbody2 := fun w1 h => hbody w1 h hI hl
    have hkp := krn_le s
    rw [show rdB s (pw (hdr s).2.2.1) (hdr s).2.2.2.1 s.size ⟨(hdr s).1, (hdr s).2.1, []⟩ = krn s from rfl] at hbody2
    unfold Reads at hbody2
    have Hb := hide hbody2
    clear hbody hbody2 hI hl hvr hpw
    have hKV : ∀ cv, kernV s cv = if krnBad s = true then .agg #[.int .i64 2, .int .i64 (krn s).p, .string ⟨#[]⟩, .int .i64 0, .int .i64 0, .int .i64 0, .int .i64 0, .slice none 0 0] else .agg #[.int .i64 0, .int .i64 0, .string (s.extract 0 (hdr s).1), .int .i64 (hdr s).2.2.1, .int .i64 (pw (hdr s).2.2.1), .int .i64 (hdr s).2.2.2.1, .int .i64 (hdr s).2.2.2.2, cv] := fun cv => by
      unfold kernV; rw [if_neg hbig]
    have HKV := hide hKV
    clear hKV
    generalize hH : hdr s = H at *
    obtain ⟨hp, hb, hW, hN, hM⟩ := H
    have HH := hide hH
    clear hH
    dsimp only at *
    have hkb : krnBad s = ((krn s).bad || decide ((krn s).p < s.size)) := rfl
    have Hkb := hide hkb
    clear hkb
    generalize hK : krn s = K at *
    obtain ⟨kp, kb, kcs⟩ := K
    clear hK
    dsimp only at *
    generalize hV : pw hW = V at *
    have HV := hide hV
    clear hV
    generalize hB : krnBad s = B at *
    clear hB
    go_enter Try.func22, Try.ntmps22
    go_wp2_with fail
    refine (readHead_any (b := w.heap.size + 1) (s := s) (ht := ⟨#[]⟩) (hw := 0) (hv := 0) (hn := 0) (hm := 0) (cv := .slice none 0 0) (by
      have := At.new (w.alloc (.cells #[.int .i64 0, .int .i64 0, .string ⟨#[]⟩, .int .i64 0, .int .i64 0, .int .i64 0, .int .i64 0, .slice none 0 0] 56)) 67 #[.string s, .int .i64 0, .bool false, .string ⟨#[]⟩, .int .i64 0, .int .i64 0, .int .i64 0, .int .i64 0, .slice none 0 0]
      simpa [Rd] using this) hmx).mono ?_
    rintro e w1 ⟨rfl, hR1, hg1⟩
    rw [unhide HH] at hR1
    dsimp only at hR1
    rw [unhide HV] at hR1
    have hA1 := At.grown (At.alloc (At.new w 56 #[.int .i64 0, .int .i64 0, .string ⟨#[]⟩, .int .i64 0, .int .i64 0, .int .i64 0, .int .i64 0, .slice none 0 0]) _) hg1 (by simp)
    have hB1 := gb_below hg1 (by simp)
    have HA1 := hide hA1
    have HB1 := hide (((Below.refl w.heap.size w).alloc (Nat.le_refl _) _).alloc (by simp) _ |>.trans (hB1.mono (Nat.le_succ _)))
    clear hA1 hB1
    go_wp2_with fail
    have hS1 : Stt w1 (w.heap.size + 1) s (s.extract 0 hp) hW V hN hM ⟨hp, hb, []⟩ := ⟨_, hR1, World.ownsRow_nil w1 _ _ _⟩
    refine (unhide Hb w1 hS1).mono ?_
    rintro e w2 ⟨rfl, ⟨cv, hR2, hO2⟩, hB2⟩
    dsimp only at hR2 hO2
    have hA2 : At w2 w.heap.size 56 #[.int .i64 0, .int .i64 0, .string ⟨#[]⟩, .int .i64 0, .int .i64 0, .int .i64 0, .int .i64 0, .slice none 0 0] := by
      have := unhide HA1
      unfold At at this ⊢
      rw [hB2.block w.heap.size (by omega)]; exact this
    have hBB := (unhide HB1).trans (hB2.mono (Nat.le_succ _))
    obtain ⟨ao, cap, rfl⟩ := hO2.shape
    obtain ⟨c0, c1, c2, c3, c4, c5, c6, c7, c8, cf⟩ := At.nine hR2
    obtain ⟨r0, r1, r2, r3, r4, r5, r6, r7, rf⟩ := At.eight hA2
    clear HA1 HB1 hA2 hR1 hS1
    cases kb with
    | true =>
      have HB : Hid (B = true) := by rw [unhide Hkb]; rfl
      go_wp2_with fail
      refine bodyPost_ret (v := .agg #[.int .i64 2, .int .i64 kp, .string ⟨#[]⟩, .int .i64 0, .int .i64 0, .int .i64 0, .int .i64 0, .slice none 0 0]) (by simp [results, Try.results22, go_sem, r0, r1, r2, r3, r4, r5, r6, r7]) rfl ⟨ao, kcs.length, cap, by rw [unhide HKV, if_pos (by rw [unhide HB])], ?_, fun _ => ?_⟩
      · exact bset8 hBB _ _ _ _ _ _ _ _
      · exact oset8 hO2 _ _ _ _ _ _ _ _
    | false =>
      by_cases hlt : kp < s.size
      · have HB : Hid (B = true) := by rw [unhide Hkb]; simp [Hid, hlt]
        go_wp2_with fail
        refine bodyPost_ret (v := .agg #[.int .i64 2, .int .i64 kp, .string ⟨#[]⟩, .int .i64 0, .int .i64 0, .int .i64 0, .int .i64 0, .slice none 0 0]) (by simp [results, Try.results22, go_sem, r0, r1, r2, r3, r4, r5, r6, r7]) rfl ⟨ao, kcs.length, cap, by rw [unhide HKV, if_pos (by rw [unhide HB])], ?_, fun _ => ?_⟩
        · exact bset8 hBB _ _ _ _ _ _ _ _
        · exact oset8 hO2 _ _ _ _ _ _ _ _
      · have HB : Hid (B = false) := by rw [unhide Hkb]; simp [Hid, hlt]
        go_wp2_with fail
        refine bodyPost_ret (v := .agg #[.int .i64 0, .int .i64 0, .string (s.extract 0 hp), .int .i64 hW, .int .i64 V, .int .i64 hN, .int .i64 hM, .slice ao kcs.length cap]) (by simp [results, Try.results22, go_sem, r0, r1, r2, r3, r4, r5, r6, r7]) rfl ⟨ao, kcs.length, cap, by rw [unhide HKV, if_neg (by rw [unhide HB]; simp)], ?_, fun _ => ?_⟩
        · exact bset8 hBB _ _ _ _ _ _ _ _
        · exact oset8 hO2 _ _ _ _ _ _ _ _

/-- What Check answers. -/
def chk (s : ByteArray) : Int × Int := if 300 < s.size then (1, 0) else if krnBad s = true then (2, (krn s).p) else (0, 0)

theorem kernV_form (s : ByteArray) (ao : Option Addr) (n cap : Nat) : ∃ c1 c2 c3 c4 c5 ao' n' cap', kernV s (.slice ao n cap) = .agg #[.int .i64 (chk s).1, .int .i64 (chk s).2, .string c1, .int .i64 c2, .int .i64 c3, .int .i64 c4, .int .i64 c5, .slice ao' n' cap'] := by
  unfold kernV chk
  split
  · exact ⟨_, _, _, _, _, _, _, _, rfl⟩
  · split
    · exact ⟨_, _, _, _, _, _, _, _, rfl⟩
    · exact ⟨_, _, _, _, _, _, _, _, rfl⟩
end Go.Proofs.Ytnkbfdbbcaffmab
/-
  RunKernel.
-/
namespace Go.Proofs.Ytnkbfdbbcaffmab
open Go.RowKit

/-- The state, what is seen, the steps, the tag of a run's end. -/
structure Res where
  tag : Int
  steps : Nat
  sn : List Int
  σ : List Int

/-- A run of commands, as a plain function. -/
def runP (V view : Int) (n m fuel : Nat) (cs : List Cm) : Nat → Int → List Int → List Int → Nat → Res
  | 0, _, σ, sn, steps => ⟨3, steps, sn, σ⟩
  | g + 1, i, σ, sn, steps =>
    match cs[i.toNat]? with
    | none => ⟨1, steps, sn, σ⟩
    | some c =>
      if fuel ≤ steps then ⟨3, steps, sn, σ⟩
      else if (act V view n m σ c).2.2.1 = true then ⟨2, steps + 1, sn ++ (act V view n m σ c).2.1, (act V view n m σ c).1⟩
      else runP V view n m fuel cs g (act V view n m σ c).2.2.2 (act V view n m σ c).1 (sn ++ (act V view n m σ c).2.1) (steps + 1)

/-- Commands that fit, and lead to commands. -/
def CsOK (V : Int) (n : Nat) (cs : List Cm) : Prop := ∀ c ∈ cs, CmOK V n c ∧ 0 ≤ c.yes ∧ 0 ≤ c.no

theorem swB_len (view m x : Int) : (swB view m x).length ≤ 4 := by unfold swB; split <;> simp
theorem sdB_len (view x y : Int) : (sdB view x y).length ≤ 3 := by unfold sdB; split <;> split <;> simp
theorem act_len (V view : Int) (n m : Nat) (σ : List Int) (c : Cm) : (act V view n m σ c).2.1.length ≤ 4 := by
  unfold act
  split
  · unfold actSet
    split
    · split
      · exact Nat.le_trans (sdB_len _ _ _) (by omega)
      · exact Nat.le_trans (sdB_len _ _ _) (by omega)
    · simp
  · split
    · split <;> exact swB_len _ _ _
    · split
      · split <;> exact swB_len _ _ _
      · split <;> simp
theorem act_σlen (V view : Int) (n m : Nat) (σ : List Int) (c : Cm) : (act V view n m σ c).1.length = σ.length := by
  unfold act
  split
  · unfold actSet
    split
    · split <;> simp
    · simp
  · split
    · split <;> simp
    · split
      · split <;> simp
      · split <;> rfl
theorem act_fits {W : Nat} {view : Int} {n m : Nat} {σ : List Int} {c : Cm} (hc : CmOK (pw W) n c) (hf : Fits (pw W) σ) (hnm : n + m = σ.length) (hW : 1 ≤ W) : Fits (pw W) (act (pw W) view n m σ c).1 := by
  have hn : n ≤ σ.length := by omega
  have bx := vl_bd hf hc.x hn
  unfold act
  split
  · rename_i k1
    have by' := vl_bd hf (hc.y (.inl k1)) hn
    unfold actSet
    split
    · rename_i hd
      split
      · exact hf
      · rename_i hz
        have hb := opr_bd W c.op _ _ bx.1 bx.2 by'.1 by'.2 hW (fun _ => hz) (hc.op k1)
        exact hf.set _ hb.1 hb.2
    · rename_i hd
      have hb := opr_bd W c.op _ _ bx.1 bx.2 by'.1 by'.2 hW (fun e => absurd e hd) (hc.op k1)
      exact hf.set _ hb.1 hb.2
  · split
    · split
      · exact hf
      · have hb := hf.get (n + (vl σ c.xn c.xv.toNat).toNat) (by omega)
        exact hf.set _ hb.1 hb.2
    · split
      · rename_i k3
        split
        · exact hf
        · have by' := vl_bd hf (hc.y (.inr k3)) hn
          exact hf.set _ by'.1 by'.2
      · split <;> exact hf
theorem act_next {V view : Int} {n m : Nat} {σ : List Int} {c : Cm} (h1 : 0 ≤ c.yes) (h2 : 0 ≤ c.no) : 0 ≤ (act V view n m σ c).2.2.2 := by
  unfold act
  split
  · exact h1
  · split
    · split <;> exact h1
    · split
      · split <;> exact h1
      · split
        · exact h1
        · dsimp only; split
          · exact h2
          · exact h1

theorem own_below {w w' : World} {kb B : Nat} {v : Value} {cs : List Cm} (h : Own w kb v cs) (hlt : ∀ k, v.ownBlock = some k → k < B) (hb : Below B w w') : Own w' kb v cs := by
  obtain ⟨h1, h2⟩ := h
  refine ⟨h1, ?_⟩
  rcases h2 with h2 | ⟨g, cap, cur, e1, e2, e3, e4⟩
  · exact .inl h2
  · refine .inr ⟨g, cap, cur, e1, e2, ?_, e4⟩
    rw [hb.block g (hlt g (by rw [e1]; rfl))]; exact e3

/-- The lines that are done, from there on. -/
def pathP (V view : Int) (n m fuel : Nat) (cs : List Cm) : Nat → Int → List Int → Nat → List Int
  | 0, _, _, _ => []
  | g + 1, i, σ, steps =>
    match cs[i.toNat]? with
    | none => []
    | some c =>
      if fuel ≤ steps then []
      else if (act V view n m σ c).2.2.1 = true then [i]
      else i :: pathP V view n m fuel cs g (act V view n m σ c).2.2.2 (act V view n m σ c).1 (steps + 1)

theorem pathP_len (V view : Int) (n m fuel : Nat) (cs : List Cm) : ∀ g i σ sn steps, (runP V view n m fuel cs g i σ sn steps).steps = steps + (pathP V view n m fuel cs g i σ steps).length
  | 0, _, _, _, _ => rfl
  | g + 1, i, σ, sn, steps => by
    rw [runP, pathP]
    split
    · rfl
    · split
      · rfl
      · split
        · rfl
        · rw [pathP_len V view n m fuel cs g]; simp; omega

theorem runP_len (V view : Int) (n m fuel : Nat) (cs : List Cm) : ∀ g i σ sn steps, (runP V view n m fuel cs g i σ sn steps).σ.length = σ.length
  | 0, _, _, _, _ => rfl
  | g + 1, i, σ, sn, steps => by
    rw [runP]
    split
    · rfl
    · split
      · rfl
      · split
        · exact act_σlen _ _ _ _ _ _
        · rw [runP_len V view n m fuel cs g]; exact act_σlen _ _ _ _ _ _

/-- The path so far, in a row of its own. -/
def Pt (w : World) (b : Nat) (pv : Value) (ps : List Int) : Prop := w.ownsRow (b + 1) 3 1 pv ps.length (ps.map fun c => Value.int .i64 c)

section
variable {w w1 : World} {b gs : Nat} {W V n m view : Int} {σ : List Int} {sv pv : Value} {sn ps : List Int} {tr : Bool}
theorem Pt.shape (h : Pt w b pv ps) : ∃ ao cap, pv = .slice ao ps.length cap := by
  rcases h.2 with ⟨h', h0⟩ | ⟨g, cap, cur, h', hb, _⟩
  · exact ⟨none, 0, by rw [h', h0]⟩
  · exact ⟨_, cap, h'⟩
theorem Pt.set (h : Pt w b pv ps) {a : Addr} (v : Value) (ha : a.block ≤ b) : Pt (w.setCell a v) b pv ps := ownsRow_setCell_below h (Nat.lt_succ_of_le ha) v
theorem Pt.fr (h : Pt w b pv ps) (hF : Fr gs b w w1) (hg : gs < b) : Pt w1 b pv ps := by
  obtain ⟨h1, h2⟩ := h
  refine ⟨h1, ?_⟩
  rcases h2 with h2 | ⟨g, cap, cur, e1, e2, e3, e4⟩
  · exact .inl h2
  · exact .inr ⟨g, cap, cur, e1, e2, hF.keep g _ _ _ e3 (by decide) (by omega) (by omega), e4⟩

theorem pt_post {tx : ByteArray} {ao : Option Addr} {cap : Nat} (hM : Mac w b gs W V n m view σ sv (tx, .slice ao ps.length cap) tr) (hS : Sn w b sv sn) (hP : Pt w b (.slice ao ps.length cap) ps) (c : Int) (o : Obj) {v' : Value} {w' : World}
    (h1 : w'.ownsRow (b + 1) 3 1 v' (ps.length + 1) ((ps.map fun c => Value.int .i64 c) ++ [.int .i64 c])) (h2 : (w.alloc o).grownBy w' (Value.slice ao ps.length cap).ownBlock) :
    Mac w' b gs W V n m view σ sv (tx, .slice ao ps.length cap) tr ∧ Sn w' b sv sn ∧ Pt w' b v' (ps ++ [c]) ∧ Below gs w w' ∧ ∃ g' cap', v' = .slice (some ⟨g', 0, none⟩) (ps.length + 1) cap' := by
  have hb := hM.1.lt
  have hg := hM.2.2
  have hown : ∀ k, (Value.slice ao ps.length cap).ownBlock = some k → b + 1 ≤ k ∧ k < w.heap.size := World.ownsRow.lt hP
  have ne1 : some b ≠ (Value.slice ao ps.length cap).ownBlock := fun e => by have := hown b e.symm; omega
  have ne2 : some gs ≠ (Value.slice ao ps.length cap).ownBlock := fun e => by have := hown gs e.symm; omega
  refine ⟨⟨(hM.1.alloc o).grown h2 ne1, (hM.2.1.alloc o).grown h2 ne2, hg⟩, ?_, ?_, ?_, ?_⟩
  · have hS1 := hS.alloc o
    obtain ⟨s1, s2⟩ := hS1
    refine ⟨s1, ?_⟩
    rcases s2 with s2 | ⟨g, cap', cur, e1, e2, e3, e4⟩
    · exact .inl s2
    · refine .inr ⟨g, cap', cur, e1, e2, ?_, e4⟩
      have hgl := (Array.getElem?_eq_some_iff.1 e3).1
      rw [h2.block g hgl (fun e => by
        have h3 := World.ownsRow.alloc hP o
        rcases h3.2 with ⟨e0, _⟩ | ⟨g2, cap2, cur2, f1, _, f3, _⟩
        · simp at e0; rw [e0.1] at e; cases e
        · rw [f1] at e
          simp [Value.ownBlock] at e
          subst e
          rw [e3] at f3
          simp at f3)]
      exact e3
  · unfold Pt
    rw [List.length_append, List.map_append]
    exact h1
  · refine ((Below.refl gs w).alloc (by omega) o).trans ?_
    exact ⟨h2.os, h2.tape, h2.output, h2.size, fun k hk => h2.block k (by simp; omega) (fun e => by have := hown k e.symm; omega)⟩
  · rcases h1.2 with ⟨_, h3⟩ | ⟨g', cap', cur, h4, _⟩
    · omega
    · exact ⟨g', cap', h4⟩
end
end Go.Proofs.Ytnkbfdbbcaffmab
