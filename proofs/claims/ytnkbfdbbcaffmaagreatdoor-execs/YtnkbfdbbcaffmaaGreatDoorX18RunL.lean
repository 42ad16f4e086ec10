import Derived.Test.YtnkbfdbbcaffmaaGreatDoorX17RunK
import Derived.Test.YtnkbfdbbcaffmaaGreatDoorX14Mach3
/-
  leak.Run.
-/
namespace Go.Proofs.YtnkbfdbbcaffmaaGreatDoor
open Go.RowKit

theorem tb_ok {s : ByteArray} {p : Nat} {a : Bool} {lo hi : Int} (h : (tb s p a lo hi).2.1 = false) : 0 ≤ (tb s p a lo hi).2.2 ∧ (tb s p a lo hi).2.2 ≤ hi - lo := by
  unfold tb at *
  by_cases hr : lo ≤ pk s p a ∧ pk s p a ≤ hi
  · rw [if_pos hr]; dsimp only; omega
  · rw [if_neg hr] at h; cases h

theorem opnd_ok {s : ByteArray} {p : Nat} {a : Bool} {V : Int} {n : Nat} (hV : 1 ≤ V) (h : (opnd s p a V n).2.1 = false) : 0 ≤ (opnd s p a V n).2.2.2 ∧ OpOK V n (opnd s p a V n).2.2.1 (opnd s p a V n).2.2.2.toNat := by
  unfold opnd at *
  by_cases hr : 48 ≤ pk s p a ∧ pk s p a ≤ 57
  · rw [if_pos hr] at h ⊢
    dsimp only at *
    have h1 := Int.emod_nonneg (tb s p a 48 57).2.2 (b := V) (by omega)
    have h2 := Int.emod_lt_of_pos (tb s p a 48 57).2.2 (b := V) (by omega)
    exact ⟨h1, fun e => (by cases e), fun _ => by omega⟩
  · rw [if_neg hr] at h ⊢
    dsimp only at *
    have := tb_ok h
    exact ⟨this.1, fun _ => by omega, fun e => (by cases e)⟩

theorem opn_ok {s : ByteArray} {p : Nat} {a : Bool} (h : (opn s p a).2.1 = false) : isOp (opn s p a).2.2 = true := by
  unfold opn at *
  by_cases hr : isOp (pk s p a) = true
  · rw [if_pos hr]; exact hr
  · rw [if_neg hr] at h; cases h

/-- A mark that is not set behind was not set before. -/
theorem Fwd.back {s : ByteArray} {p q : Nat} {a b : Bool} (h : Fwd s p a q b) (hb : b = false) : a = false := by
  cases a with
  | false => rfl
  | true => rw [(h.2.2 rfl).2] at hb; cases hb

theorem tcmd_ok {s : ByteArray} {p : Nat} {V : Int} {n : Nat} {k : Int} (hV : 1 ≤ V) (hp : p < s.size) (hk : isCmd k = true) (hb : (tcmd s p V n k).2.1 = false) (y o : Int) : CmOK V n { (tcmd s p V n k).2.2 with yes := y, no := o } := by
  have hkk := tcmd_kind s p V n k
  have hx0 : p + 1 ≤ s.size := hp
  unfold tcmd at *
  by_cases k1 : k = 61
  · rw [if_pos k1] at hb ⊢
    unfold cmSet at hb ⊢
    dsimp only at *
    have f1 := tb_fwd s (p + 1) false 97 (97 + (n : Int) - 1) hx0
    have f2 := opnd_fwd s _ (tb s (p + 1) false 97 (97 + (n : Int) - 1)).2.1 V n f1.2.1
    have f3 := opn_fwd s _ (opnd s (tb s (p + 1) false 97 (97 + (n : Int) - 1)).1 (tb s (p + 1) false 97 (97 + (n : Int) - 1)).2.1 V n).2.1 f2.2.1
    have f4 := opnd_fwd s _ (opn s (opnd s (tb s (p + 1) false 97 (97 + (n : Int) - 1)).1 (tb s (p + 1) false 97 (97 + (n : Int) - 1)).2.1 V n).1 (opnd s (tb s (p + 1) false 97 (97 + (n : Int) - 1)).1 (tb s (p + 1) false 97 (97 + (n : Int) - 1)).2.1 V n).2.1).2.1 V n f3.2.1
    have b3 := f4.back hb
    have b2 := f3.back b3
    have b1 := f2.back b2
    have v1 := tb_ok b1
    have x1 := opnd_ok hV b2
    have o1 := opn_ok b3
    have y1 := opnd_ok hV hb
    exact ⟨.inl (by rfl), v1.1, x1.1, y1.1, fun _ => by dsimp only; omega, x1.2, fun _ => y1.2, fun _ => o1⟩
  · rw [if_neg k1] at hb ⊢
    by_cases k2 : k = 108
    · rw [if_pos k2] at hb ⊢
      unfold cmLoad at hb ⊢
      dsimp only at *
      have f1 := tb_fwd s (p + 1) false 97 (97 + (n : Int) - 1) hx0
      have f2 := opnd_fwd s _ (tb s (p + 1) false 97 (97 + (n : Int) - 1)).2.1 V n f1.2.1
      have b1 := f2.back hb
      have v1 := tb_ok b1
      have x1 := opnd_ok hV hb
      exact ⟨.inl (by rfl), v1.1, x1.1, Int.le_refl _, fun _ => by dsimp only; omega, x1.2, fun e => (by rcases e with e | e <;> (dsimp only at e; omega)), fun e => (by dsimp only at e; omega)⟩
    · rw [if_neg k2] at hb ⊢
      by_cases k3 : k = 115
      · rw [if_pos k3] at hb ⊢
        unfold cmStore at hb ⊢
        dsimp only at *
        have f1 := opnd_fwd s (p + 1) false V n hx0
        have f2 := opnd_fwd s _ (opnd s (p + 1) false V n).2.1 V n f1.2.1
        have b1 := f2.back hb
        have x1 := opnd_ok hV b1
        have y1 := opnd_ok hV hb
        exact ⟨.inl (by rfl), Int.le_refl _, x1.1, y1.1, fun e => (by rcases e with e | e <;> (dsimp only at e; omega)), x1.2, fun _ => y1.2, fun e => (by dsimp only at e; omega)⟩
      · rw [if_neg k3] at hb ⊢
        unfold cmTest at hb ⊢
        dsimp only at *
        have x1 := opnd_ok hV hb
        exact ⟨.inl hk, Int.le_refl _, x1.1, Int.le_refl _, fun e => (by rcases e with e | e <;> (dsimp only at e; omega)), x1.2, fun e => (by rcases e with e | e <;> (dsimp only at e; omega)), fun e => (by dsimp only at e; omega)⟩

theorem CmOK.at_ {V : Int} {n : Nat} {c : Cm} (h : CmOK V n c) (y o : Int) : CmOK V n { c with yes := y, no := o } := ⟨h.kind, h.v0, h.x0, h.y0, h.var, h.x, h.y, h.op⟩
theorem CmOK.br {V : Int} {n : Nat} {c : Cm} (h : CmOK V n c) (y o p q : Int) : CmOK V n { c with yes := y, no := o, sec := p, beh := q } := ⟨h.kind, h.v0, h.x0, h.y0, h.var, h.x, h.y, h.op⟩

theorem CsOK.rdr {V : Int} {n : Nat} {cs : List Cm} (h : CsOK V n cs) (lo hi : Nat) (old : Int) (now : Nat) : CsOK V n (rdr cs lo hi old now) := by
  intro c hc
  obtain ⟨i, hi', e⟩ := List.mem_iff_getElem.1 hc
  have e2 := rdr_get cs lo hi old now i
  rw [List.getElem?_eq_getElem hi', e] at e2
  cases hd : cs[i]? with
  | none => rw [hd] at e2; cases e2
  | some d =>
    rw [hd] at e2
    simp at e2
    have hdm := h d (List.mem_of_getElem? hd)
    subst e2
    split
    · refine ⟨hdm.1.at_ _ _, ?_, ?_⟩
      · show 0 ≤ (if d.yes = old then (now : Int) else d.yes)
        split
        · omega
        · exact hdm.2.1
      · show 0 ≤ (if d.no = old then (now : Int) else d.no)
        split
        · omega
        · exact hdm.2.2
    · exact hdm
theorem CsOK.setNo {V : Int} {n : Nat} {cs : List Cm} (h : CsOK V n cs) (i v : Nat) : CsOK V n (setNo cs i v) := by
  unfold Proofs.YtnkbfdbbcaffmaaGreatDoor.setNo
  split
  · rename_i c hc
    have hcm := h c (List.mem_of_getElem? hc)
    intro d hd
    rcases List.mem_or_eq_of_mem_set hd with hd | rfl
    · exact h d hd
    · exact ⟨hcm.1.at_ _ _, hcm.2.1, Int.natCast_nonneg _⟩
  · exact h

theorem CsOK.setBr {V : Int} {n : Nat} {cs : List Cm} (h : CsOK V n cs) (i v e : Nat) : CsOK V n (setBr cs i v e) := by
  unfold Proofs.YtnkbfdbbcaffmaaGreatDoor.setBr
  split
  · rename_i c hc
    have hcm := h c (List.mem_of_getElem? hc)
    intro d hd
    rcases List.mem_or_eq_of_mem_set hd with hd | rfl
    · exact h d hd
    · exact ⟨hcm.1.br _ _ _ _, hcm.2.1, Int.natCast_nonneg _⟩
  · exact h

section
variable {s : ByteArray} {V : Int} {n : Nat}
/-- Where the mark is not set behind, all commands fit. -/
def Good (V : Int) (n : Nat) (st st' : PS) : Prop := st'.bad = false → CsOK V n st.cs → CsOK V n st'.cs

theorem blk_good {rdb : PS → PS} {N : Nat} (hn : ∀ st, Inv s st → lft s st ≤ N → Nxt s st (rdb st)) (hg : ∀ st, Inv s st → lft s st ≤ N → Good V n st (rdb st)) {st : PS} (h : Inv s st) (hl : lft s st ≤ N) : Good V n st (blk rdb s st) := by
  unfold blk
  have h1 := nxt_tk h 40
  have h2 := hn _ h1.2.2 (Nat.le_trans h1.lft hl)
  have h3 := nxt_tk h2.2.2 41
  intro hb hc
  exact hg _ h1.2.2 (Nat.le_trans h1.lft hl) (h3.1.back hb) hc

theorem step_good {rdb : PS → PS} {N : Nat} (hV : 1 ≤ V) (hn : ∀ st, Inv s st → lft s st ≤ N → Nxt s st (rdb st)) (hg : ∀ st, Inv s st → lft s st ≤ N → Good V n st (rdb st)) {st : PS} (h : Inv s st) (hl : lft s st ≤ N + 1) (hc : isCmd (pk s st.p st.bad) = true) : Good V n st (cmdStep rdb s V n st) := by
  obtain ⟨i1, _, _, l1⟩ := ps1_nxt (hv := V) (hn := (n : Int)) h hc
  obtain ⟨hb0, hp⟩ := isCmd_pk hc
  have g1 : Good V n st (ps1 s V n st) := by
    intro hb hcs
    intro d hd
    have hd' : d ∈ st.cs ++ [{ (tcmd s st.p V n (pk s st.p st.bad)).2.2 with yes := st.cs.length + 1, no := st.cs.length + 1 }] := hd
    rcases List.mem_append.1 hd' with hd' | hd'
    · exact hcs d hd'
    · simp at hd'
      subst hd'
      exact ⟨tcmd_ok hV hp hc hb _ _, by dsimp only; omega, by dsimp only; omega⟩
  unfold cmdStep
  split
  · have a := blk_nxt hn i1 (by omega)
    have ga := blk_good hn hg i1 (by omega)
    have c := blk_nxt hn a.2.2 (by have := a.lft; omega)
    have gc := blk_good hn hg a.2.2 (by have := a.lft; omega)
    intro hb hcs
    have hb2 : (blk rdb s (blk rdb s (ps1 s V n st))).bad = false := hb
    have hb1 := c.1.back hb2
    have hb0 := a.1.back hb1
    exact (CsOK.rdr (gc hb2 (ga hb1 (g1 hb0 hcs))) _ _ _ _).setBr _ _ _
  · split
    · have a := blk_nxt hn i1 (by omega)
      have ga := blk_good hn hg i1 (by omega)
      intro hb hcs
      have hb1 : (blk rdb s (ps1 s V n st)).bad = false := hb
      have hb0 := a.1.back hb1
      exact (CsOK.rdr (ga hb1 (g1 hb0 hcs)) _ _ _ _).setNo _ _
    · exact g1

theorem rdB_good (hV : 1 ≤ V) : ∀ (f : Nat) (st : PS), Inv s st → lft s st ≤ f → Good V n st (rdB s V n f st)
  | 0, st, _, _ => fun _ h => h
  | f + 1, st, h, hl => by
    unfold rdB
    split
    · rename_i hc
      have hrn : ∀ st, Inv s st → lft s st ≤ f → Nxt s st (rdB s V n f st) := rdB_nxt s V n f
      have hrg : ∀ st, Inv s st → lft s st ≤ f → Good V n st (rdB s V n f st) := rdB_good hV f
      obtain ⟨nx, lx⟩ := step_nxt (hv := V) (hn := (n : Int)) hrn h hl hc
      have gs := step_good hV hrn hrg h hl hc
      have n2 := hrn _ nx.2.2 (by omega)
      intro hb hcs
      exact hrg _ nx.2.2 (by omega) hb (gs (n2.1.back hb) hcs)
    · exact fun _ h => h
end

theorem krn_ok (s : ByteArray) (h : krnBad s = false) : CsOK (pw (hdr s).2.2.1) (hdr s).2.2.2.1 (krn s).cs := by
  simp [krnBad] at h
  have hV := (pw_bd _ (hdr_wid s).2).1
  exact rdB_good hV s.size ⟨(hdr s).1, (hdr s).2.1, []⟩ ⟨Nat.zero_le _, hdr_le s⟩ (by unfold lft; split <;> simp) h.1 (fun c hc => by cases hc)

theorem hdr_words (s : ByteArray) : (hdr s).2.2.2.2 ≤ 16 := by
  unfold hdr
  dsimp only
  exact cnt_le _ _ _ _
end Go.Proofs.YtnkbfdbbcaffmaaGreatDoor
/-
  Which text is left to be done, where a command stands. A branch, a loop, a plain command; a body. The reader's commands flow as the text says.
-/
namespace Go.Proofs.YtnkbfdbbcaffmaaGreatDoor
open Go.RowKit

/-- The text from p on. -/
def Lft (s : ByteArray) (p : Nat) : List UInt8 := s.data.toList.drop p

section
variable {s : ByteArray} {p : Nat} {a : Bool} {V : Int} {n : Nat}

theorem tk_eat {c : Int} (h : (tk s p a c).2 = false) : a = false ∧ (tk s p a c).1 = p + 1 ∧ ∃ x, Lft s p = x :: Lft s (p + 1) ∧ (x.toNat : Int) = c := by
  unfold tk at *
  cases a with
  | true => simp at h
  | false =>
    simp only [Bool.false_eq_true, if_false] at h ⊢
    by_cases hr : pk s p false = c ∧ p < s.size
    · rw [if_pos hr]
      refine ⟨trivial, rfl, s[p]'hr.2, drop_at s p hr.2, ?_⟩
      exact (pk_at s p hr.2).symm.trans hr.1
    · rw [if_neg hr] at h; cases h

theorem tb_eat {lo hi : Int} (h : (tb s p a lo hi).2.1 = false) : a = false ∧ (tb s p a lo hi).1 = p + 1 ∧ ∃ x, Lft s p = x :: Lft s (p + 1) ∧ (x.toNat : Int) = lo + (tb s p a lo hi).2.2 ∧ lo ≤ (x.toNat : Int) ∧ (x.toNat : Int) ≤ hi := by
  unfold tb at *
  by_cases hr : lo ≤ pk s p a ∧ pk s p a ≤ hi
  · rw [if_pos hr] at h ⊢
    dsimp only at *
    obtain ⟨e1, e2, x, e3, e4⟩ := tk_eat h
    exact ⟨e1, e2, x, e3, by omega, by omega, by omega⟩
  · rw [if_neg hr] at h; cases h

theorem opnd_eat (h : (opnd s p a V n).2.1 = false) : a = false ∧ (opnd s p a V n).1 = p + 1 ∧ ∃ x, Lft s p = x :: Lft s (p + 1) ∧ OpRel V n x (opnd s p a V n).2.2.1 (opnd s p a V n).2.2.2 := by
  unfold opnd at *
  by_cases hr : 48 ≤ pk s p a ∧ pk s p a ≤ 57
  · rw [if_pos hr] at h ⊢
    dsimp only at *
    obtain ⟨e1, e2, x, e3, e4, e5, e6⟩ := tb_eat h
    refine ⟨e1, e2, x, e3, .inr ⟨rfl, e5, e6, ?_⟩⟩
    rw [e4, show (48 : Int) + (tb s p a 48 57).2.2 - 48 = (tb s p a 48 57).2.2 from by omega]
  · rw [if_neg hr] at h ⊢
    dsimp only at *
    obtain ⟨e1, e2, x, e3, e4, e5, e6⟩ := tb_eat h
    exact ⟨e1, e2, x, e3, .inl ⟨rfl, e4, by omega, by omega⟩⟩

theorem opn_eat (h : (opn s p a).2.1 = false) : a = false ∧ (opn s p a).1 = p + 1 ∧ ∃ x, Lft s p = x :: Lft s (p + 1) ∧ (x.toNat : Int) = (opn s p a).2.2 ∧ isOp x.toNat = true := by
  unfold opn at *
  by_cases hr : isOp (pk s p a) = true
  · rw [if_pos hr] at h ⊢
    dsimp only at *
    obtain ⟨e1, e2, x, e3, e4⟩ := tk_eat h
    exact ⟨e1, e2, x, e3, e4, by rw [e4]; exact hr⟩
  · rw [if_neg hr] at h; cases h
end

/-- No bracket. -/
def NoBr (x : UInt8) : Prop := (x.toNat : Int) ≠ 40 ∧ (x.toNat : Int) ≠ 41
theorem OpRel.nobr {V : Int} {n : Nat} {c : UInt8} {nm : Bool} {v : Int} (h : OpRel V n c nm v) : NoBr c := by
  have := h.low
  exact ⟨by omega, by omega⟩
theorem isOp_nobr {x : UInt8} (h : isOp x.toNat = true) : NoBr x := by
  simp [isOp] at h
  exact ⟨by omega, by omega⟩

theorem bal_nil : Bal [] := ⟨rfl, fun k => by simp [dpt]⟩
theorem bal_append {A B : List UInt8} (hA : Bal A) (hB : Bal B) : Bal (A ++ B) := by
  refine ⟨by rw [dpt_append, hA.1, hB.1]; rfl, fun k => ?_⟩
  rw [List.take_append, dpt_append]
  have h1 := hA.2 k
  have h2 := hB.2 (k - A.length)
  omega
theorem bal_one {x : UInt8} (h : NoBr x) : Bal [x] := by
  have e : dpt [x] = 0 := by simp [dpt, h.1, h.2]
  refine ⟨e, fun k => ?_⟩
  cases k with
  | zero => simp [dpt]
  | succ k => simp [e]
theorem bal_wrap {A : List UInt8} (hA : Bal A) : Bal (40 :: (A ++ [41])) := by
  refine ⟨?_, fun k => ?_⟩
  · simp only [dpt, dpt_append, hA.1]; decide
  · cases k with
    | zero => simp [dpt]
    | succ k =>
      rw [List.take_succ_cons, dpt, List.take_append, dpt_append, if_pos (by decide)]
      have h1 := hA.2 k
      have h2 : -1 ≤ dpt (List.take (k - A.length) [41]) := by
        cases k - A.length with
        | zero => simp [dpt]
        | succ j => rw [List.take_succ_cons, List.take_nil]; decide
      omega

/-- Each command from lo on, below hi, does what its text says. -/
def Flow (V : Int) (n : Nat) (cs : List Cm) (lo hi : Nat) (κ : Nat → List UInt8) : Prop :=
  ∀ i, lo ≤ i → i < hi → ∃ c y o, cs[i]? = some c ∧ c.yes = ((y : Nat) : Int) ∧ c.no = ((o : Nat) : Int) ∧ lo ≤ y ∧ y ≤ hi ∧ lo ≤ o ∧ o ≤ hi ∧ Does V n c (κ i) (κ y) (κ o)

/-- A text T of commands from lo on. -/
def Fl (V : Int) (n : Nat) (lo : Nat) (cs : List Cm) (T : List UInt8) : Prop :=
  Bal T ∧ lo ≤ cs.length ∧ ∀ R : List UInt8, ∃ κ : Nat → List UInt8, κ lo = T ++ R ∧ κ cs.length = R ∧ Flow V n cs lo cs.length κ ∧ ∀ i, lo ≤ i → i ≤ cs.length → (κ i).length ≤ R.length + 300 * T.length

def Pre (cs cs' : List Cm) : Prop := ∀ i, i < cs.length → cs'[i]? = cs[i]?

theorem Pre.trans {a b c : List Cm} (h : Pre a b) (k : Pre b c) (hl : a.length ≤ b.length) : Pre a c := fun i hi => (k i (by omega)).trans (h i hi)

theorem Does.at_ {V : Int} {n : Nat} {c : Cm} {t a b : List UInt8} (h : Does V n c t a b) (y o : Int) : Does V n { c with yes := y, no := o } t a b := by
  rcases h with ⟨v, x, o, y, r, rfl, rfl, h1, h2, h3, h4, h5⟩ | ⟨v, x, r, rfl, rfl, h1, h2, h3⟩ | ⟨x, y, r, rfl, rfl, h1, h2, h3⟩ | ⟨x, A, B, r, rfl, rfl, rfl, h1, h2, h3, h4⟩ | ⟨x, A, r, rfl, rfl, rfl, h1, h2, h3⟩
  · exact .set v x o y _ _ h1 h2 h3 h4 h5
  · exact .load v x _ _ h1 h2 h3
  · exact .store x y _ _ h1 h2 h3
  · exact .branch x A B r h1 h2 h3 h4
  · exact .loop x A _ h1 h2 h3

theorem fl_nil (V : Int) (n : Nat) (cs : List Cm) : Fl V n cs.length cs [] :=
  ⟨bal_nil, Nat.le_refl _, fun R => ⟨fun _ => R, rfl, rfl, fun i h1 h2 => by omega, fun i _ _ => by simp⟩⟩

/-- One behind the other. -/
theorem fl_append {V : Int} {n lo : Nat} {cs cs' : List Cm} {T T' : List UInt8} (h : Fl V n lo cs T) (h' : Fl V n cs.length cs' T') (hp : Pre cs cs') (hT : T'.length ≤ 300) : Fl V n lo cs' (T ++ T') := by
  obtain ⟨b1, l1, f1⟩ := h
  obtain ⟨b2, l2, f2⟩ := h'
  refine ⟨bal_append b1 b2, by omega, fun R => ?_⟩
  obtain ⟨κ2, p2, q2, w2, z2⟩ := f2 R
  obtain ⟨κ1, p1, q1, w1, z1⟩ := f1 (T' ++ R)
  refine ⟨fun i => if i < cs.length then κ1 i else κ2 i, ?_, ?_, ?_, ?_⟩
  · dsimp only
    split
    · rw [p1, List.append_assoc]
    · have e : lo = cs.length := by omega
      rw [e, p2]
      rw [e, q1] at p1
      have : T = [] := by
        have := congrArg List.length p1
        simp only [List.length_append] at this
        exact List.eq_nil_of_length_eq_zero (by omega)
      rw [this]; rfl
  · dsimp only
    rw [if_neg (by omega), q2]
  · have hk : ∀ i, lo ≤ i → i ≤ cs.length → (if i < cs.length then κ1 i else κ2 i) = κ1 i := fun i _ h2 => by
      split
      · rfl
      · have e : i = cs.length := by omega
        rw [e, p2, q1]
    intro i h1 h2
    by_cases hi : i < cs.length
    · obtain ⟨c, y, o, e1, e2, e3, e4, e5, e6, e7, e8⟩ := w1 i h1 hi
      refine ⟨c, y, o, (hp i hi).trans e1, e2, e3, e4, by omega, e6, by omega, ?_⟩
      dsimp only
      rw [if_pos hi, hk y e4 e5, hk o e6 e7]; exact e8
    · obtain ⟨c, y, o, e1, e2, e3, e4, e5, e6, e7, e8⟩ := w2 i (by omega) h2
      refine ⟨c, y, o, e1, e2, e3, by omega, e5, by omega, e7, ?_⟩
      dsimp only
      rw [if_neg hi, if_neg (by omega), if_neg (by omega)]; exact e8
  · intro i h1 h2
    dsimp only
    rw [List.length_append]
    split
    · have := z1 i h1 (by omega)
      rw [List.length_append] at this
      omega
    · have := z2 i (by omega) h2
      omega

theorem setNo_get (cs : List Cm) (i : Nat) (v : Int) (j : Nat) : (setNo cs i v)[j]? = if j = i then (cs[i]?).map (fun c => { c with no := v }) else cs[j]? := by
  unfold setNo
  by_cases e : j = i
  · subst e
    rw [if_pos rfl]
    split
    · rename_i c hc
      rw [List.getElem?_set_self (by exact (List.getElem?_eq_some_iff.1 hc).1), hc]; rfl
    · rename_i hc; rw [hc]; rfl
  · rw [if_neg e]
    split
    · rw [List.getElem?_set_ne (by omega)]
    · rfl

theorem setBr_get (cs : List Cm) (i : Nat) (v e : Int) (j : Nat) : (setBr cs i v e)[j]? = if j = i then (cs[i]?).map (fun c => { c with no := v, sec := v, beh := e }) else cs[j]? := by
  unfold setBr
  by_cases q : j = i
  · subst q
    rw [if_pos rfl]
    split
    · rename_i c hc
      rw [List.getElem?_set_self (by exact (List.getElem?_eq_some_iff.1 hc).1), hc]; rfl
    · rename_i hc; rw [hc]; rfl
  · rw [if_neg q]
    split
    · rw [List.getElem?_set_ne (by omega)]
    · rfl

section
variable {V : Int} {n : Nat}

theorem red_red {old now : Nat} {c : Cm} {y o : Nat} (hy : c.yes = (y : Int)) (ho : c.no = (o : Int)) : (red old now c).yes = ((if y = old then now else y : Nat) : Int) ∧ (red old now c).no = ((if o = old then now else o : Nat) : Int) := by
  unfold red
  dsimp only
  rw [hy, ho]
  constructor
  · split
    · rename_i h; rw [if_pos (by omega)]
    · rename_i h; rw [if_neg (by omega)]
  · split
    · rename_i h; rw [if_pos (by omega)]
    · rename_i h; rw [if_neg (by omega)]
theorem Does.red {c : Cm} {t a b : List UInt8} (h : Does V n c t a b) (old now : Int) : Does V n (red old now c) t a b := h.at_ _ _

theorem fl_branch {k : Nat} {c : Cm} {cs ca cb : List Cm} {A B T : List UInt8} {x : UInt8} (hk : cs.length = k) (hc : c.kind = 63) (hcy : c.yes = ((k + 1 : Nat) : Int)) (hx : OpRel V n x c.xn c.xv)
    (hA : Fl V n (k + 1) ca A) (pA : Pre (cs ++ [c]) ca) (hB : Fl V n ca.length cb B) (pB : Pre ca cb) (hl : 63 :: x :: 40 :: (A ++ 41 :: 40 :: (B ++ [41])) = T) :
    Fl V n k (setBr (rdr cb k ca.length ca.length cb.length) k ca.length cb.length) T ∧ Pre cs (setBr (rdr cb k ca.length ca.length cb.length) k ca.length cb.length) := by
  obtain ⟨bA, lA, fA⟩ := hA
  obtain ⟨bB, lB, fB⟩ := hB
  have hlen : (setBr (rdr cb k ca.length ca.length cb.length) k ca.length cb.length).length = cb.length := by rw [setBr_length, rdr_length]
  have hget : ∀ i, (setBr (rdr cb k ca.length ca.length cb.length) k ca.length cb.length)[i]? = if i = k then (cb[k]?).map (fun d => { red ca.length cb.length d with no := ca.length, sec := ca.length, beh := cb.length }) else (cb[i]?).map fun d => if k ≤ i ∧ i < ca.length then red ca.length cb.length d else d := fun i => by
    rw [setBr_get]
    by_cases e : i = k
    · rw [if_pos e, if_pos e, rdr_get]
      cases cb[k]? with
      | none => rfl
      | some d => simp only [Option.map_some]; rw [if_pos (by omega)]
    · rw [if_neg e, if_neg e, rdr_get]
  have hcs : (cs ++ [c]).length = k + 1 := by simp [hk]
  have hck : cb[k]? = some c := by
    rw [pB k (by omega), pA k (by omega), ← hk]; simp
  subst hl
  refine ⟨⟨?_, by omega, fun R => ?_⟩, ?_⟩
  · have h1 := bal_append (bal_wrap bA) (bal_wrap bB)
    have h2 := bal_append (bal_append (bal_one (x := 63) ⟨by decide, by decide⟩) (bal_one hx.nobr)) h1
    simpa using h2
  · obtain ⟨κA, pa, qa, wa, za⟩ := fA R
    obtain ⟨κB, pb, qb, wb, zb⟩ := fB R
    rw [hlen]
    refine ⟨fun i => if i = k then 63 :: x :: 40 :: (A ++ 41 :: 40 :: (B ++ [41])) ++ R else if i < ca.length then κA i else κB i, by dsimp only; rw [if_pos rfl], ?_, ?_, ?_⟩
    · dsimp only
      rw [if_neg (by omega), if_neg (by omega), qb]
    · have hκ : ∀ y, k + 1 ≤ y → y ≤ ca.length → (fun i => if i = k then 63 :: x :: 40 :: (A ++ 41 :: 40 :: (B ++ [41])) ++ R else if i < ca.length then κA i else κB i) (if y = ca.length then cb.length else y) = κA y := fun y h1 h2 => by
        dsimp only
        by_cases e : y = ca.length
        · rw [if_pos e, if_neg (by omega), if_neg (by omega), qb, e, qa]
        · rw [if_neg e, if_neg (by omega), if_pos (by omega)]
      intro i h1 h2
      by_cases hik : i = k
      · subst hik
        refine ⟨{ red ca.length cb.length c with no := ca.length, sec := ca.length, beh := cb.length }, (if i + 1 = ca.length then cb.length else i + 1), ca.length, ?_, ?_, rfl, ?_, ?_, by omega, by omega, ?_⟩
        · rw [hget, if_pos rfl, hck]; rfl
        · exact (red_red (c := { c with no := 0 }) (o := 0) hcy rfl).1
        · split <;> omega
        · split <;> omega
        · rw [hκ (i + 1) (by omega) (by omega), pa]
          dsimp only
          rw [if_pos rfl, if_neg (by omega), if_neg (by omega), pb]
          have h := Does.branch (V := V) (n := n) (c := { red ca.length cb.length c with no := ca.length, sec := ca.length, beh := cb.length }) x A B R hc hx bA bB
          simpa using h
      · by_cases hia : i < ca.length
        · obtain ⟨d, y, o, e1, e2, e3, e4, e5, e6, e7, e8⟩ := wa i (by omega) hia
          have rr := red_red (old := ca.length) (now := cb.length) e2 e3
          refine ⟨red ca.length cb.length d, _, _, ?_, rr.1, rr.2, ?_, ?_, ?_, ?_, ?_⟩
          · rw [hget, if_neg hik, pB i hia, e1]; simp only [Option.map_some]; rw [if_pos (by omega)]
          · split <;> omega
          · split <;> omega
          · split <;> omega
          · split <;> omega
          · rw [hκ y e4 e5, hκ o e6 e7]
            dsimp only
            rw [if_neg hik, if_pos hia]
            exact e8.red _ _
        · obtain ⟨d, y, o, e1, e2, e3, e4, e5, e6, e7, e8⟩ := wb i (by omega) h2
          refine ⟨d, y, o, ?_, e2, e3, by omega, e5, by omega, e7, ?_⟩
          · rw [hget, if_neg hik, e1]; simp only [Option.map_some]; rw [if_neg (by omega)]
          · dsimp only
            rw [if_neg hik, if_neg hia, if_neg (by omega), if_neg (by omega), if_neg (by omega), if_neg (by omega)]
            exact e8
    · intro i h1 h2
      dsimp only
      simp only [List.length_cons, List.length_append, List.length_nil]
      split
      · simp only [List.length_cons, List.length_append, List.length_nil]; omega
      · split
        · have := za i (by omega) (by omega); omega
        · have := zb i (by omega) h2; omega
  · intro i hi
    rw [hget, if_neg (by omega), pB i (by omega), pA i (by omega), List.getElem?_append_left hi]
    cases cs[i]? with
    | none => rfl
    | some d => simp only [Option.map_some]; rw [if_neg (by omega)]

theorem fl_loop {k : Nat} {c : Cm} {cs ca : List Cm} {A T : List UInt8} {x : UInt8} (hk : cs.length = k) (hc : c.kind = 33) (hcy : c.yes = ((k + 1 : Nat) : Int)) (hx : OpRel V n x c.xn c.xv)
    (hA : Fl V n (k + 1) ca A) (pA : Pre (cs ++ [c]) ca) (hl : 33 :: x :: 40 :: (A ++ [41]) = T) (hT : T.length ≤ 300) :
    Fl V n k (setNo (rdr ca k ca.length ca.length k) k ca.length) T ∧ Pre cs (setNo (rdr ca k ca.length ca.length k) k ca.length) := by
  obtain ⟨bA, lA, fA⟩ := hA
  have hlen : (setNo (rdr ca k ca.length ca.length k) k ca.length).length = ca.length := by rw [setNo_length, rdr_length]
  have hget : ∀ i, (setNo (rdr ca k ca.length ca.length k) k ca.length)[i]? = if i = k then (ca[k]?).map (fun d => { red ca.length k d with no := ca.length }) else (ca[i]?).map fun d => if k ≤ i ∧ i < ca.length then red ca.length k d else d := fun i => by
    rw [setNo_get]
    by_cases e : i = k
    · rw [if_pos e, if_pos e, rdr_get]
      cases ca[k]? with
      | none => rfl
      | some d => simp only [Option.map_some]; rw [if_pos (by omega)]
    · rw [if_neg e, if_neg e, rdr_get]
  have hcs : (cs ++ [c]).length = k + 1 := by simp [hk]
  have hck : ca[k]? = some c := by
    rw [pA k (by omega), ← hk]; simp
  refine ⟨⟨?_, by omega, fun R => ?_⟩, ?_⟩
  · have h2 := bal_append (bal_append (bal_one (x := 33) ⟨by decide, by decide⟩) (bal_one hx.nobr)) (bal_wrap bA)
    rw [← hl]; simpa using h2
  · obtain ⟨κA, pa, qa, wa, za⟩ := fA (T ++ R)
    rw [hlen]
    refine ⟨fun i => if i = k then T ++ R else if i < ca.length then κA i else R, by dsimp only; rw [if_pos rfl], ?_, ?_, ?_⟩
    · dsimp only
      rw [if_neg (by omega), if_neg (by omega)]
    · have hκ : ∀ y, k + 1 ≤ y → y ≤ ca.length → (fun i => if i = k then T ++ R else if i < ca.length then κA i else R) (if y = ca.length then k else y) = κA y := fun y h1 h2 => by
        dsimp only
        by_cases e : y = ca.length
        · rw [if_pos e, if_pos rfl, e, qa]
        · rw [if_neg e, if_neg (by omega), if_pos (by omega)]
      intro i h1 h2
      by_cases hik : i = k
      · subst hik
        refine ⟨{ red ca.length i c with no := ca.length }, (if i + 1 = ca.length then i else i + 1), ca.length, ?_, ?_, rfl, ?_, ?_, by omega, by omega, ?_⟩
        · rw [hget, if_pos rfl, hck]; rfl
        · exact (red_red (c := { c with no := 0 }) (o := 0) hcy rfl).1
        · split <;> omega
        · split <;> omega
        · rw [hκ (i + 1) (by omega) (by omega), pa]
          dsimp only
          rw [if_pos rfl, if_neg (by omega), if_neg (by omega)]
          have h := Does.loop (V := V) (n := n) (c := { red ca.length i c with no := ca.length }) x A R hc hx bA
          rw [← hl]; simpa using h
      · obtain ⟨d, y, o, e1, e2, e3, e4, e5, e6, e7, e8⟩ := wa i (by omega) h2
        have rr := red_red (old := ca.length) (now := k) e2 e3
        refine ⟨red ca.length k d, _, _, ?_, rr.1, rr.2, ?_, ?_, ?_, ?_, ?_⟩
        · rw [hget, if_neg hik, e1]; simp only [Option.map_some]; rw [if_pos (by omega)]
        · split <;> omega
        · split <;> omega
        · split <;> omega
        · split <;> omega
        · rw [hκ y e4 e5, hκ o e6 e7]
          dsimp only
          rw [if_neg hik, if_pos h2]
          exact e8.red _ _
    · intro i h1 h2
      have hlt : T.length = A.length + 4 := by rw [← hl]; simp
      dsimp only
      split
      · rw [List.length_append]; omega
      · split
        · have := za i (by omega) (by omega); rw [List.length_append] at this; omega
        · omega
  · intro i hi
    rw [hget, if_neg (by omega), pA i (by omega), List.getElem?_append_left hi]
    cases cs[i]? with
    | none => rfl
    | some d => simp only [Option.map_some]; rw [if_neg (by omega)]

theorem fl_plain {c : Cm} {cs : List Cm} {T : List UInt8} (hcy : c.yes = ((cs.length + 1 : Nat) : Int)) (hcn : c.no = ((cs.length + 1 : Nat) : Int)) (hb : Bal T) (hd : ∀ R, Does V n c (T ++ R) R R) :
    Fl V n cs.length (cs ++ [c]) T ∧ Pre cs (cs ++ [c]) := by
  refine ⟨⟨hb, by simp, fun R => ?_⟩, fun i hi => List.getElem?_append_left hi⟩
  have hlen : (cs ++ [c]).length = cs.length + 1 := by simp
  rw [hlen]
  refine ⟨fun i => if i = cs.length then T ++ R else R, by dsimp only; rw [if_pos rfl], by dsimp only; rw [if_neg (by omega)], ?_, ?_⟩
  · intro i h1 h2
    have e : i = cs.length := by omega
    subst e
    refine ⟨c, cs.length + 1, cs.length + 1, by simp, hcy, hcn, by omega, by omega, by omega, by omega, ?_⟩
    dsimp only
    rw [if_pos rfl, if_neg (by omega)]
    exact hd R
  · intro i h1 h2
    dsimp only
    split
    · rw [List.length_append]; omega
    · omega
end

section
variable {s : ByteArray} {V : Int} {n : Nat}

/-- What was read from st to st'. -/
def Piece (s : ByteArray) (V : Int) (n : Nat) (st st' : PS) : Prop :=
  st'.bad = false → ∃ T, Lft s st.p = T ++ Lft s st'.p ∧ Fl V n st.cs.length st'.cs T ∧ Pre st.cs st'.cs

theorem lft_len (s : ByteArray) (p : Nat) : (Lft s p).length ≤ s.size := by
  unfold Lft; rw [List.length_drop, ← size_list]; omega
theorem piece_len {p : Nat} {T X : List UInt8} (h : Lft s p = T ++ X) (hs : s.size ≤ 300) : T.length ≤ 300 := by
  have h1 := lft_len s p
  rw [h, List.length_append] at h1
  omega

theorem Piece.refl (st : PS) : Piece s V n st st := fun _ => ⟨[], rfl, fl_nil V n st.cs, fun _ _ => rfl⟩
theorem Piece.trans {a b c : PS} (hs : s.size ≤ 300) (h : Piece s V n a b) (k : Piece s V n b c) (hb : c.bad = false → b.bad = false) : Piece s V n a c := by
  intro hc
  obtain ⟨T2, e2, f2, p2⟩ := k hc
  obtain ⟨T1, e1, f1, p1⟩ := h (hb hc)
  exact ⟨T1 ++ T2, by rw [e1, e2, List.append_assoc], fl_append f1 f2 p2 (piece_len e2 hs), p1.trans p2 f1.2.1⟩

theorem blk_piece {rdb : PS → PS} {N : Nat} (hn : ∀ st, Inv s st → lft s st ≤ N → Nxt s st (rdb st)) (hg : ∀ st, Inv s st → lft s st ≤ N → Piece s V n st (rdb st)) {st : PS} (h : Inv s st) (hl : lft s st ≤ N) (hb : (blk rdb s st).bad = false) :
    ∃ T, Lft s st.p = 40 :: (T ++ 41 :: Lft s (blk rdb s st).p) ∧ Fl V n st.cs.length (blk rdb s st).cs T ∧ Pre st.cs (blk rdb s st).cs := by
  have h1 := nxt_tk h 40
  have h2 := hn _ h1.2.2 (Nat.le_trans h1.lft hl)
  have g2 := hg _ h1.2.2 (Nat.le_trans h1.lft hl)
  unfold blk at hb ⊢
  dsimp only at hb ⊢
  obtain ⟨b1, q1, x1, l1, c1⟩ := tk_eat hb
  have hb0 := h2.1.back b1
  obtain ⟨T, e, f, p⟩ := g2 b1
  obtain ⟨b0, q0, x0, l0, c0⟩ := tk_eat hb0
  refine ⟨T, ?_, f, p⟩
  have u0 : x0 = 40 := UInt8.toNat_inj.1 (by simpa using (by omega : x0.toNat = 40))
  have u1 : x1 = 41 := UInt8.toNat_inj.1 (by simpa using (by omega : x1.toNat = 41))
  subst u0 u1
  rw [q1]
  rw [l1] at e
  dsimp only at e
  rw [l0, show Lft s (st.p + 1) = Lft s (tk s st.p st.bad 40).1 from by rw [q0], e]

theorem tcmd_eat {p : Nat} {k : Int} (hb : (tcmd s p V n k).2.1 = false) (hp : p < s.size) (hk : pk s p false = k) (y o : Int) :
    (k = 61 → ∃ v x o' yb : UInt8, Lft s p = 61 :: v :: x :: o' :: yb :: Lft s (tcmd s p V n k).1 ∧ Bal [61, v, x, o', yb] ∧ ∀ R, Does V n { (tcmd s p V n k).2.2 with yes := y, no := o } (61 :: v :: x :: o' :: yb :: R) R R) ∧
    (k = 108 → ∃ v x : UInt8, Lft s p = 108 :: v :: x :: Lft s (tcmd s p V n k).1 ∧ Bal [108, v, x] ∧ ∀ R, Does V n { (tcmd s p V n k).2.2 with yes := y, no := o } (108 :: v :: x :: R) R R) ∧
    (k = 115 → ∃ x yb : UInt8, Lft s p = 115 :: x :: yb :: Lft s (tcmd s p V n k).1 ∧ Bal [115, x, yb] ∧ ∀ R, Does V n { (tcmd s p V n k).2.2 with yes := y, no := o } (115 :: x :: yb :: R) R R) ∧
    (k = 63 ∨ k = 33 → ∃ x : UInt8, Lft s p = s[p] :: x :: Lft s (tcmd s p V n k).1 ∧ OpRel V n x (tcmd s p V n k).2.2.xn (tcmd s p V n k).2.2.xv) := by
  have h0 : Lft s p = s[p] :: Lft s (p + 1) := drop_at s p hp
  have h1 : (s[p].toNat : Int) = k := by rw [← pk_at s p hp]; exact hk
  have hkb : ∀ c : UInt8, (c.toNat : Int) = k → s[p] = c := fun c hc => UInt8.toNat_inj.1 (by omega)
  refine ⟨?_, ?_, ?_, ?_⟩
  · intro e
    subst e
    unfold tcmd at hb ⊢
    rw [if_pos rfl] at hb ⊢
    unfold cmSet at hb ⊢
    dsimp only at *
    obtain ⟨b4, q4, x4, l4, r4⟩ := opnd_eat hb
    obtain ⟨b3, q3, x3, l3, r3, i3⟩ := opn_eat b4
    obtain ⟨b2, q2, x2, l2, r2⟩ := opnd_eat b3
    obtain ⟨b1, q1, x1, l1, r1, _, _⟩ := tb_eat b2
    refine ⟨x1, x2, x3, x4, ?_, ?_, ?_⟩
    · rw [h0, hkb 61 rfl, l1, ← q1, l2, ← q2, l3, ← q3, l4, ← q4]
    · have := bal_append (bal_append (bal_append (bal_append (bal_one (x := 61) ⟨by decide, by decide⟩) (bal_one (x := x1) ⟨by omega, by omega⟩)) (bal_one r2.nobr)) (bal_one (isOp_nobr i3))) (bal_one r4.nobr)
      simpa using this
    · intro R
      exact .set x1 x2 x3 x4 R R rfl r1 r2 r3 r4
  · intro e
    subst e
    unfold tcmd at hb ⊢
    rw [if_neg (by decide), if_pos rfl] at hb ⊢
    unfold cmLoad at hb ⊢
    dsimp only at *
    obtain ⟨b2, q2, x2, l2, r2⟩ := opnd_eat hb
    obtain ⟨b1, q1, x1, l1, r1, _, _⟩ := tb_eat b2
    refine ⟨x1, x2, ?_, ?_, ?_⟩
    · rw [h0, hkb 108 rfl, l1, ← q1, l2, ← q2]
    · have := bal_append (bal_append (bal_one (x := 108) ⟨by decide, by decide⟩) (bal_one (x := x1) ⟨by omega, by omega⟩)) (bal_one r2.nobr)
      simpa using this
    · intro R
      exact .load x1 x2 R R rfl r1 r2
  · intro e
    subst e
    unfold tcmd at hb ⊢
    rw [if_neg (by decide), if_neg (by decide), if_pos rfl] at hb ⊢
    unfold cmStore at hb ⊢
    dsimp only at *
    obtain ⟨b2, q2, x2, l2, r2⟩ := opnd_eat hb
    obtain ⟨b1, q1, x1, l1, r1⟩ := opnd_eat b2
    refine ⟨x1, x2, ?_, ?_, ?_⟩
    · rw [h0, hkb 115 rfl, l1, ← q1, l2, ← q2]
    · have := bal_append (bal_append (bal_one (x := 115) ⟨by decide, by decide⟩) (bal_one r1.nobr)) (bal_one r2.nobr)
      simpa using this
    · intro R
      exact .store x1 x2 R R rfl r1 r2
  · intro e
    unfold tcmd at hb ⊢
    rw [if_neg (by omega), if_neg (by omega), if_neg (by omega)] at hb ⊢
    unfold cmTest at hb ⊢
    dsimp only at *
    obtain ⟨b1, q1, x1, l1, r1⟩ := opnd_eat hb
    refine ⟨x1, ?_, r1⟩
    rw [h0, l1, ← q1]

theorem step_piece {rdb : PS → PS} {N : Nat} (hs : s.size ≤ 300) (hn : ∀ st, Inv s st → lft s st ≤ N → Nxt s st (rdb st)) (hg : ∀ st, Inv s st → lft s st ≤ N → Piece s V n st (rdb st)) {st : PS} (h : Inv s st) (hl : lft s st ≤ N + 1) (hc : isCmd (pk s st.p st.bad) = true) : Piece s V n st (cmdStep rdb s V n st) := by
  obtain ⟨i1, _, _, l1⟩ := ps1_nxt (hv := V) (hn := (n : Int)) h hc
  obtain ⟨hb0, hp⟩ := isCmd_pk hc
  have hkind := tcmd_kind s st.p V n (pk s st.p st.bad)
  unfold cmdStep
  rw [hb0] at hc hkind ⊢
  generalize hk : pk s st.p false = k at hc hkind ⊢
  have hcs : (ps1 s V n st).cs = st.cs ++ [{ (tcmd s st.p V n k).2.2 with yes := st.cs.length + 1, no := st.cs.length + 1 }] := by
    unfold ps1 cs1; dsimp only; rw [hb0, hk]
  have hpp : (ps1 s V n st).p = (tcmd s st.p V n k).1 := by unfold ps1; dsimp only; rw [hb0, hk]
  have hpb : (ps1 s V n st).bad = (tcmd s st.p V n k).2.1 := by unfold ps1; dsimp only; rw [hb0, hk]
  have hlen : (ps1 s V n st).cs.length = st.cs.length + 1 := by rw [hcs]; simp
  by_cases k63 : k = 63
  · rw [if_pos k63]
    intro hb
    have hb2 : (blk rdb s (blk rdb s (ps1 s V n st))).bad = false := hb
    have a := blk_nxt hn i1 (by omega)
    have c := blk_nxt hn a.2.2 (by have := a.lft; omega)
    have hb1 := c.1.back hb2
    have hbp := a.1.back hb1
    obtain ⟨TA, eA, fA, pA⟩ := blk_piece hn hg i1 (by omega) hb1
    obtain ⟨TB, eB, fB, pB⟩ := blk_piece hn hg a.2.2 (by have := a.lft; omega) hb2
    rw [hpb] at hbp
    obtain ⟨_, _, _, ht⟩ := tcmd_eat hbp hp hk 0 0
    obtain ⟨x, ex, rx⟩ := ht (.inl k63)
    rw [hlen] at fA
    rw [hcs] at pA
    have e63 : s[st.p] = 63 := UInt8.toNat_inj.1 (by have := pk_at s st.p hp; rw [hk, k63] at this; simpa using (by omega : s[st.p].toNat = 63))
    have hfin := fl_branch (k := st.cs.length) (cs := st.cs) (c := { (tcmd s st.p V n k).2.2 with yes := st.cs.length + 1, no := st.cs.length + 1 }) rfl (by dsimp only; rw [hkind, k63]) (by simp) rx fA pA fB pB rfl
    refine ⟨_, ?_, hfin.1, hfin.2⟩
    show Lft s st.p = _ ++ Lft s (blk rdb s (blk rdb s (ps1 s V n st))).p
    rw [ex, e63, ← hpp, eA, eB]
    simp
  · rw [if_neg k63]
    by_cases k33 : k = 33
    · rw [if_pos k33]
      intro hb
      have hb1 : (blk rdb s (ps1 s V n st)).bad = false := hb
      have a := blk_nxt hn i1 (by omega)
      have hbp := a.1.back hb1
      obtain ⟨TA, eA, fA, pA⟩ := blk_piece hn hg i1 (by omega) hb1
      rw [hpb] at hbp
      obtain ⟨_, _, _, ht⟩ := tcmd_eat hbp hp hk 0 0
      obtain ⟨x, ex, rx⟩ := ht (.inr k33)
      rw [hlen] at fA
      rw [hcs] at pA
      have e33 : s[st.p] = 33 := UInt8.toNat_inj.1 (by have := pk_at s st.p hp; rw [hk, k33] at this; simpa using (by omega : s[st.p].toNat = 33))
      have hL : Lft s st.p = (33 :: x :: 40 :: (TA ++ [41])) ++ Lft s (blk rdb s (ps1 s V n st)).p := by
        rw [ex, e33, ← hpp, eA]; simp
      have hfin := fl_loop (k := st.cs.length) (cs := st.cs) (c := { (tcmd s st.p V n k).2.2 with yes := st.cs.length + 1, no := st.cs.length + 1 }) rfl (by dsimp only; rw [hkind, k33]) (by simp) rx fA pA rfl (piece_len hL hs)
      exact ⟨_, hL, hfin.1, hfin.2⟩
    · rw [if_neg k33]
      intro hb
      rw [hpb] at hb
      obtain ⟨t1, t2, t3, _⟩ := tcmd_eat hb hp hk (st.cs.length + 1 : Int) (st.cs.length + 1 : Int)
      rw [hpp, hcs]
      simp [isCmd] at hc
      by_cases k61 : k = 61
      · obtain ⟨v, x, o, y, e, hb, hd⟩ := t1 k61
        have := fl_plain (V := V) (n := n) (cs := st.cs) (c := { (tcmd s st.p V n k).2.2 with yes := st.cs.length + 1, no := st.cs.length + 1 }) (by simp) (by simp) hb hd
        exact ⟨_, by rw [e]; rfl, this.1, this.2⟩
      · by_cases k108 : k = 108
        · obtain ⟨v, x, e, hb, hd⟩ := t2 k108
          have := fl_plain (V := V) (n := n) (cs := st.cs) (c := { (tcmd s st.p V n k).2.2 with yes := st.cs.length + 1, no := st.cs.length + 1 }) (by simp) (by simp) hb hd
          exact ⟨_, by rw [e]; rfl, this.1, this.2⟩
        · obtain ⟨x, y, e, hb, hd⟩ := t3 (by omega)
          have := fl_plain (V := V) (n := n) (cs := st.cs) (c := { (tcmd s st.p V n k).2.2 with yes := st.cs.length + 1, no := st.cs.length + 1 }) (by simp) (by simp) hb hd
          exact ⟨_, by rw [e]; rfl, this.1, this.2⟩

theorem rdB_piece (hs : s.size ≤ 300) : ∀ (f : Nat) (st : PS), Inv s st → lft s st ≤ f → Piece s V n st (rdB s V n f st)
  | 0, st, _, _ => Piece.refl st
  | f + 1, st, h, hl => by
    unfold rdB
    split
    · rename_i hc
      have hrn : ∀ st, Inv s st → lft s st ≤ f → Nxt s st (rdB s V n f st) := rdB_nxt s V n f
      have hrg : ∀ st, Inv s st → lft s st ≤ f → Piece s V n st (rdB s V n f st) := rdB_piece hs f
      obtain ⟨nx, lx⟩ := step_nxt (hv := V) (hn := (n : Int)) hrn h hl hc
      have gs := step_piece (n := n) hs hrn hrg h hl hc
      have n2 := hrn _ nx.2.2 (by omega)
      exact gs.trans hs (hrg _ nx.2.2 (by omega)) (fun hb => n2.1.back hb)
    · exact Piece.refl st
end

/-- Where each command stands, and what is left there. -/
theorem krn_flow (s : ByteArray) (hs : s.size ≤ 300) (h : krnBad s = false) :
    ∃ κ : Nat → List UInt8, κ 0 = Lft s (hdr s).1 ∧ κ (krn s).cs.length = [] ∧ Flow (pw (hdr s).2.2.1) (hdr s).2.2.2.1 (krn s).cs 0 (krn s).cs.length κ ∧ ∀ i, i ≤ (krn s).cs.length → (κ i).length ≤ 90000 := by
  simp [krnBad] at h
  have hp := rdB_piece (s := s) (V := pw (hdr s).2.2.1) (n := (hdr s).2.2.2.1) hs s.size ⟨(hdr s).1, (hdr s).2.1, []⟩ ⟨Nat.zero_le _, hdr_le s⟩ (by unfold lft; split <;> simp)
  obtain ⟨T, e, ⟨_, _, f⟩, _⟩ := hp h.1
  obtain ⟨κ, p, q, w, z⟩ := f []
  have hend : Lft s (krn s).p = [] := by
    unfold Lft; rw [List.drop_eq_nil_iff, ← size_list]; exact h.2
  have hTe : Lft s (hdr s).1 = T := by
    have e' : Lft s (hdr s).1 = T ++ Lft s (krn s).p := e
    rw [e', hend, List.append_nil]
  refine ⟨κ, ?_, q, w, fun i hi => ?_⟩
  · rw [hTe]; simpa using p
  · have h1 := z i (Nat.zero_le _) hi
    have h2 := lft_len s (hdr s).1
    rw [hTe] at h2
    simp only [List.length_nil] at h1
    omega
end Go.Proofs.YtnkbfdbbcaffmaaGreatDoor
