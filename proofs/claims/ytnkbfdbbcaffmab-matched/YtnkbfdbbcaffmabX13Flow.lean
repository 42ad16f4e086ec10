import Derived.Test.YtnkbfdbbcaffmabX06Mach3
import Derived.Test.YtnkbfdbbcaffmabX12Inp
import Derived.Test.YtnkbfdbbcaffmabX11Kern
import Derived.Test.YtnkbfdbbcaffmabX01Chars
/-
  Which text is left to be done, where a command stands. A branch, a loop, a plain command; a body. The reader's commands flow as the text says.
-/
namespace Go.Proofs.Ytnkbfdbbcaffmab
open Go.RowKit

/-- The text from p on. -/
def Lft (s : ByteArray) (p : Nat) : List UInt8 := s.data.toList.drop p

section
variable {s : ByteArray} {p : Nat} {a : Bool} {V : Int} {n : Nat}

theorem tk_eat {c : Int} (h : (tk s p a c).2 = false) : a = false ∧ (tk s p a c).1 = p + 1 ∧ ∃ x, Lft s p = x :: Lft s (p + 1) ∧ (x.toNat : Int) = c := by
  unfold tk at *
  cases a with
  | true => simp at h
  | false =>
    simp only [Bool.false_eq_true, if_false] at h ⊢
    by_cases hr : pk s p false = c ∧ p < s.size
    · rw [if_pos hr]
      refine ⟨trivial, rfl, s[p]'hr.2, drop_at s p hr.2, ?_⟩
      exact (pk_at s p hr.2).symm.trans hr.1
    · rw [if_neg hr] at h; cases h

theorem tb_eat {lo hi : Int} (h : (tb s p a lo hi).2.1 = false) : a = false ∧ (tb s p a lo hi).1 = p + 1 ∧ ∃ x, Lft s p = x :: Lft s (p + 1) ∧ (x.toNat : Int) = lo + (tb s p a lo hi).2.2 ∧ lo ≤ (x.toNat : Int) ∧ (x.toNat : Int) ≤ hi := by
  unfold tb at *
  by_cases hr : lo ≤ pk s p a ∧ pk s p a ≤ hi
  · rw [if_pos hr] at h ⊢
    dsimp only at *
    obtain ⟨e1, e2, x, e3, e4⟩ := tk_eat h
    exact ⟨e1, e2, x, e3, by omega, by omega, by omega⟩
  · rw [if_neg hr] at h; cases h

theorem opnd_eat (h : (opnd s p a V n).2.1 = false) : a = false ∧ (opnd s p a V n).1 = p + 1 ∧ ∃ x, Lft s p = x :: Lft s (p + 1) ∧ OpRel V n x (opnd s p a V n).2.2.1 (opnd s p a V n).2.2.2 := by
  unfold opnd at *
  by_cases hr : 48 ≤ pk s p a ∧ pk s p a ≤ 57
  · rw [if_pos hr] at h ⊢
    dsimp only at *
    obtain ⟨e1, e2, x, e3, e4, e5, e6⟩ := tb_eat h
    refine ⟨e1, e2, x, e3, .inr ⟨rfl, e5, e6, ?_⟩⟩
    rw [e4, show (48 : Int) + (tb s p a 48 57).2.2 - 48 = (tb s p a 48 57).2.2 from by omega]
  · rw [if_neg hr] at h ⊢
    dsimp only at *
    obtain ⟨e1, e2, x, e3, e4, e5, e6⟩ := tb_eat h
    exact ⟨e1, e2, x, e3, .inl ⟨rfl, e4, by omega, by omega⟩⟩

theorem opn_eat (h : (opn s p a).2.1 = false) : a = false ∧ (opn s p a).1 = p + 1 ∧ ∃ x, Lft s p = x :: Lft s (p + 1) ∧ (x.toNat : Int) = (opn s p a).2.2 ∧ isOp x.toNat = true := by
  unfold opn at *
  by_cases hr : isOp (pk s p a) = true
  · rw [if_pos hr] at h ⊢
    dsimp only at *
    obtain ⟨e1, e2, x, e3, e4⟩ := tk_eat h
    exact ⟨e1, e2, x, e3, e4, by rw [e4]; exact hr⟩
  · rw [if_neg hr] at h; cases h
end

/-- No bracket. -/
def NoBr (x : UInt8) : Prop := (x.toNat : Int) ≠ 40 ∧ (x.toNat : Int) ≠ 41
theorem OpRel.nobr {V : Int} {n : Nat} {c : UInt8} {nm : Bool} {v : Int} (h : OpRel V n c nm v) : NoBr c := by
  have := h.low
  exact ⟨by omega, by omega⟩
theorem isOp_nobr {x : UInt8} (h : isOp x.toNat = true) : NoBr x := by
  simp [isOp] at h
  exact ⟨by omega, by omega⟩

theorem bal_nil : Bal [] := ⟨rfl, fun k => by simp [dpt]⟩
theorem bal_append {A B : List UInt8} (hA : Bal A) (hB : Bal B) : Bal (A ++ B) := by
  refine ⟨by rw [dpt_append, hA.1, hB.1]; rfl, fun k => ?_⟩
  rw [List.take_append, dpt_append]
  have h1 := hA.2 k
  have h2 := hB.2 (k - A.length)
  omega
theorem bal_one {x : UInt8} (h : NoBr x) : Bal [x] := by
  have e : dpt [x] = 0 := by simp [dpt, h.1, h.2]
  refine ⟨e, fun k => ?_⟩
  cases k with
  | zero => simp [dpt]
  | succ k => simp [e]
theorem bal_wrap {A : List UInt8} (hA : Bal A) : Bal (40 :: (A ++ [41])) := by
  refine ⟨?_, fun k => ?_⟩
  · simp only [dpt, dpt_append, hA.1]; decide
  · cases k with
    | zero => simp [dpt]
    | succ k =>
      rw [List.take_succ_cons, dpt, List.take_append, dpt_append, if_pos (by decide)]
      have h1 := hA.2 k
      have h2 : -1 ≤ dpt (List.take (k - A.length) [41]) := by
        cases k - A.length with
        | zero => simp [dpt]
        | succ j => rw [List.take_succ_cons, List.take_nil]; decide
      omega

/-- Each command from lo on, below hi, does what its text says. -/
def Flow (V : Int) (n : Nat) (cs : List Cm) (lo hi : Nat) (κ : Nat → List UInt8) : Prop :=
  ∀ i, lo ≤ i → i < hi → ∃ c y o, cs[i]? = some c ∧ c.yes = ((y : Nat) : Int) ∧ c.no = ((o : Nat) : Int) ∧ lo ≤ y ∧ y ≤ hi ∧ lo ≤ o ∧ o ≤ hi ∧ Does V n c (κ i) (κ y) (κ o)

/-- A text T of commands from lo on. -/
def Fl (V : Int) (n : Nat) (lo : Nat) (cs : List Cm) (T : List UInt8) : Prop :=
  Bal T ∧ lo ≤ cs.length ∧ ∀ R : List UInt8, ∃ κ : Nat → List UInt8, κ lo = T ++ R ∧ κ cs.length = R ∧ Flow V n cs lo cs.length κ ∧ ∀ i, lo ≤ i → i ≤ cs.length → (κ i).length ≤ R.length + 300 * T.length

def Pre (cs cs' : List Cm) : Prop := ∀ i, i < cs.length → cs'[i]? = cs[i]?

theorem Pre.trans {a b c : List Cm} (h : Pre a b) (k : Pre b c) (hl : a.length ≤ b.length) : Pre a c := fun i hi => (k i (by omega)).trans (h i hi)

theorem Does.at_ {V : Int} {n : Nat} {c : Cm} {t a b : List UInt8} (h : Does V n c t a b) (y o : Int) : Does V n { c with yes := y, no := o } t a b := by
  rcases h with ⟨v, x, o, y, r, rfl, rfl, h1, h2, h3, h4, h5⟩ | ⟨v, x, r, rfl, rfl, h1, h2, h3⟩ | ⟨x, y, r, rfl, rfl, h1, h2, h3⟩ | ⟨x, A, B, r, rfl, rfl, rfl, h1, h2, h3, h4⟩ | ⟨x, A, r, rfl, rfl, rfl, h1, h2, h3⟩
  · exact .set v x o y _ _ h1 h2 h3 h4 h5
  · exact .load v x _ _ h1 h2 h3
  · exact .store x y _ _ h1 h2 h3
  · exact .branch x A B r h1 h2 h3 h4
  · exact .loop x A _ h1 h2 h3

theorem fl_nil (V : Int) (n : Nat) (cs : List Cm) : Fl V n cs.length cs [] :=
  ⟨bal_nil, Nat.le_refl _, fun R => ⟨fun _ => R, rfl, rfl, fun i h1 h2 => by omega, fun i _ _ => by simp⟩⟩

/-- One behind the other. -/
theorem fl_append {V : Int} {n lo : Nat} {cs cs' : List Cm} {T T' : List UInt8} (h : Fl V n lo cs T) (h' : Fl V n cs.length cs' T') (hp : Pre cs cs') (hT : T'.length ≤ 300) : Fl V n lo cs' (T ++ T') := by
  obtain ⟨b1, l1, f1⟩ := h
  obtain ⟨b2, l2, f2⟩ := h'
  refine ⟨bal_append b1 b2, by omega, fun R => ?_⟩
  obtain ⟨κ2, p2, q2, w2, z2⟩ := f2 R
  obtain ⟨κ1, p1, q1, w1, z1⟩ := f1 (T' ++ R)
  refine ⟨fun i => if i < cs.length then κ1 i else κ2 i, ?_, ?_, ?_, ?_⟩
  · dsimp only
    split
    · rw [p1, List.append_assoc]
    · have e : lo = cs.length := by omega
      rw [e, p2]
      rw [e, q1] at p1
      have : T = [] := by
        have := congrArg List.length p1
        simp only [List.length_append] at this
        exact List.eq_nil_of_length_eq_zero (by omega)
      rw [this]; rfl
  · dsimp only
    rw [if_neg (by omega), q2]
  · have hk : ∀ i, lo ≤ i → i ≤ cs.length → (if i < cs.length then κ1 i else κ2 i) = κ1 i := fun i _ h2 => by
      split
      · rfl
      · have e : i = cs.length := by omega
        rw [e, p2, q1]
    intro i h1 h2
    by_cases hi : i < cs.length
    · obtain ⟨c, y, o, e1, e2, e3, e4, e5, e6, e7, e8⟩ := w1 i h1 hi
      refine ⟨c, y, o, (hp i hi).trans e1, e2, e3, e4, by omega, e6, by omega, ?_⟩
      dsimp only
      rw [if_pos hi, hk y e4 e5, hk o e6 e7]; exact e8
    · obtain ⟨c, y, o, e1, e2, e3, e4, e5, e6, e7, e8⟩ := w2 i (by omega) h2
      refine ⟨c, y, o, e1, e2, e3, by omega, e5, by omega, e7, ?_⟩
      dsimp only
      rw [if_neg hi, if_neg (by omega), if_neg (by omega)]; exact e8
  · intro i h1 h2
    dsimp only
    rw [List.length_append]
    split
    · have := z1 i h1 (by omega)
      rw [List.length_append] at this
      omega
    · have := z2 i (by omega) h2
      omega

theorem setNo_get (cs : List Cm) (i : Nat) (v : Int) (j : Nat) : (setNo cs i v)[j]? = if j = i then (cs[i]?).map (fun c => { c with no := v }) else cs[j]? := by
  unfold setNo
  by_cases e : j = i
  · subst e
    rw [if_pos rfl]
    split
    · rename_i c hc
      rw [List.getElem?_set_self (by exact (List.getElem?_eq_some_iff.1 hc).1), hc]; rfl
    · rename_i hc; rw [hc]; rfl
  · rw [if_neg e]
    split
    · rw [List.getElem?_set_ne (by omega)]
    · rfl

theorem setBr_get (cs : List Cm) (i : Nat) (v e : Int) (j : Nat) : (setBr cs i v e)[j]? = if j = i then (cs[i]?).map (fun c => { c with no := v, sec := v, beh := e }) else cs[j]? := by
  unfold setBr
  by_cases q : j = i
  · subst q
    rw [if_pos rfl]
    split
    · rename_i c hc
      rw [List.getElem?_set_self (by exact (List.getElem?_eq_some_iff.1 hc).1), hc]; rfl
    · rename_i hc; rw [hc]; rfl
  · rw [if_neg q]
    split
    · rw [List.getElem?_set_ne (by omega)]
    · rfl

section
variable {V : Int} {n : Nat}

theorem red_red {old now : Nat} {c : Cm} {y o : Nat} (hy : c.yes = (y : Int)) (ho : c.no = (o : Int)) : (red old now c).yes = ((if y = old then now else y : Nat) : Int) ∧ (red old now c).no = ((if o = old then now else o : Nat) : Int) := by
  unfold red
  dsimp only
  rw [hy, ho]
  constructor
  · split
    · rename_i h; rw [if_pos (by omega)]
    · rename_i h; rw [if_neg (by omega)]
  · split
    · rename_i h; rw [if_pos (by omega)]
    · rename_i h; rw [if_neg (by omega)]
theorem Does.red {c : Cm} {t a b : List UInt8} (h : Does V n c t a b) (old now : Int) : Does V n (red old now c) t a b := h.at_ _ _

theorem fl_branch {k : Nat} {c : Cm} {cs ca cb : List Cm} {A B T : List UInt8} {x : UInt8} (hk : cs.length = k) (hc : c.kind = 63) (hcy : c.yes = ((k + 1 : Nat) : Int)) (hx : OpRel V n x c.xn c.xv)
    (hA : Fl V n (k + 1) ca A) (pA : Pre (cs ++ [c]) ca) (hB : Fl V n ca.length cb B) (pB : Pre ca cb) (hl : 63 :: x :: 40 :: (A ++ 41 :: 40 :: (B ++ [41])) = T) :
    Fl V n k (setBr (rdr cb k ca.length ca.length cb.length) k ca.length cb.length) T ∧ Pre cs (setBr (rdr cb k ca.length ca.length cb.length) k ca.length cb.length) := by
  obtain ⟨bA, lA, fA⟩ := hA
  obtain ⟨bB, lB, fB⟩ := hB
  have hlen : (setBr (rdr cb k ca.length ca.length cb.length) k ca.length cb.length).length = cb.length := by rw [setBr_length, rdr_length]
  have hget : ∀ i, (setBr (rdr cb k ca.length ca.length cb.length) k ca.length cb.length)[i]? = if i = k then (cb[k]?).map (fun d => { red ca.length cb.length d with no := ca.length, sec := ca.length, beh := cb.length }) else (cb[i]?).map fun d => if k ≤ i ∧ i < ca.length then red ca.length cb.length d else d := fun i => by
    rw [setBr_get]
    by_cases e : i = k
    · rw [if_pos e, if_pos e, rdr_get]
      cases cb[k]? with
      | none => rfl
      | some d => simp only [Option.map_some]; rw [if_pos (by omega)]
    · rw [if_neg e, if_neg e, rdr_get]
  have hcs : (cs ++ [c]).length = k + 1 := by simp [hk]
  have hck : cb[k]? = some c := by
    rw [pB k (by omega), pA k (by omega), ← hk]; simp
  subst hl
  refine ⟨⟨?_, by omega, fun R => ?_⟩, ?_⟩
  · have h1 := bal_append (bal_wrap bA) (bal_wrap bB)
    have h2 := bal_append (bal_append (bal_one (x := 63) ⟨by decide, by decide⟩) (bal_one hx.nobr)) h1
    simpa using h2
  · obtain ⟨κA, pa, qa, wa, za⟩ := fA R
    obtain ⟨κB, pb, qb, wb, zb⟩ := fB R
    rw [hlen]
    refine ⟨fun i => if i = k then 63 :: x :: 40 :: (A ++ 41 :: 40 :: (B ++ [41])) ++ R else if i < ca.length then κA i else κB i, by dsimp only; rw [if_pos rfl], ?_, ?_, ?_⟩
    · dsimp only
      rw [if_neg (by omega), if_neg (by omega), qb]
    · have hκ : ∀ y, k + 1 ≤ y → y ≤ ca.length → (fun i => if i = k then 63 :: x :: 40 :: (A ++ 41 :: 40 :: (B ++ [41])) ++ R else if i < ca.length then κA i else κB i) (if y = ca.length then cb.length else y) = κA y := fun y h1 h2 => by
        dsimp only
        by_cases e : y = ca.length
        · rw [if_pos e, if_neg (by omega), if_neg (by omega), qb, e, qa]
        · rw [if_neg e, if_neg (by omega), if_pos (by omega)]
      intro i h1 h2
      by_cases hik : i = k
      · subst hik
        refine ⟨{ red ca.length cb.length c with no := ca.length, sec := ca.length, beh := cb.length }, (if i + 1 = ca.length then cb.length else i + 1), ca.length, ?_, ?_, rfl, ?_, ?_, by omega, by omega, ?_⟩
        · rw [hget, if_pos rfl, hck]; rfl
        · exact (red_red (c := { c with no := 0 }) (o := 0) hcy rfl).1
        · split <;> omega
        · split <;> omega
        · rw [hκ (i + 1) (by omega) (by omega), pa]
          dsimp only
          rw [if_pos rfl, if_neg (by omega), if_neg (by omega), pb]
          have h := Does.branch (V := V) (n := n) (c := { red ca.length cb.length c with no := ca.length, sec := ca.length, beh := cb.length }) x A B R hc hx bA bB
          simpa using h
      · by_cases hia : i < ca.length
        · obtain ⟨d, y, o, e1, e2, e3, e4, e5, e6, e7, e8⟩ := wa i (by omega) hia
          have rr := red_red (old := ca.length) (now := cb.length) e2 e3
          refine ⟨red ca.length cb.length d, _, _, ?_, rr.1, rr.2, ?_, ?_, ?_, ?_, ?_⟩
          · rw [hget, if_neg hik, pB i hia, e1]; simp only [Option.map_some]; rw [if_pos (by omega)]
          · split <;> omega
          · split <;> omega
          · split <;> omega
          · split <;> omega
          · rw [hκ y e4 e5, hκ o e6 e7]
            dsimp only
            rw [if_neg hik, if_pos hia]
            exact e8.red _ _
        · obtain ⟨d, y, o, e1, e2, e3, e4, e5, e6, e7, e8⟩ := wb i (by omega) h2
          refine ⟨d, y, o, ?_, e2, e3, by omega, e5, by omega, e7, ?_⟩
          · rw [hget, if_neg hik, e1]; simp only [Option.map_some]; rw [if_neg (by omega)]
          · dsimp only
            rw [if_neg hik, if_neg hia, if_neg (by omega), if_neg (by omega), if_neg (by omega), if_neg (by omega)]
            exact e8
    · intro i h1 h2
      dsimp only
      simp only [List.length_cons, List.length_append, List.length_nil]
      split
      · simp only [List.length_cons, List.length_append, List.length_nil]; omega
      · split
        · have := za i (by omega) (by omega); omega
        · have := zb i (by omega) h2; omega
  · intro i hi
    rw [hget, if_neg (by omega), pB i (by omega), pA i (by omega), List.getElem?_append_left hi]
    cases cs[i]? with
    | none => rfl
    | some d => simp only [Option.map_some]; rw [if_neg (by omega)]

theorem fl_loop {k : Nat} {c : Cm} {cs ca : List Cm} {A T : List UInt8} {x : UInt8} (hk : cs.length = k) (hc : c.kind = 33) (hcy : c.yes = ((k + 1 : Nat) : Int)) (hx : OpRel V n x c.xn c.xv)
    (hA : Fl V n (k + 1) ca A) (pA : Pre (cs ++ [c]) ca) (hl : 33 :: x :: 40 :: (A ++ [41]) = T) (hT : T.length ≤ 300) :
    Fl V n k (setNo (rdr ca k ca.length ca.length k) k ca.length) T ∧ Pre cs (setNo (rdr ca k ca.length ca.length k) k ca.length) := by
  obtain ⟨bA, lA, fA⟩ := hA
  have hlen : (setNo (rdr ca k ca.length ca.length k) k ca.length).length = ca.length := by rw [setNo_length, rdr_length]
  have hget : ∀ i, (setNo (rdr ca k ca.length ca.length k) k ca.length)[i]? = if i = k then (ca[k]?).map (fun d => { red ca.length k d with no := ca.length }) else (ca[i]?).map fun d => if k ≤ i ∧ i < ca.length then red ca.length k d else d := fun i => by
    rw [setNo_get]
    by_cases e : i = k
    · rw [if_pos e, if_pos e, rdr_get]
      cases ca[k]? with
      | none => rfl
      | some d => simp only [Option.map_some]; rw [if_pos (by omega)]
    · rw [if_neg e, if_neg e, rdr_get]
  have hcs : (cs ++ [c]).length = k + 1 := by simp [hk]
  have hck : ca[k]? = some c := by
    rw [pA k (by omega), ← hk]; simp
  refine ⟨⟨?_, by omega, fun R => ?_⟩, ?_⟩
  · have h2 := bal_append (bal_append (bal_one (x := 33) ⟨by decide, by decide⟩) (bal_one hx.nobr)) (bal_wrap bA)
    rw [← hl]; simpa using h2
  · obtain ⟨κA, pa, qa, wa, za⟩ := fA (T ++ R)
    rw [hlen]
    refine ⟨fun i => if i = k then T ++ R else if i < ca.length then κA i else R, by dsimp only; rw [if_pos rfl], ?_, ?_, ?_⟩
    · dsimp only
      rw [if_neg (by omega), if_neg (by omega)]
    · have hκ : ∀ y, k + 1 ≤ y → y ≤ ca.length → (fun i => if i = k then T ++ R else if i < ca.length then κA i else R) (if y = ca.length then k else y) = κA y := fun y h1 h2 => by
        dsimp only
        by_cases e : y = ca.length
        · rw [if_pos e, if_pos rfl, e, qa]
        · rw [if_neg e, if_neg (by omega), if_pos (by omega)]
      intro i h1 h2
      by_cases hik : i = k
      · subst hik
        refine ⟨{ red ca.length i c with no := ca.length }, (if i + 1 = ca.length then i else i + 1), ca.length, ?_, ?_, rfl, ?_, ?_, by omega, by omega, ?_⟩
        · rw [hget, if_pos rfl, hck]; rfl
        · exact (red_red (c := { c with no := 0 }) (o := 0) hcy rfl).1
        · split <;> omega
        · split <;> omega
        · rw [hκ (i + 1) (by omega) (by omega), pa]
          dsimp only
          rw [if_pos rfl, if_neg (by omega), if_neg (by omega)]
          have h := Does.loop (V := V) (n := n) (c := { red ca.length i c with no := ca.length }) x A R hc hx bA
          rw [← hl]; simpa using h
      · obtain ⟨d, y, o, e1, e2, e3, e4, e5, e6, e7, e8⟩ := wa i (by omega) h2
        have rr := red_red (old := ca.length) (now := k) e2 e3
        refine ⟨red ca.length k d, _, _, ?_, rr.1, rr.2, ?_, ?_, ?_, ?_, ?_⟩
        · rw [hget, if_neg hik, e1]; simp only [Option.map_some]; rw [if_pos (by omega)]
        · split <;> omega
        · split <;> omega
        · split <;> omega
        · split <;> omega
        · rw [hκ y e4 e5, hκ o e6 e7]
          dsimp only
          rw [if_neg hik, if_pos h2]
          exact e8.red _ _
    · intro i h1 h2
      have hlt : T.length = A.length + 4 := by rw [← hl]; simp
      dsimp only
      split
      · rw [List.length_append]; omega
      · split
        · have := za i (by omega) (by omega); rw [List.length_append] at this; omega
        · omega
  · intro i hi
    rw [hget, if_neg (by omega), pA i (by omega), List.getElem?_append_left hi]
    cases cs[i]? with
    | none => rfl
    | some d => simp only [Option.map_some]; rw [if_neg (by omega)]

theorem fl_plain {c : Cm} {cs : List Cm} {T : List UInt8} (hcy : c.yes = ((cs.length + 1 : Nat) : Int)) (hcn : c.no = ((cs.length + 1 : Nat) : Int)) (hb : Bal T) (hd : ∀ R, Does V n c (T ++ R) R R) :
    Fl V n cs.length (cs ++ [c]) T ∧ Pre cs (cs ++ [c]) := by
  refine ⟨⟨hb, by simp, fun R => ?_⟩, fun i hi => List.getElem?_append_left hi⟩
  have hlen : (cs ++ [c]).length = cs.length + 1 := by simp
  rw [hlen]
  refine ⟨fun i => if i = cs.length then T ++ R else R, by dsimp only; rw [if_pos rfl], by dsimp only; rw [if_neg (by omega)], ?_, ?_⟩
  · intro i h1 h2
    have e : i = cs.length := by omega
    subst e
    refine ⟨c, cs.length + 1, cs.length + 1, by simp, hcy, hcn, by omega, by omega, by omega, by omega, ?_⟩
    dsimp only
    rw [if_pos rfl, if_neg (by omega)]
    exact hd R
  · intro i h1 h2
    dsimp only
    split
    · rw [List.length_append]; omega
    · omega
end

section
variable {s : ByteArray} {V : Int} {n : Nat}

/-- What was read from st to st'. -/
def Piece (s : ByteArray) (V : Int) (n : Nat) (st st' : PS) : Prop :=
  st'.bad = false → ∃ T, Lft s st.p = T ++ Lft s st'.p ∧ Fl V n st.cs.length st'.cs T ∧ Pre st.cs st'.cs

theorem lft_len (s : ByteArray) (p : Nat) : (Lft s p).length ≤ s.size := by
  unfold Lft; rw [List.length_drop, ← size_list]; omega
theorem piece_len {p : Nat} {T X : List UInt8} (h : Lft s p = T ++ X) (hs : s.size ≤ 300) : T.length ≤ 300 := by
  have h1 := lft_len s p
  rw [h, List.length_append] at h1
  omega

theorem Piece.refl (st : PS) : Piece s V n st st := fun _ => ⟨[], rfl, fl_nil V n st.cs, fun _ _ => rfl⟩
theorem Piece.trans {a b c : PS} (hs : s.size ≤ 300) (h : Piece s V n a b) (k : Piece s V n b c) (hb : c.bad = false → b.bad = false) : Piece s V n a c := by
  intro hc
  obtain ⟨T2, e2, f2, p2⟩ := k hc
  obtain ⟨T1, e1, f1, p1⟩ := h (hb hc)
  exact ⟨T1 ++ T2, by rw [e1, e2, List.append_assoc], fl_append f1 f2 p2 (piece_len e2 hs), p1.trans p2 f1.2.1⟩

theorem blk_piece {rdb : PS → PS} {N : Nat} (hn : ∀ st, Inv s st → lft s st ≤ N → Nxt s st (rdb st)) (hg : ∀ st, Inv s st → lft s st ≤ N → Piece s V n st (rdb st)) {st : PS} (h : Inv s st) (hl : lft s st ≤ N) (hb : (blk rdb s st).bad = false) :
    ∃ T, Lft s st.p = 40 :: (T ++ 41 :: Lft s (blk rdb s st).p) ∧ Fl V n st.cs.length (blk rdb s st).cs T ∧ Pre st.cs (blk rdb s st).cs := by
  have h1 := nxt_tk h 40
  have h2 := hn _ h1.2.2 (Nat.le_trans h1.lft hl)
  have g2 := hg _ h1.2.2 (Nat.le_trans h1.lft hl)
  unfold blk at hb ⊢
  dsimp only at hb ⊢
  obtain ⟨b1, q1, x1, l1, c1⟩ := tk_eat hb
  have hb0 := h2.1.back b1
  obtain ⟨T, e, f, p⟩ := g2 b1
  obtain ⟨b0, q0, x0, l0, c0⟩ := tk_eat hb0
  refine ⟨T, ?_, f, p⟩
  have u0 : x0 = 40 := UInt8.toNat_inj.1 (by simpa using (by omega : x0.toNat = 40))
  have u1 : x1 = 41 := UInt8.toNat_inj.1 (by simpa using (by omega : x1.toNat = 41))
  subst u0 u1
  rw [q1]
  rw [l1] at e
  dsimp only at e
  rw [l0, show Lft s (st.p + 1) = Lft s (tk s st.p st.bad 40).1 from by rw [q0], e]

theorem tcmd_eat {p : Nat} {k : Int} (hb : (tcmd s p V n k).2.1 = false) (hp : p < s.size) (hk : pk s p false = k) (y o : Int) :
    (k = 61 → ∃ v x o' yb : UInt8, Lft s p = 61 :: v :: x :: o' :: yb :: Lft s (tcmd s p V n k).1 ∧ Bal [61, v, x, o', yb] ∧ ∀ R, Does V n { (tcmd s p V n k).2.2 with yes := y, no := o } (61 :: v :: x :: o' :: yb :: R) R R) ∧
    (k = 108 → ∃ v x : UInt8, Lft s p = 108 :: v :: x :: Lft s (tcmd s p V n k).1 ∧ Bal [108, v, x] ∧ ∀ R, Does V n { (tcmd s p V n k).2.2 with yes := y, no := o } (108 :: v :: x :: R) R R) ∧
    (k = 115 → ∃ x yb : UInt8, Lft s p = 115 :: x :: yb :: Lft s (tcmd s p V n k).1 ∧ Bal [115, x, yb] ∧ ∀ R, Does V n { (tcmd s p V n k).2.2 with yes := y, no := o } (115 :: x :: yb :: R) R R) ∧
    (k = 63 ∨ k = 33 → ∃ x : UInt8, Lft s p = s[p] :: x :: Lft s (tcmd s p V n k).1 ∧ OpRel V n x (tcmd s p V n k).2.2.xn (tcmd s p V n k).2.2.xv) := by
  have h0 : Lft s p = s[p] :: Lft s (p + 1) := drop_at s p hp
  have h1 : (s[p].toNat : Int) = k := by rw [← pk_at s p hp]; exact hk
  have hkb : ∀ c : UInt8, (c.toNat : Int) = k → s[p] = c := fun c hc => UInt8.toNat_inj.1 (by omega)
  refine ⟨?_, ?_, ?_, ?_⟩
  · intro e
    subst e
    unfold tcmd at hb ⊢
    rw [if_pos rfl] at hb ⊢
    unfold cmSet at hb ⊢
    dsimp only at *
    obtain ⟨b4, q4, x4, l4, r4⟩ := opnd_eat hb
    obtain ⟨b3, q3, x3, l3, r3, i3⟩ := opn_eat b4
    obtain ⟨b2, q2, x2, l2, r2⟩ := opnd_eat b3
    obtain ⟨b1, q1, x1, l1, r1, _, _⟩ := tb_eat b2
    refine ⟨x1, x2, x3, x4, ?_, ?_, ?_⟩
    · rw [h0, hkb 61 rfl, l1, ← q1, l2, ← q2, l3, ← q3, l4, ← q4]
    · have := bal_append (bal_append (bal_append (bal_append (bal_one (x := 61) ⟨by decide, by decide⟩) (bal_one (x := x1) ⟨by omega, by omega⟩)) (bal_one r2.nobr)) (bal_one (isOp_nobr i3))) (bal_one r4.nobr)
      simpa using this
    · intro R
      exact .set x1 x2 x3 x4 R R rfl r1 r2 r3 r4
  · intro e
    subst e
    unfold tcmd at hb ⊢
    rw [if_neg (by decide), if_pos rfl] at hb ⊢
    unfold cmLoad at hb ⊢
    dsimp only at *
    obtain ⟨b2, q2, x2, l2, r2⟩ := opnd_eat hb
    obtain ⟨b1, q1, x1, l1, r1, _, _⟩ := tb_eat b2
    refine ⟨x1, x2, ?_, ?_, ?_⟩
    · rw [h0, hkb 108 rfl, l1, ← q1, l2, ← q2]
    · have := bal_append (bal_append (bal_one (x := 108) ⟨by decide, by decide⟩) (bal_one (x := x1) ⟨by omega, by omega⟩)) (bal_one r2.nobr)
      simpa using this
    · intro R
      exact .load x1 x2 R R rfl r1 r2
  · intro e
    subst e
    unfold tcmd at hb ⊢
    rw [if_neg (by decide), if_neg (by decide), if_pos rfl] at hb ⊢
    unfold cmStore at hb ⊢
    dsimp only at *
    obtain ⟨b2, q2, x2, l2, r2⟩ := opnd_eat hb
    obtain ⟨b1, q1, x1, l1, r1⟩ := opnd_eat b2
    refine ⟨x1, x2, ?_, ?_, ?_⟩
    · rw [h0, hkb 115 rfl, l1, ← q1, l2, ← q2]
    · have := bal_append (bal_append (bal_one (x := 115) ⟨by decide, by decide⟩) (bal_one r1.nobr)) (bal_one r2.nobr)
      simpa using this
    · intro R
      exact .store x1 x2 R R rfl r1 r2
  · intro e
    unfold tcmd at hb ⊢
    rw [if_neg (by omega), if_neg (by omega), if_neg (by omega)] at hb ⊢
    unfold cmTest at hb ⊢
    dsimp only at *
    obtain ⟨b1, q1, x1, l1, r1⟩ := opnd_eat hb
    refine ⟨x1, ?_, r1⟩
    rw [h0, l1, ← q1]

theorem step_piece {rdb : PS → PS} {N : Nat} (hs : s.size ≤ 300) (hn : ∀ st, Inv s st → lft s st ≤ N → Nxt s st (rdb st)) (hg : ∀ st, Inv s st → lft s st ≤ N → Piece s V n st (rdb st)) {st : PS} (h : Inv s st) (hl : lft s st ≤ N + 1) (hc : isCmd (pk s st.p st.bad) = true) : Piece s V n st (cmdStep rdb s V n st) := by
  obtain ⟨i1, _, _, l1⟩ := ps1_nxt (hv := V) (hn := (n : Int)) h hc
  obtain ⟨hb0, hp⟩ := isCmd_pk hc
  have hkind := tcmd_kind s st.p V n (pk s st.p st.bad)
  unfold cmdStep
  rw [hb0] at hc hkind ⊢
  generalize hk : pk s st.p false = k at hc hkind ⊢
  have hcs : (ps1 s V n st).cs = st.cs ++ [{ (tcmd s st.p V n k).2.2 with yes := st.cs.length + 1, no := st.cs.length + 1 }] := by
    unfold ps1 cs1; dsimp only; rw [hb0, hk]
  have hpp : (ps1 s V n st).p = (tcmd s st.p V n k).1 := by unfold ps1; dsimp only; rw [hb0, hk]
  have hpb : (ps1 s V n st).bad = (tcmd s st.p V n k).2.1 := by unfold ps1; dsimp only; rw [hb0, hk]
  have hlen : (ps1 s V n st).cs.length = st.cs.length + 1 := by rw [hcs]; simp
  by_cases k63 : k = 63
  · rw [if_pos k63]
    intro hb
    have hb2 : (blk rdb s (blk rdb s (ps1 s V n st))).bad = false := hb
    have a := blk_nxt hn i1 (by omega)
    have c := blk_nxt hn a.2.2 (by have := a.lft; omega)
    have hb1 := c.1.back hb2
    have hbp := a.1.back hb1
    obtain ⟨TA, eA, fA, pA⟩ := blk_piece hn hg i1 (by omega) hb1
    obtain ⟨TB, eB, fB, pB⟩ := blk_piece hn hg a.2.2 (by have := a.lft; omega) hb2
    rw [hpb] at hbp
    obtain ⟨_, _, _, ht⟩ := tcmd_eat hbp hp hk 0 0
    obtain ⟨x, ex, rx⟩ := ht (.inl k63)
    rw [hlen] at fA
    rw [hcs] at pA
    have e63 : s[st.p] = 63 := UInt8.toNat_inj.1 (by have := pk_at s st.p hp; rw [hk, k63] at this; simpa using (by omega : s[st.p].toNat = 63))
    have hfin := fl_branch (k := st.cs.length) (cs := st.cs) (c := { (tcmd s st.p V n k).2.2 with yes := st.cs.length + 1, no := st.cs.length + 1 }) rfl (by dsimp only; rw [hkind, k63]) (by simp) rx fA pA fB pB rfl
    refine ⟨_, ?_, hfin.1, hfin.2⟩
    show Lft s st.p = _ ++ Lft s (blk rdb s (blk rdb s (ps1 s V n st))).p
    rw [ex, e63, ← hpp, eA, eB]
    simp
  · rw [if_neg k63]
    by_cases k33 : k = 33
    · rw [if_pos k33]
      intro hb
      have hb1 : (blk rdb s (ps1 s V n st)).bad = false := hb
      have a := blk_nxt hn i1 (by omega)
      have hbp := a.1.back hb1
      obtain ⟨TA, eA, fA, pA⟩ := blk_piece hn hg i1 (by omega) hb1
      rw [hpb] at hbp
      obtain ⟨_, _, _, ht⟩ := tcmd_eat hbp hp hk 0 0
      obtain ⟨x, ex, rx⟩ := ht (.inr k33)
      rw [hlen] at fA
      rw [hcs] at pA
      have e33 : s[st.p] = 33 := UInt8.toNat_inj.1 (by have := pk_at s st.p hp; rw [hk, k33] at this; simpa using (by omega : s[st.p].toNat = 33))
      have hL : Lft s st.p = (33 :: x :: 40 :: (TA ++ [41])) ++ Lft s (blk rdb s (ps1 s V n st)).p := by
        rw [ex, e33, ← hpp, eA]; simp
      have hfin := fl_loop (k := st.cs.length) (cs := st.cs) (c := { (tcmd s st.p V n k).2.2 with yes := st.cs.length + 1, no := st.cs.length + 1 }) rfl (by dsimp only; rw [hkind, k33]) (by simp) rx fA pA rfl (piece_len hL hs)
      exact ⟨_, hL, hfin.1, hfin.2⟩
    · rw [if_neg k33]
      intro hb
      rw [hpb] at hb
      obtain ⟨t1, t2, t3, _⟩ := tcmd_eat hb hp hk (st.cs.length + 1 : Int) (st.cs.length + 1 : Int)
      rw [hpp, hcs]
      simp [isCmd] at hc
      by_cases k61 : k = 61
      · obtain ⟨v, x, o, y, e, hb, hd⟩ := t1 k61
        have := fl_plain (V := V) (n := n) (cs := st.cs) (c := { (tcmd s st.p V n k).2.2 with yes := st.cs.length + 1, no := st.cs.length + 1 }) (by simp) (by simp) hb hd
        exact ⟨_, by rw [e]; rfl, this.1, this.2⟩
      · by_cases k108 : k = 108
        · obtain ⟨v, x, e, hb, hd⟩ := t2 k108
          have := fl_plain (V := V) (n := n) (cs := st.cs) (c := { (tcmd s st.p V n k).2.2 with yes := st.cs.length + 1, no := st.cs.length + 1 }) (by simp) (by simp) hb hd
          exact ⟨_, by rw [e]; rfl, this.1, this.2⟩
        · obtain ⟨x, y, e, hb, hd⟩ := t3 (by omega)
          have := fl_plain (V := V) (n := n) (cs := st.cs) (c := { (tcmd s st.p V n k).2.2 with yes := st.cs.length + 1, no := st.cs.length + 1 }) (by simp) (by simp) hb hd
          exact ⟨_, by rw [e]; rfl, this.1, this.2⟩

theorem rdB_piece (hs : s.size ≤ 300) : ∀ (f : Nat) (st : PS), Inv s st → lft s st ≤ f → Piece s V n st (rdB s V n f st)
  | 0, st, _, _ => Piece.refl st
  | f + 1, st, h, hl => by
    unfold rdB
    split
    · rename_i hc
      have hrn : ∀ st, Inv s st → lft s st ≤ f → Nxt s st (rdB s V n f st) := rdB_nxt s V n f
      have hrg : ∀ st, Inv s st → lft s st ≤ f → Piece s V n st (rdB s V n f st) := rdB_piece hs f
      obtain ⟨nx, lx⟩ := step_nxt (hv := V) (hn := (n : Int)) hrn h hl hc
      have gs := step_piece (n := n) hs hrn hrg h hl hc
      have n2 := hrn _ nx.2.2 (by omega)
      exact gs.trans hs (hrg _ nx.2.2 (by omega)) (fun hb => n2.1.back hb)
    · exact Piece.refl st
end

/-- Where each command stands, and what is left there. -/
theorem krn_flow (s : ByteArray) (hs : s.size ≤ 300) (h : krnBad s = false) :
    ∃ κ : Nat → List UInt8, κ 0 = Lft s (hdr s).1 ∧ κ (krn s).cs.length = [] ∧ Flow (pw (hdr s).2.2.1) (hdr s).2.2.2.1 (krn s).cs 0 (krn s).cs.length κ ∧ ∀ i, i ≤ (krn s).cs.length → (κ i).length ≤ 90000 := by
  simp [krnBad] at h
  have hp := rdB_piece (s := s) (V := pw (hdr s).2.2.1) (n := (hdr s).2.2.2.1) hs s.size ⟨(hdr s).1, (hdr s).2.1, []⟩ ⟨Nat.zero_le _, hdr_le s⟩ (by unfold lft; split <;> simp)
  obtain ⟨T, e, ⟨_, _, f⟩, _⟩ := hp h.1
  obtain ⟨κ, p, q, w, z⟩ := f []
  have hend : Lft s (krn s).p = [] := by
    unfold Lft; rw [List.drop_eq_nil_iff, ← size_list]; exact h.2
  have hTe : Lft s (hdr s).1 = T := by
    have e' : Lft s (hdr s).1 = T ++ Lft s (krn s).p := e
    rw [e', hend, List.append_nil]
  refine ⟨κ, ?_, q, w, fun i hi => ?_⟩
  · rw [hTe]; simpa using p
  · have h1 := z i (Nat.zero_le _) hi
    have h2 := lft_len s (hdr s).1
    rw [hTe] at h2
    simp only [List.length_nil] at h1
    omega
end Go.Proofs.Ytnkbfdbbcaffmab
/-
  The reader's answer is the document's. (No walk here.)
-/
namespace Go.Proofs.Ytnkbfdbbcaffmab
open Go.RowKit

/-- The document's shape from the place p on: the place at which it fails. -/
def Sh (s : ByteArray) (n : Int) (p : Nat) (form : List UInt8) : Option Nat := (shL n (s.data.toList.drop p) form).map (· + p)

theorem Sh_step {s : ByteArray} {n : Int} {p : Nat} {form : List UInt8} (h : p < s.size) :
    Sh s n p form = match nxtL s[p].toNat n form with
      | none => some p
      | some f => Sh s n (p + 1) f := by
  unfold Sh
  rw [drop_at s p h, shL]
  cases nxtL s[p].toNat n form with
  | none => simp
  | some f =>
    simp only [Option.map_map]
    congr 1
    funext a
    simp; omega

theorem Sh_end {s : ByteArray} {n : Int} {p : Nat} {form : List UInt8} (h : ¬ p < s.size) : Sh s n p form = if form = [66] ∨ form = [67] then none else some p := by
  unfold Sh
  rw [List.drop_of_length_le (by simp; omega), shL]
  split <;> simp

/-- From p on, sym is asked for: a, b: the mark before and behind; q: the place behind. -/
def Ex (s : ByteArray) (n : Int) (sym : List UInt8) (p : Nat) (a : Bool) (q : Nat) (b : Bool) : Prop :=
  (a = true → q = p ∧ b = true) ∧ (a = false → ∀ φ, Sh s n p (sym ++ φ) = if b = true then some q else Sh s n q φ)

theorem Ex.seq {s : ByteArray} {n : Int} {σ τ : List UInt8} {p q r : Nat} {a b c : Bool} (h : Ex s n σ p a q b) (k : Ex s n τ q b r c) : Ex s n (σ ++ τ) p a r c := by
  refine ⟨fun e => ?_, fun e φ => ?_⟩
  · obtain ⟨h1, h2⟩ := h.1 e
    obtain ⟨h3, h4⟩ := k.1 h2
    exact ⟨h3.trans h1, h4⟩
  · have h1 := h.2 e (τ ++ φ)
    rw [List.append_assoc, h1]
    cases b with
    | true =>
      obtain ⟨h3, h4⟩ := k.1 rfl
      rw [h3, h4]; rfl
    | false =>
      rw [if_neg (by simp)]
      exact k.2 rfl φ

/-- A byte that is one of the plain signs of a form. -/
def plainB (x : UInt8) : Prop := (x.toNat : Int) ≠ 66 ∧ (x.toNat : Int) ≠ 67 ∧ (x.toNat : Int) ≠ 76 ∧ (x.toNat : Int) ≠ 75

theorem nxt_plain {x : UInt8} (h : plainB x) (c n : Int) (φ : List UInt8) : nxtL c n (x :: φ) = if stn x.toNat c n = true then some φ else none := by
  obtain ⟨h1, h2, h3, h4⟩ := h
  rw [nxtL, if_neg (by omega), if_neg h4]

theorem cons_ne {x : UInt8} (h : plainB x) (φ : List UInt8) : ¬ (x :: φ = [66] ∨ x :: φ = [67]) := by
  rintro (e | e)
  · simp at e; exact h.1 (by rw [e.1]; rfl)
  · simp at e; exact h.2.1 (by rw [e.1]; rfl)

/-- One byte is taken if it is of a kind. -/
def oneB (s : ByteArray) (p : Nat) (a : Bool) (P : Int → Bool) : Nat × Bool :=
  if a = true then (p, true) else if h : p < s.size then (if P s[p].toNat = true then (p + 1, false) else (p, true)) else (p, true)

theorem Ex.one {s : ByteArray} {n : Int} {x : UInt8} (hx : plainB x) {P : Int → Bool} (hP : ∀ c, 0 ≤ c → c ≤ 255 → stn x.toNat c n = P c) {p : Nat} {a : Bool} : Ex s n [x] p a (oneB s p a P).1 (oneB s p a P).2 := by
  refine ⟨fun e => by simp [oneB, e], fun e φ => ?_⟩
  subst e
  simp only [List.cons_append, List.nil_append, oneB, Bool.false_eq_true, if_false]
  by_cases h : p < s.size
  · have hl := s[p].toNat_lt
    rw [dif_pos h, Sh_step h, nxt_plain hx, hP _ (by omega) (by omega)]
    by_cases hc : P s[p].toNat = true
    · rw [if_pos hc, if_pos hc]; simp
    · rw [if_neg hc, if_neg hc]; simp
  · rw [dif_neg h, Sh_end h, if_neg (cons_ne hx φ)]; simp

theorem tk_one (s : ByteArray) (p : Nat) (a : Bool) (c : Int) : tk s p a c = oneB s p a (fun d => d == c) := by
  unfold tk oneB
  cases a with
  | true => simp
  | false =>
    simp only [Bool.false_eq_true, if_false]
    by_cases h : p < s.size
    · rw [dif_pos h, pk_at s p h]
      by_cases hc : (s[p].toNat : Int) = c
      · rw [if_pos ⟨hc, h⟩, if_pos (by simpa using hc)]
      · rw [if_neg (fun e => hc e.1), if_neg (by simpa using hc)]
    · rw [dif_neg h, if_neg (fun e => h e.2)]

theorem tb_one (s : ByteArray) (p : Nat) (a : Bool) (lo hi : Int) (hlo : 0 < lo) : ((tb s p a lo hi).1, (tb s p a lo hi).2.1) = oneB s p a (fun d => decide (lo ≤ d) && decide (d ≤ hi)) := by
  unfold tb
  by_cases hr : lo ≤ pk s p a ∧ pk s p a ≤ hi
  · rw [if_pos hr]
    have ht := tk_pk s p a (by omega)
    obtain ⟨h1, h2, h3⟩ := ht
    dsimp only
    rw [h1]
    subst h2
    rw [pk_at s p h3] at hr
    unfold oneB
    rw [if_neg (by simp), dif_pos h3, if_pos (by simp; exact hr)]
  · rw [if_neg hr]
    dsimp only
    unfold oneB
    cases a with
    | true => simp
    | false =>
      simp only [Bool.false_eq_true, if_false]
      by_cases h : p < s.size
      · rw [pk_at s p h] at hr
        rw [dif_pos h, if_neg (by simp; intro h1; omega)]
      · rw [dif_neg h]

theorem opnd_one (s : ByteArray) (p : Nat) (a : Bool) (hv hn : Int) : ((opnd s p a hv hn).1, (opnd s p a hv hn).2.1) = oneB s p a (fun d => isName d hn || isDig d) := by
  unfold opnd
  split
  · rename_i hr
    dsimp only
    rw [tb_one s p a 48 57 (by omega)]
    unfold oneB
    cases a with
    | true => simp
    | false =>
      simp only [Bool.false_eq_true, if_false]
      by_cases h : p < s.size
      · rw [pk_at s p h] at hr
        rw [dif_pos h, dif_pos h]
        simp [isName, isDig, hr.1, hr.2]
      · rw [dif_neg h, dif_neg h]
  · rename_i hr
    dsimp only
    rw [tb_one s p a 97 _ (by omega)]
    unfold oneB
    cases a with
    | true => simp
    | false =>
      simp only [Bool.false_eq_true, if_false]
      by_cases h : p < s.size
      · rw [pk_at s p h] at hr
        rw [dif_pos h, dif_pos h]
        have e : (decide (97 ≤ (s[p].toNat : Int)) && decide ((s[p].toNat : Int) ≤ 97 + hn - 1)) = (isName s[p].toNat hn || isDig s[p].toNat) := by
          have hd : isDig s[p].toNat = false := by simp [isDig]; omega
          rw [hd, Bool.or_false, isName]
          congr 1
          rw [decide_eq_decide]
          omega
        simp only [e]
      · rw [dif_neg h, dif_neg h]

theorem opn_one (s : ByteArray) (p : Nat) (a : Bool) : ((opn s p a).1, (opn s p a).2.1) = oneB s p a isOp := by
  unfold opn
  split
  · rename_i hr
    have ht := tk_pk s p a (by intro e; rw [e] at hr; simp [isOp] at hr)
    obtain ⟨h1, h2, h3⟩ := ht
    dsimp only
    rw [h1]
    subst h2
    rw [pk_at s p h3] at hr
    unfold oneB
    rw [if_neg (by simp), dif_pos h3, if_pos hr]
  · rename_i hr
    dsimp only
    unfold oneB
    cases a with
    | true => simp
    | false =>
      simp only [Bool.false_eq_true, if_false]
      by_cases h : p < s.size
      · rw [pk_at s p h] at hr
        rw [dif_pos h, if_neg hr]
      · rw [dif_neg h]

section
variable {s : ByteArray} {n : Int}
theorem ex_of {x : UInt8} {p : Nat} {a : Bool} {q : Nat} {b : Bool} {P : Int → Bool} (hx : plainB x) (hP : ∀ c, 0 ≤ c → c ≤ 255 → stn x.toNat c n = P c) (h : (q, b) = oneB s p a P) : Ex s n [x] p a q b := by
  have := Ex.one (s := s) (n := n) hx hP (p := p) (a := a)
  rw [← h] at this
  exact this

theorem ex_tk {x : UInt8} {p : Nat} {a : Bool} (hx : plainB x) (h2 : ∀ c, stn x.toNat c n = (c == (x.toNat : Int))) : Ex s n [x] p a (tk s p a x.toNat).1 (tk s p a x.toNat).2 :=
  ex_of hx (fun c _ _ => h2 c) (tk_one s p a _)
theorem stn_v (c : Int) : stn 118 c n = (decide (97 ≤ c) && decide (c ≤ 97 + n - 1)) := by
  have e : stn 118 c n = isName c n := by simp [stn]
  rw [e, isName]
  congr 1
  rw [decide_eq_decide]
  omega
theorem stn_x (c : Int) : stn 120 c n = (isName c n || isDig c) := by simp [stn]
theorem stn_o (c : Int) : stn 111 c n = isOp c := by simp [stn]
theorem stn_W (c : Int) : stn 87 c n = (decide (49 ≤ c) && decide (c ≤ 56)) := by simp [stn]
theorem stn_k (c : Int) : stn 107 c n = (c == 112 || c == 115) := by simp [stn]
theorem stn_K (c : Int) : stn 75 c n = (c == 112 || c == 115) := by simp [stn]

theorem ex_var {p : Nat} {a : Bool} : Ex s n [118] p a (tb s p a 97 (97 + n - 1)).1 (tb s p a 97 (97 + n - 1)).2.1 :=
  ex_of (by simp [plainB]) (fun c _ _ => stn_v c) (tb_one s p a 97 (97 + n - 1) (by omega))
theorem ex_opnd {p : Nat} {a : Bool} {hv : Int} : Ex s n [120] p a (opnd s p a hv n).1 (opnd s p a hv n).2.1 :=
  ex_of (by simp [plainB]) (fun c _ _ => stn_x c) (opnd_one s p a hv n)
theorem ex_opn {p : Nat} {a : Bool} : Ex s n [111] p a (opn s p a).1 (opn s p a).2.1 :=
  ex_of (by simp [plainB]) (fun c _ _ => stn_o c) (opn_one s p a)
theorem ex_wid {p : Nat} {a : Bool} : Ex s n [87] p a (tb s p a 49 56).1 (tb s p a 49 56).2.1 :=
  ex_of (by simp [plainB]) (fun c _ _ => stn_W c) (tb_one s p a 49 56 (by omega))
theorem ex_sign {x : UInt8} {p : Nat} {a : Bool} (h : x = 47 ∨ x = 58 ∨ x = 40 ∨ x = 41) : Ex s n [x] p a (tk s p a x.toNat).1 (tk s p a x.toNat).2 := by
  rcases h with rfl | rfl | rfl | rfl
  all_goals
    refine ex_tk (by simp [plainB]) (fun c => ?_)
    simp [stn]

/-- Letters that may stand: the reader counts them, the form passes over what is left. -/
theorem Sh_letters {x : UInt8} (hx : plainB x) (φ : List UInt8) : ∀ (m p : Nat), stn x.toNat 112 n = false → stn x.toNat 115 n = false → Sh s n p (List.replicate m 75 ++ x :: φ) = Sh s n (p + cnt s false m p) (x :: φ)
  | 0, p, _, _ => by simp [cnt]
  | m + 1, p, h1, h2 => by
    rw [List.replicate_succ, List.cons_append, cnt]
    by_cases hp : p < s.size
    · have hk : nxtL s[p].toNat n (75 :: (List.replicate m 75 ++ x :: φ)) = if ((s[p].toNat : Int) == 112 || (s[p].toNat : Int) == 115) = true then some (List.replicate m 75 ++ x :: φ) else nxtL s[p].toNat n (List.replicate m 75 ++ x :: φ) := by
        rw [nxtL, if_neg (by decide)]
        show (if stn 75 _ n = true then _ else _) = _
        rw [stn_K]
        simp
      by_cases hl : pk s p false = 112 ∨ pk s p false = 115
      · rw [if_pos hl, Sh_step hp, hk]
        rw [pk_at s p hp] at hl
        rw [if_pos (by simpa using hl)]
        show Sh s n (p + 1) _ = _
        rw [Sh_letters hx φ m (p + 1) h1 h2]
        congr 1
        omega
      · rw [if_neg hl, Sh_step hp, hk]
        have hl' := hl
        rw [pk_at s p hp] at hl'
        rw [if_neg (by simpa using hl'), ← Sh_step hp, Sh_letters hx φ m p h1 h2]
        have e : cnt s false m p = 0 := by
          cases m with
          | zero => rfl
          | succ m => rw [cnt, if_neg hl]
        rw [e]
    · have hl : ¬ (pk s p false = 112 ∨ pk s p false = 115) := by rw [pk_end s p hp]; omega
      rw [if_neg hl, Nat.add_zero, Sh_end hp, Sh_end hp, if_neg (cons_ne hx φ), if_neg (by
        rintro (e | e)
        · simp at e
        · simp at e)]

theorem cnt_bad (m p : Nat) : cnt s true m p = 0 := by
  cases m with
  | zero => rfl
  | succ m => rw [cnt, if_neg (by rw [pk_bad]; omega)]

theorem ex_words {p : Nat} {a : Bool} : Ex s n (List.replicate 16 75 ++ [58]) p a (tk s (p + cnt s a 16 p) a 58).1 (tk s (p + cnt s a 16 p) a 58).2 := by
  cases a with
  | true => rw [cnt_bad, tk_bad]; exact ⟨fun _ => ⟨rfl, rfl⟩, fun e => by cases e⟩
  | false =>
    refine ⟨fun e => (by cases e), fun _ φ => ?_⟩
    rw [List.append_assoc, List.cons_append, List.nil_append, Sh_letters (by simp [plainB]) φ 16 p (by simp [stn]) (by simp [stn])]
    exact (ex_sign (s := s) (n := n) (x := 58) (p := p + cnt s false 16 p) (a := false) (by simp)).2 rfl φ

theorem ex_vars {p : Nat} {a : Bool} : Ex s n (107 :: (List.replicate 7 75 ++ [47])) p a (tk s (p + cnt s a 8 p) (a || cnt s a 8 p == 0) 47).1 (tk s (p + cnt s a 8 p) (a || cnt s a 8 p == 0) 47).2 := by
  cases a with
  | true => rw [cnt_bad, Bool.true_or, tk_bad]; exact ⟨fun _ => ⟨rfl, rfl⟩, fun e => by cases e⟩
  | false =>
    refine ⟨fun e => (by cases e), fun _ φ => ?_⟩
    rw [List.cons_append, List.append_assoc, List.cons_append, List.nil_append]
    have hk : plainB 107 := by simp [plainB]
    by_cases hl : pk s p false = 112 ∨ pk s p false = 115
    · have ht := tk_pk s p false (by omega)
      have hp := ht.2.2
      have e : cnt s false 8 p = cnt s false 7 (p + 1) + 1 := by rw [cnt, if_pos hl]
      rw [pk_at s p hp] at hl
      rw [Sh_step hp, nxt_plain hk]
      have e2 : stn (107 : UInt8).toNat s[p].toNat n = true := by show stn 107 _ n = true; rw [stn_k]; simpa using hl
      rw [if_pos e2]
      show Sh s n (p + 1) _ = _
      rw [Sh_letters (by simp [plainB]) φ 7 (p + 1) (by simp [stn]) (by simp [stn]), e]
      have e3 : (false || cnt s false 7 (p + 1) + 1 == 0) = false := by simp
      rw [e3, show p + (cnt s false 7 (p + 1) + 1) = p + 1 + cnt s false 7 (p + 1) from by omega]
      exact (ex_sign (s := s) (n := n) (x := 47) (a := false) (by simp)).2 rfl φ
    · have e : cnt s false 8 p = 0 := by rw [cnt, if_neg hl]
      rw [e]
      show _ = if (tk s p true 47).2 = true then some (tk s p true 47).1 else Sh s n (tk s p true 47).1 φ
      rw [tk_bad]
      show _ = some p
      by_cases hp : p < s.size
      · rw [pk_at s p hp] at hl
        have e2 : ¬ stn (107 : UInt8).toNat s[p].toNat n = true := by show ¬ stn 107 _ n = true; rw [stn_k]; simpa using hl
        rw [Sh_step hp, nxt_plain hk, if_neg e2]
      · rw [Sh_end hp, if_neg (cons_ne hk _)]

/-- The head, whatever the number of variables. -/
theorem ex_head : Ex s n ([87] ++ ((107 :: (List.replicate 7 75 ++ [47])) ++ (List.replicate 16 75 ++ [58]))) 0 false (hdr s).1 (hdr s).2.1 :=
  Ex.seq ex_wid (Ex.seq ex_vars ex_words)

theorem tk_good {p : Nat} {a : Bool} {c : Int} (h : (tk s p a c).2 = false) : a = false ∧ p < s.size ∧ pk s p false = c ∧ (tk s p a c).1 = p + 1 := by
  unfold tk at *
  cases a with
  | true => simp at h
  | false =>
    simp only [Bool.false_eq_true, if_false] at *
    by_cases hc : pk s p false = c ∧ p < s.size
    · rw [if_pos hc]
      exact ⟨trivial, hc.2, hc.1, rfl⟩
    · rw [if_neg hc] at h
      cases h

theorem cnt_letter : ∀ (m p j : Nat), j < cnt s false m p → pk s (p + j) false = 112 ∨ pk s (p + j) false = 115
  | 0, p, j, h => by simp [cnt] at h
  | m + 1, p, j, h => by
    rw [cnt] at h
    by_cases hl : pk s p false = 112 ∨ pk s p false = 115
    · rw [if_pos hl] at h
      cases j with
      | zero => exact hl
      | succ j =>
        have := cnt_letter m (p + 1) j (by omega)
        rw [show p + (j + 1) = p + 1 + j from by omega]
        exact this
    · rw [if_neg hl] at h
      omega

theorem fnd_skip (c : Int) (f : Nat) : ∀ (m i : Nat), (∀ j, j < m → pk s (i + j) false ≠ c ∧ i + j < s.size) → fnd s c (f + m) i = fnd s c f (i + m)
  | 0, i, _ => rfl
  | m + 1, i, h => by
    have h0 := h 0 (by omega)
    rw [Nat.add_zero] at h0
    have hp : i < s.size := h0.2
    rw [pk_at s i hp] at h0
    rw [show f + (m + 1) = (f + m) + 1 from rfl, fnd, dif_pos hp, if_neg h0.1]
    rw [fnd_skip c f m (i + 1) (fun j hj => by
      have := h (j + 1) (by omega)
      rw [show i + (j + 1) = i + 1 + j from by omega] at this
      exact this)]
    congr 1
    omega

/-- Behind a good head the document's number of variables is the reader's. -/
theorem nvar_head (h : (hdr s).2.1 = false) : nvar s = (hdr s).2.2.2.1 := by
  unfold hdr at *
  dsimp only at *
  obtain ⟨h1, _, _, _⟩ := tk_good h
  obtain ⟨h2, h3, h4, _⟩ := tk_good h1
  simp only [Bool.or_eq_false_iff] at h2
  obtain ⟨h5, h6⟩ := h2
  have ht : (tb s 0 false 49 56).1 = 1 ∧ pk s 0 false ≠ 47 ∧ 0 < s.size := by
    unfold tb at *
    by_cases hr : 49 ≤ pk s 0 false ∧ pk s 0 false ≤ 56
    · rw [if_pos hr] at h5 ⊢
      dsimp only at *
      have := tk_good h5
      exact ⟨this.2.2.2, by omega, this.2.1⟩
    · rw [if_neg hr] at h5
      cases h5
  rw [h5] at h3 h4 h6 ⊢
  rw [ht.1] at h3 h4 h6 ⊢
  generalize hn : cnt s false 8 1 = n at *
  have hl : ∀ j, j < n + 1 → pk s (0 + j) false ≠ 47 ∧ 0 + j < s.size := by
    intro j hj
    cases j with
    | zero => exact ⟨ht.2.1, ht.2.2⟩
    | succ j =>
      have := cnt_letter (s := s) 8 1 j (by omega)
      rw [show 0 + (j + 1) = 1 + j from by omega]
      exact ⟨by omega, by omega⟩
  have hf := fnd_skip (s := s) 47 (s.size - (n + 1)) (n + 1) 0 hl
  rw [show s.size - (n + 1) + (n + 1) = s.size from by omega] at hf
  obtain ⟨f, hf2⟩ : ∃ f, s.size - (n + 1) = f + 1 := ⟨s.size - (n + 1) - 1, by omega⟩
  unfold nvar
  rw [hf, hf2, show 0 + (n + 1) = 1 + n from by omega, fnd, dif_pos h3]
  rw [pk_at s (1 + n) h3] at h4
  rw [if_pos h4]
  omega

/-- Where no command begins the body is over. -/
theorem opB_body (c : Int) : opB 66 c = isCmd c := by
  unfold opB isCmd
  by_cases h1 : c = 61
  · simp [h1]
  · by_cases h2 : c = 108
    · simp [h2]
    · by_cases h3 : c = 115
      · simp [h3]
      · by_cases h4 : c = 63
        · simp [h4]
        · by_cases h5 : c = 33
          · simp [h5]
          · by_cases h6 : c = 122
            · simp [h6]
            · by_cases h7 : c = 106
              · simp [h7]
              · by_cases h8 : c = 104
                · simp [h8]
                · simp [h1, h2, h3, h4, h5, h6, h7, h8]

theorem Sh_skip {p : Nat} {x : UInt8} {φ : List UInt8} (hx : plainB x) (h : isCmd (pk s p false) = false) : Sh s n p (66 :: x :: φ) = Sh s n p (x :: φ) := by
  by_cases hp : p < s.size
  · rw [pk_at s p hp] at h
    rw [Sh_step hp, Sh_step hp]
    have e : nxtL s[p].toNat n (66 :: x :: φ) = nxtL s[p].toNat n (x :: φ) := by
      conv => lhs; rw [nxtL]
      rw [if_pos (by simp)]
      have e2 : ¬ opB ((66 : UInt8).toNat : Int) s[p].toNat = true := by
        show ¬ opB 66 _ = true
        rw [opB_body, h]; simp
      rw [if_neg e2, if_neg (by decide)]
    rw [e]
  · rw [Sh_end hp, Sh_end hp, if_neg (cons_ne hx φ), if_neg (by simp)]

theorem Sh_last {p : Nat} (h : isCmd (pk s p false) = false) : Sh s n p [66] = if p < s.size then some p else none := by
  by_cases hp : p < s.size
  · rw [pk_at s p hp] at h
    rw [Sh_step hp, if_pos hp]
    have e : nxtL s[p].toNat n [66] = none := by
      rw [nxtL, if_pos (by simp)]
      have e2 : ¬ opB ((66 : UInt8).toNat : Int) s[p].toNat = true := by
        show ¬ opB 66 _ = true
        rw [opB_body, h]; simp
      rw [if_neg e2, if_neg (by decide)]
      rfl
    rw [e]
  · rw [Sh_end hp, if_neg hp, if_pos (.inl rfl)]

/-- A command's first byte. -/
theorem Sh_open {p : Nat} {φ : List UInt8} (h : isCmd (pk s p false) = true) : Sh s n p (66 :: φ) = Sh s n (p + 1) (opS (pk s p false) ++ 66 :: φ) := by
  have hp : p < s.size := (isCmd_pk h).2
  rw [pk_at s p hp] at h ⊢
  rw [Sh_step hp]
  have e : nxtL s[p].toNat n (66 :: φ) = some (opS s[p].toNat ++ 66 :: φ) := by
    rw [nxtL, if_pos (by simp)]
    have e2 : opB ((66 : UInt8).toNat : Int) s[p].toNat = true := by
      show opB 66 _ = true
      rw [opB_body, h]
    rw [if_pos e2, if_neg (by decide)]
  rw [e]
end
end Go.Proofs.Ytnkbfdbbcaffmab
