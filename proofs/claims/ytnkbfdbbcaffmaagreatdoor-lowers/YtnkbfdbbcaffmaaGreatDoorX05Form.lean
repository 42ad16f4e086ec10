import Derived.Test.YtnkbfdbbcaffmaaGreatDoorX01Chars
import Derived.Test.YtnkbfdbbcaffmaaGreatDoorX04Rec
/-
  The document's forms, as plain functions.
-/
namespace Go.Proofs.YtnkbfdbbcaffmaaGreatDoor
open Go.RowKit

theorem ret_int {k : IntKind} {a b : Int} (h : a = b) : Ending.returned (.int k a) = .returned (.int k b) := by rw [h]
theorem ret_bool {a b : Bool} (h : a = b) : Ending.returned (.bool a) = .returned (.bool b) := by rw [h]

/-- The place of the first byte c from i on; -1: there is none. -/
def fnd (s : ByteArray) (c : Int) : Nat → Nat → Int
  | 0, _ => -1
  | f + 1, i => if h : i < s.size then (if (s[i].toNat : Int) = c then (i : Int) else fnd s c f (i + 1)) else -1

/-- What must stand behind the first byte. -/
def opS (c : Int) : List UInt8 :=
  if c = 61 then [118, 120, 111, 120] else if c = 108 then [118, 120] else if c = 115 then [120, 120] else if c = 63 then [120, 40, 66, 41, 40, 66, 41] else if c = 33 then [120, 40, 66, 41]
  else if c = 122 then [120, 110, 110] else if c = 106 then [110, 110] else []
def opB (e c : Int) : Bool :=
  if c = 61 then true else if c = 108 then true else if c = 115 then true else if c = 63 then e == 66 else if c = 33 then e == 66 else if c = 122 then e != 66 else if c = 106 then e != 66 else if c = 104 then e != 66 else false

def isName (c n : Int) : Bool := decide (97 ≤ c) && decide (c - 97 < n)
def isDig (c : Int) : Bool := decide (48 ≤ c) && decide (c ≤ 57)

/-- May the byte c stand where x may, in a text of n variables? -/
def stn (x c n : Int) : Bool :=
  if x = 87 then (decide (49 ≤ c) && decide (c ≤ 56))
  else if x = 107 ∨ x = 75 then (c == 112 || c == 115)
  else if x = 118 then isName c n
  else if x = 120 then (isName c n || isDig c)
  else if x = 111 then isOp c
  else if x = 110 then (isDig c || (decide (97 ≤ c) && decide (c ≤ 102)))
  else c == x

/-- What may stand behind the byte c, where now stands a form. -/
def nxtL (c n : Int) : List UInt8 → Option (List UInt8)
  | [] => none
  | x :: rest =>
    if (x.toNat : Int) = 66 ∨ (x.toNat : Int) = 67 ∨ (x.toNat : Int) = 76 then
      if opB x.toNat c = true then some (opS c ++ (if (x.toNat : Int) = 76 then 67 :: rest else x :: rest))
      else if (x.toNat : Int) = 76 then none else nxtL c n rest
    else if stn x.toNat c n = true then some rest
    else if (x.toNat : Int) = 75 then nxtL c n rest else none

theorem drop_at (s : ByteArray) (k : Nat) (h : k < s.size) : s.data.toList.drop k = s[k] :: s.data.toList.drop (k + 1) := by
  rw [List.drop_eq_getElem_cons (by simpa using h)]; rfl

theorem opS_len (c : Int) : (opS c).length ≤ 7 := by
  unfold opS
  repeat' split
  all_goals simp

theorem ext_data (s : ByteArray) (a b : Nat) : (s.extract a b).data.toList = (s.data.toList.drop a).take (b - a) := by
  obtain ⟨⟨l⟩⟩ := s
  rw [ByteArray.extract_mk]
theorem ext_list (s : ByteArray) (k : Nat) : (s.extract k s.size).data.toList = s.data.toList.drop k := by
  rw [ext_data, List.take_of_length_le]
  rw [List.length_drop, Array.length_toList, ByteArray.size_data]
  exact Nat.le_refl _

theorem cat_list (a : List UInt8) (s : ByteArray) : ((⟨a.toArray⟩ : ByteArray) ++ s).data.toList = a ++ s.data.toList := by
  simp [ByteArray.data_append]
theorem cat_list3 (a : List UInt8) (s : ByteArray) : ((⟨a.toArray⟩ : ByteArray) ++ ⟨#[67]⟩ ++ s).data.toList = a ++ 67 :: s.data.toList := by
  simp [ByteArray.data_append]

/-- A text against a form: none: it fits; else how far it fits. -/
def shL (n : Int) : List UInt8 → List UInt8 → Option Nat
  | [], form => if form = [66] ∨ form = [67] then none else some 0
  | c :: t, form => match nxtL c.toNat n form with
    | none => some 0
    | some f => (shL n t f).map (· + 1)

theorem nxtL_len (c n : Int) : ∀ (l l' : List UInt8), nxtL c n l = some l' → l'.length ≤ l.length + 7
  | [], l', h => by simp [nxtL] at h
  | x :: rest, l', h => by
    have ho := opS_len c
    unfold nxtL at h
    split at h
    · split at h
      · simp only [Option.some.injEq] at h
        subst h
        split <;> simp <;> omega
      · split at h
        · cases h
        · have := nxtL_len c n rest l' h
          simp; omega
    · split at h
      · simp only [Option.some.injEq] at h
        subst h
        simp; omega
      · split at h
        · have := nxtL_len c n rest l' h
          simp; omega
        · cases h

theorem fnd_bd (s : ByteArray) (c : Int) : ∀ f i, -1 ≤ fnd s c f i ∧ fnd s c f i ≤ s.size
  | 0, i => by unfold fnd; omega
  | f + 1, i => by
    unfold fnd
    split
    · split
      · omega
      · exact fnd_bd s c f (i + 1)
    · omega

/-- The number of variables, as the document's shape reckons it. -/
def nvar (s : ByteArray) : Int := fnd s 47 s.size 0 - 1

theorem toList_data' (s : ByteArray) : s.toList = s.data.toList := ByteArray.toList_eq s

/-- The form of kernels. -/
def kernF : List UInt8 := [87, 107, 75, 75, 75, 75, 75, 75, 75, 47, 75, 75, 75, 75, 75, 75, 75, 75, 75, 75, 75, 75, 75, 75, 75, 75, 58, 66]

/-- What the document's Check answers. -/
def rchk (s : ByteArray) : Int × Int := if 300 < s.size then (1, 0) else match shL (nvar s) s.data.toList kernF with
  | none => (0, 0)
  | some k => (2, k)
end Go.Proofs.YtnkbfdbbcaffmaaGreatDoor
/-
  The reader's answer is the document's. (No walk here.)
-/
namespace Go.Proofs.YtnkbfdbbcaffmaaGreatDoor
open Go.RowKit

/-- The document's shape from the place p on: the place at which it fails. -/
def Sh (s : ByteArray) (n : Int) (p : Nat) (form : List UInt8) : Option Nat := (shL n (s.data.toList.drop p) form).map (· + p)

theorem Sh_step {s : ByteArray} {n : Int} {p : Nat} {form : List UInt8} (h : p < s.size) :
    Sh s n p form = match nxtL s[p].toNat n form with
      | none => some p
      | some f => Sh s n (p + 1) f := by
  unfold Sh
  rw [drop_at s p h, shL]
  cases nxtL s[p].toNat n form with
  | none => simp
  | some f =>
    simp only [Option.map_map]
    congr 1
    funext a
    simp; omega

theorem Sh_end {s : ByteArray} {n : Int} {p : Nat} {form : List UInt8} (h : ¬ p < s.size) : Sh s n p form = if form = [66] ∨ form = [67] then none else some p := by
  unfold Sh
  rw [List.drop_of_length_le (by simp; omega), shL]
  split <;> simp

/-- From p on, sym is asked for: a, b: the mark before and behind; q: the place behind. -/
def Ex (s : ByteArray) (n : Int) (sym : List UInt8) (p : Nat) (a : Bool) (q : Nat) (b : Bool) : Prop :=
  (a = true → q = p ∧ b = true) ∧ (a = false → ∀ φ, Sh s n p (sym ++ φ) = if b = true then some q else Sh s n q φ)

theorem Ex.seq {s : ByteArray} {n : Int} {σ τ : List UInt8} {p q r : Nat} {a b c : Bool} (h : Ex s n σ p a q b) (k : Ex s n τ q b r c) : Ex s n (σ ++ τ) p a r c := by
  refine ⟨fun e => ?_, fun e φ => ?_⟩
  · obtain ⟨h1, h2⟩ := h.1 e
    obtain ⟨h3, h4⟩ := k.1 h2
    exact ⟨h3.trans h1, h4⟩
  · have h1 := h.2 e (τ ++ φ)
    rw [List.append_assoc, h1]
    cases b with
    | true =>
      obtain ⟨h3, h4⟩ := k.1 rfl
      rw [h3, h4]; rfl
    | false =>
      rw [if_neg (by simp)]
      exact k.2 rfl φ

/-- A byte that is one of the plain signs of a form. -/
def plainB (x : UInt8) : Prop := (x.toNat : Int) ≠ 66 ∧ (x.toNat : Int) ≠ 67 ∧ (x.toNat : Int) ≠ 76 ∧ (x.toNat : Int) ≠ 75

theorem nxt_plain {x : UInt8} (h : plainB x) (c n : Int) (φ : List UInt8) : nxtL c n (x :: φ) = if stn x.toNat c n = true then some φ else none := by
  obtain ⟨h1, h2, h3, h4⟩ := h
  rw [nxtL, if_neg (by omega), if_neg h4]

theorem cons_ne {x : UInt8} (h : plainB x) (φ : List UInt8) : ¬ (x :: φ = [66] ∨ x :: φ = [67]) := by
  rintro (e | e)
  · simp at e; exact h.1 (by rw [e.1]; rfl)
  · simp at e; exact h.2.1 (by rw [e.1]; rfl)

/-- One byte is taken if it is of a kind. -/
def oneB (s : ByteArray) (p : Nat) (a : Bool) (P : Int → Bool) : Nat × Bool :=
  if a = true then (p, true) else if h : p < s.size then (if P s[p].toNat = true then (p + 1, false) else (p, true)) else (p, true)

theorem Ex.one {s : ByteArray} {n : Int} {x : UInt8} (hx : plainB x) {P : Int → Bool} (hP : ∀ c, 0 ≤ c → c ≤ 255 → stn x.toNat c n = P c) {p : Nat} {a : Bool} : Ex s n [x] p a (oneB s p a P).1 (oneB s p a P).2 := by
  refine ⟨fun e => by simp [oneB, e], fun e φ => ?_⟩
  subst e
  simp only [List.cons_append, List.nil_append, oneB, Bool.false_eq_true, if_false]
  by_cases h : p < s.size
  · have hl := s[p].toNat_lt
    rw [dif_pos h, Sh_step h, nxt_plain hx, hP _ (by omega) (by omega)]
    by_cases hc : P s[p].toNat = true
    · rw [if_pos hc, if_pos hc]; simp
    · rw [if_neg hc, if_neg hc]; simp
  · rw [dif_neg h, Sh_end h, if_neg (cons_ne hx φ)]; simp

theorem tk_one (s : ByteArray) (p : Nat) (a : Bool) (c : Int) : tk s p a c = oneB s p a (fun d => d == c) := by
  unfold tk oneB
  cases a with
  | true => simp
  | false =>
    simp only [Bool.false_eq_true, if_false]
    by_cases h : p < s.size
    · rw [dif_pos h, pk_at s p h]
      by_cases hc : (s[p].toNat : Int) = c
      · rw [if_pos ⟨hc, h⟩, if_pos (by simpa using hc)]
      · rw [if_neg (fun e => hc e.1), if_neg (by simpa using hc)]
    · rw [dif_neg h, if_neg (fun e => h e.2)]

theorem tb_one (s : ByteArray) (p : Nat) (a : Bool) (lo hi : Int) (hlo : 0 < lo) : ((tb s p a lo hi).1, (tb s p a lo hi).2.1) = oneB s p a (fun d => decide (lo ≤ d) && decide (d ≤ hi)) := by
  unfold tb
  by_cases hr : lo ≤ pk s p a ∧ pk s p a ≤ hi
  · rw [if_pos hr]
    have ht := tk_pk s p a (by omega)
    obtain ⟨h1, h2, h3⟩ := ht
    dsimp only
    rw [h1]
    subst h2
    rw [pk_at s p h3] at hr
    unfold oneB
    rw [if_neg (by simp), dif_pos h3, if_pos (by simp; exact hr)]
  · rw [if_neg hr]
    dsimp only
    unfold oneB
    cases a with
    | true => simp
    | false =>
      simp only [Bool.false_eq_true, if_false]
      by_cases h : p < s.size
      · rw [pk_at s p h] at hr
        rw [dif_pos h, if_neg (by simp; intro h1; omega)]
      · rw [dif_neg h]

theorem opnd_one (s : ByteArray) (p : Nat) (a : Bool) (hv hn : Int) : ((opnd s p a hv hn).1, (opnd s p a hv hn).2.1) = oneB s p a (fun d => isName d hn || isDig d) := by
  unfold opnd
  split
  · rename_i hr
    dsimp only
    rw [tb_one s p a 48 57 (by omega)]
    unfold oneB
    cases a with
    | true => simp
    | false =>
      simp only [Bool.false_eq_true, if_false]
      by_cases h : p < s.size
      · rw [pk_at s p h] at hr
        rw [dif_pos h, dif_pos h]
        simp [isName, isDig, hr.1, hr.2]
      · rw [dif_neg h, dif_neg h]
  · rename_i hr
    dsimp only
    rw [tb_one s p a 97 _ (by omega)]
    unfold oneB
    cases a with
    | true => simp
    | false =>
      simp only [Bool.false_eq_true, if_false]
      by_cases h : p < s.size
      · rw [pk_at s p h] at hr
        rw [dif_pos h, dif_pos h]
        have e : (decide (97 ≤ (s[p].toNat : Int)) && decide ((s[p].toNat : Int) ≤ 97 + hn - 1)) = (isName s[p].toNat hn || isDig s[p].toNat) := by
          have hd : isDig s[p].toNat = false := by simp [isDig]; omega
          rw [hd, Bool.or_false, isName]
          congr 1
          rw [decide_eq_decide]
          omega
        simp only [e]
      · rw [dif_neg h, dif_neg h]

theorem opn_one (s : ByteArray) (p : Nat) (a : Bool) : ((opn s p a).1, (opn s p a).2.1) = oneB s p a isOp := by
  unfold opn
  split
  · rename_i hr
    have ht := tk_pk s p a (by intro e; rw [e] at hr; simp [isOp] at hr)
    obtain ⟨h1, h2, h3⟩ := ht
    dsimp only
    rw [h1]
    subst h2
    rw [pk_at s p h3] at hr
    unfold oneB
    rw [if_neg (by simp), dif_pos h3, if_pos hr]
  · rename_i hr
    dsimp only
    unfold oneB
    cases a with
    | true => simp
    | false =>
      simp only [Bool.false_eq_true, if_false]
      by_cases h : p < s.size
      · rw [pk_at s p h] at hr
        rw [dif_pos h, if_neg hr]
      · rw [dif_neg h]

section
variable {s : ByteArray} {n : Int}
theorem ex_of {x : UInt8} {p : Nat} {a : Bool} {q : Nat} {b : Bool} {P : Int → Bool} (hx : plainB x) (hP : ∀ c, 0 ≤ c → c ≤ 255 → stn x.toNat c n = P c) (h : (q, b) = oneB s p a P) : Ex s n [x] p a q b := by
  have := Ex.one (s := s) (n := n) hx hP (p := p) (a := a)
  rw [← h] at this
  exact this

theorem ex_tk {x : UInt8} {p : Nat} {a : Bool} (hx : plainB x) (h2 : ∀ c, stn x.toNat c n = (c == (x.toNat : Int))) : Ex s n [x] p a (tk s p a x.toNat).1 (tk s p a x.toNat).2 :=
  ex_of hx (fun c _ _ => h2 c) (tk_one s p a _)
theorem stn_v (c : Int) : stn 118 c n = (decide (97 ≤ c) && decide (c ≤ 97 + n - 1)) := by
  have e : stn 118 c n = isName c n := by simp [stn]
  rw [e, isName]
  congr 1
  rw [decide_eq_decide]
  omega
theorem stn_x (c : Int) : stn 120 c n = (isName c n || isDig c) := by simp [stn]
theorem stn_o (c : Int) : stn 111 c n = isOp c := by simp [stn]
theorem stn_W (c : Int) : stn 87 c n = (decide (49 ≤ c) && decide (c ≤ 56)) := by simp [stn]
theorem stn_k (c : Int) : stn 107 c n = (c == 112 || c == 115) := by simp [stn]
theorem stn_K (c : Int) : stn 75 c n = (c == 112 || c == 115) := by simp [stn]

theorem ex_var {p : Nat} {a : Bool} : Ex s n [118] p a (tb s p a 97 (97 + n - 1)).1 (tb s p a 97 (97 + n - 1)).2.1 :=
  ex_of (by simp [plainB]) (fun c _ _ => stn_v c) (tb_one s p a 97 (97 + n - 1) (by omega))
theorem ex_opnd {p : Nat} {a : Bool} {hv : Int} : Ex s n [120] p a (opnd s p a hv n).1 (opnd s p a hv n).2.1 :=
  ex_of (by simp [plainB]) (fun c _ _ => stn_x c) (opnd_one s p a hv n)
theorem ex_opn {p : Nat} {a : Bool} : Ex s n [111] p a (opn s p a).1 (opn s p a).2.1 :=
  ex_of (by simp [plainB]) (fun c _ _ => stn_o c) (opn_one s p a)
theorem ex_wid {p : Nat} {a : Bool} : Ex s n [87] p a (tb s p a 49 56).1 (tb s p a 49 56).2.1 :=
  ex_of (by simp [plainB]) (fun c _ _ => stn_W c) (tb_one s p a 49 56 (by omega))
theorem ex_sign {x : UInt8} {p : Nat} {a : Bool} (h : x = 47 ∨ x = 58 ∨ x = 40 ∨ x = 41) : Ex s n [x] p a (tk s p a x.toNat).1 (tk s p a x.toNat).2 := by
  rcases h with rfl | rfl | rfl | rfl
  all_goals
    refine ex_tk (by simp [plainB]) (fun c => ?_)
    simp [stn]

/-- Letters that may stand: the reader counts them, the form passes over what is left. -/
theorem Sh_letters {x : UInt8} (hx : plainB x) (φ : List UInt8) : ∀ (m p : Nat), stn x.toNat 112 n = false → stn x.toNat 115 n = false → Sh s n p (List.replicate m 75 ++ x :: φ) = Sh s n (p + cnt s false m p) (x :: φ)
  | 0, p, _, _ => by simp [cnt]
  | m + 1, p, h1, h2 => by
    rw [List.replicate_succ, List.cons_append, cnt]
    by_cases hp : p < s.size
    · have hk : nxtL s[p].toNat n (75 :: (List.replicate m 75 ++ x :: φ)) = if ((s[p].toNat : Int) == 112 || (s[p].toNat : Int) == 115) = true then some (List.replicate m 75 ++ x :: φ) else nxtL s[p].toNat n (List.replicate m 75 ++ x :: φ) := by
        rw [nxtL, if_neg (by decide)]
        show (if stn 75 _ n = true then _ else _) = _
        rw [stn_K]
        simp
      by_cases hl : pk s p false = 112 ∨ pk s p false = 115
      · rw [if_pos hl, Sh_step hp, hk]
        rw [pk_at s p hp] at hl
        rw [if_pos (by simpa using hl)]
        show Sh s n (p + 1) _ = _
        rw [Sh_letters hx φ m (p + 1) h1 h2]
        congr 1
        omega
      · rw [if_neg hl, Sh_step hp, hk]
        have hl' := hl
        rw [pk_at s p hp] at hl'
        rw [if_neg (by simpa using hl'), ← Sh_step hp, Sh_letters hx φ m p h1 h2]
        have e : cnt s false m p = 0 := by
          cases m with
          | zero => rfl
          | succ m => rw [cnt, if_neg hl]
        rw [e]
    · have hl : ¬ (pk s p false = 112 ∨ pk s p false = 115) := by rw [pk_end s p hp]; omega
      rw [if_neg hl, Nat.add_zero, Sh_end hp, Sh_end hp, if_neg (cons_ne hx φ), if_neg (by
        rintro (e | e)
        · simp at e
        · simp at e)]

theorem cnt_bad (m p : Nat) : cnt s true m p = 0 := by
  cases m with
  | zero => rfl
  | succ m => rw [cnt, if_neg (by rw [pk_bad]; omega)]

theorem ex_words {p : Nat} {a : Bool} : Ex s n (List.replicate 16 75 ++ [58]) p a (tk s (p + cnt s a 16 p) a 58).1 (tk s (p + cnt s a 16 p) a 58).2 := by
  cases a with
  | true => rw [cnt_bad, tk_bad]; exact ⟨fun _ => ⟨rfl, rfl⟩, fun e => by cases e⟩
  | false =>
    refine ⟨fun e => (by cases e), fun _ φ => ?_⟩
    rw [List.append_assoc, List.cons_append, List.nil_append, Sh_letters (by simp [plainB]) φ 16 p (by simp [stn]) (by simp [stn])]
    exact (ex_sign (s := s) (n := n) (x := 58) (p := p + cnt s false 16 p) (a := false) (by simp)).2 rfl φ

theorem ex_vars {p : Nat} {a : Bool} : Ex s n (107 :: (List.replicate 7 75 ++ [47])) p a (tk s (p + cnt s a 8 p) (a || cnt s a 8 p == 0) 47).1 (tk s (p + cnt s a 8 p) (a || cnt s a 8 p == 0) 47).2 := by
  cases a with
  | true => rw [cnt_bad, Bool.true_or, tk_bad]; exact ⟨fun _ => ⟨rfl, rfl⟩, fun e => by cases e⟩
  | false =>
    refine ⟨fun e => (by cases e), fun _ φ => ?_⟩
    rw [List.cons_append, List.append_assoc, List.cons_append, List.nil_append]
    have hk : plainB 107 := by simp [plainB]
    by_cases hl : pk s p false = 112 ∨ pk s p false = 115
    · have ht := tk_pk s p false (by omega)
      have hp := ht.2.2
      have e : cnt s false 8 p = cnt s false 7 (p + 1) + 1 := by rw [cnt, if_pos hl]
      rw [pk_at s p hp] at hl
      rw [Sh_step hp, nxt_plain hk]
      have e2 : stn (107 : UInt8).toNat s[p].toNat n = true := by show stn 107 _ n = true; rw [stn_k]; simpa using hl
      rw [if_pos e2]
      show Sh s n (p + 1) _ = _
      rw [Sh_letters (by simp [plainB]) φ 7 (p + 1) (by simp [stn]) (by simp [stn]), e]
      have e3 : (false || cnt s false 7 (p + 1) + 1 == 0) = false := by simp
      rw [e3, show p + (cnt s false 7 (p + 1) + 1) = p + 1 + cnt s false 7 (p + 1) from by omega]
      exact (ex_sign (s := s) (n := n) (x := 47) (a := false) (by simp)).2 rfl φ
    · have e : cnt s false 8 p = 0 := by rw [cnt, if_neg hl]
      rw [e]
      show _ = if (tk s p true 47).2 = true then some (tk s p true 47).1 else Sh s n (tk s p true 47).1 φ
      rw [tk_bad]
      show _ = some p
      by_cases hp : p < s.size
      · rw [pk_at s p hp] at hl
        have e2 : ¬ stn (107 : UInt8).toNat s[p].toNat n = true := by show ¬ stn 107 _ n = true; rw [stn_k]; simpa using hl
        rw [Sh_step hp, nxt_plain hk, if_neg e2]
      · rw [Sh_end hp, if_neg (cons_ne hk _)]

/-- The head, whatever the number of variables. -/
theorem ex_head : Ex s n ([87] ++ ((107 :: (List.replicate 7 75 ++ [47])) ++ (List.replicate 16 75 ++ [58]))) 0 false (hdr s).1 (hdr s).2.1 :=
  Ex.seq ex_wid (Ex.seq ex_vars ex_words)

theorem tk_good {p : Nat} {a : Bool} {c : Int} (h : (tk s p a c).2 = false) : a = false ∧ p < s.size ∧ pk s p false = c ∧ (tk s p a c).1 = p + 1 := by
  unfold tk at *
  cases a with
  | true => simp at h
  | false =>
    simp only [Bool.false_eq_true, if_false] at *
    by_cases hc : pk s p false = c ∧ p < s.size
    · rw [if_pos hc]
      exact ⟨trivial, hc.2, hc.1, rfl⟩
    · rw [if_neg hc] at h
      cases h

theorem cnt_letter : ∀ (m p j : Nat), j < cnt s false m p → pk s (p + j) false = 112 ∨ pk s (p + j) false = 115
  | 0, p, j, h => by simp [cnt] at h
  | m + 1, p, j, h => by
    rw [cnt] at h
    by_cases hl : pk s p false = 112 ∨ pk s p false = 115
    · rw [if_pos hl] at h
      cases j with
      | zero => exact hl
      | succ j =>
        have := cnt_letter m (p + 1) j (by omega)
        rw [show p + (j + 1) = p + 1 + j from by omega]
        exact this
    · rw [if_neg hl] at h
      omega

theorem fnd_skip (c : Int) (f : Nat) : ∀ (m i : Nat), (∀ j, j < m → pk s (i + j) false ≠ c ∧ i + j < s.size) → fnd s c (f + m) i = fnd s c f (i + m)
  | 0, i, _ => rfl
  | m + 1, i, h => by
    have h0 := h 0 (by omega)
    rw [Nat.add_zero] at h0
    have hp : i < s.size := h0.2
    rw [pk_at s i hp] at h0
    rw [show f + (m + 1) = (f + m) + 1 from rfl, fnd, dif_pos hp, if_neg h0.1]
    rw [fnd_skip c f m (i + 1) (fun j hj => by
      have := h (j + 1) (by omega)
      rw [show i + (j + 1) = i + 1 + j from by omega] at this
      exact this)]
    congr 1
    omega

/-- Behind a good head the document's number of variables is the reader's. -/
theorem nvar_head (h : (hdr s).2.1 = false) : nvar s = (hdr s).2.2.2.1 := by
  unfold hdr at *
  dsimp only at *
  obtain ⟨h1, _, _, _⟩ := tk_good h
  obtain ⟨h2, h3, h4, _⟩ := tk_good h1
  simp only [Bool.or_eq_false_iff] at h2
  obtain ⟨h5, h6⟩ := h2
  have ht : (tb s 0 false 49 56).1 = 1 ∧ pk s 0 false ≠ 47 ∧ 0 < s.size := by
    unfold tb at *
    by_cases hr : 49 ≤ pk s 0 false ∧ pk s 0 false ≤ 56
    · rw [if_pos hr] at h5 ⊢
      dsimp only at *
      have := tk_good h5
      exact ⟨this.2.2.2, by omega, this.2.1⟩
    · rw [if_neg hr] at h5
      cases h5
  rw [h5] at h3 h4 h6 ⊢
  rw [ht.1] at h3 h4 h6 ⊢
  generalize hn : cnt s false 8 1 = n at *
  have hl : ∀ j, j < n + 1 → pk s (0 + j) false ≠ 47 ∧ 0 + j < s.size := by
    intro j hj
    cases j with
    | zero => exact ⟨ht.2.1, ht.2.2⟩
    | succ j =>
      have := cnt_letter (s := s) 8 1 j (by omega)
      rw [show 0 + (j + 1) = 1 + j from by omega]
      exact ⟨by omega, by omega⟩
  have hf := fnd_skip (s := s) 47 (s.size - (n + 1)) (n + 1) 0 hl
  rw [show s.size - (n + 1) + (n + 1) = s.size from by omega] at hf
  obtain ⟨f, hf2⟩ : ∃ f, s.size - (n + 1) = f + 1 := ⟨s.size - (n + 1) - 1, by omega⟩
  unfold nvar
  rw [hf, hf2, show 0 + (n + 1) = 1 + n from by omega, fnd, dif_pos h3]
  rw [pk_at s (1 + n) h3] at h4
  rw [if_pos h4]
  omega

/-- Where no command begins the body is over. -/
theorem opB_body (c : Int) : opB 66 c = isCmd c := by
  unfold opB isCmd
  by_cases h1 : c = 61
  · simp [h1]
  · by_cases h2 : c = 108
    · simp [h2]
    · by_cases h3 : c = 115
      · simp [h3]
      · by_cases h4 : c = 63
        · simp [h4]
        · by_cases h5 : c = 33
          · simp [h5]
          · by_cases h6 : c = 122
            · simp [h6]
            · by_cases h7 : c = 106
              · simp [h7]
              · by_cases h8 : c = 104
                · simp [h8]
                · simp [h1, h2, h3, h4, h5, h6, h7, h8]

theorem Sh_skip {p : Nat} {x : UInt8} {φ : List UInt8} (hx : plainB x) (h : isCmd (pk s p false) = false) : Sh s n p (66 :: x :: φ) = Sh s n p (x :: φ) := by
  by_cases hp : p < s.size
  · rw [pk_at s p hp] at h
    rw [Sh_step hp, Sh_step hp]
    have e : nxtL s[p].toNat n (66 :: x :: φ) = nxtL s[p].toNat n (x :: φ) := by
      conv => lhs; rw [nxtL]
      rw [if_pos (by simp)]
      have e2 : ¬ opB ((66 : UInt8).toNat : Int) s[p].toNat = true := by
        show ¬ opB 66 _ = true
        rw [opB_body, h]; simp
      rw [if_neg e2, if_neg (by decide)]
    rw [e]
  · rw [Sh_end hp, Sh_end hp, if_neg (cons_ne hx φ), if_neg (by simp)]

theorem Sh_last {p : Nat} (h : isCmd (pk s p false) = false) : Sh s n p [66] = if p < s.size then some p else none := by
  by_cases hp : p < s.size
  · rw [pk_at s p hp] at h
    rw [Sh_step hp, if_pos hp]
    have e : nxtL s[p].toNat n [66] = none := by
      rw [nxtL, if_pos (by simp)]
      have e2 : ¬ opB ((66 : UInt8).toNat : Int) s[p].toNat = true := by
        show ¬ opB 66 _ = true
        rw [opB_body, h]; simp
      rw [if_neg e2, if_neg (by decide)]
      rfl
    rw [e]
  · rw [Sh_end hp, if_neg hp, if_pos (.inl rfl)]

/-- A command's first byte. -/
theorem Sh_open {p : Nat} {φ : List UInt8} (h : isCmd (pk s p false) = true) : Sh s n p (66 :: φ) = Sh s n (p + 1) (opS (pk s p false) ++ 66 :: φ) := by
  have hp : p < s.size := (isCmd_pk h).2
  rw [pk_at s p hp] at h ⊢
  rw [Sh_step hp]
  have e : nxtL s[p].toNat n (66 :: φ) = some (opS s[p].toNat ++ 66 :: φ) := by
    rw [nxtL, if_pos (by simp)]
    have e2 : opB ((66 : UInt8).toNat : Int) s[p].toNat = true := by
      show opB 66 _ = true
      rw [opB_body, h]
    rw [if_pos e2, if_neg (by decide)]
  rw [e]
end
end Go.Proofs.YtnkbfdbbcaffmaaGreatDoor
