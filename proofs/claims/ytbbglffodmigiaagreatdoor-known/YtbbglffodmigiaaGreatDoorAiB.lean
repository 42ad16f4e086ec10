/-
  The interpreter's memory against the model's: what it means that they agree.
-/
import Derived.Test.YtbbglffodmigiaaGreatDoorAiA
import Derived.Below
namespace Go.Ai
open Go.RowKit

theorem T.get_emp {α : Type} : ∀ (n k : Nat), T.get n (T.emp : T α) k = none
  | 0, _ => rfl
  | _ + 1, 0 => rfl
  | n + 1, k + 1 => by
    have h : T.orEmp (none : Option (T α)) = T.emp := rfl
    simp only [T.get]
    show (if k % 2 = 0 then T.get n (T.orEmp none) (k / 2) else T.get n (T.orEmp none) (k / 2)) = none
    rw [h, T.get_emp n]
    simp

theorem T.get_set_ne {α : Type} (x : α) : ∀ (n : Nat) (t : T α) (k j : Nat), j ≠ k → T.get n (T.set n t k x) j = T.get n t j
  | 0, _, _, _, _ => rfl
  | n + 1, t, 0, 0, h => absurd rfl h
  | n + 1, t, 0, j + 1, _ => rfl
  | n + 1, t, k + 1, 0, _ => by
    simp only [T.set]
    split <;> rfl
  | n + 1, t, k + 1, j + 1, h => by
    simp only [T.set]
    by_cases hk : k % 2 = 0 <;> by_cases hj : j % 2 = 0 <;> simp only [hk, hj, if_true, if_false, T.get]
    · exact T.get_set_ne x n _ _ _ (by omega)
    · exact T.get_set_ne x n _ _ _ (by omega)

theorem T.get_set_self {α : Type} {x y : α} : ∀ (n : Nat) (t : T α) (k : Nat), T.get n (T.set n t k x) k = some y → y = x
  | 0, _, _, h => by simp [T.get] at h
  | n + 1, t, 0, h => by simp [T.set, T.get] at h; exact h.symm
  | n + 1, t, k + 1, h => by
    simp only [T.set] at h
    by_cases hk : k % 2 = 0 <;> simp only [hk, if_true, if_false, T.get] at h <;> exact T.get_set_self n _ _ h

theorem T.get_set_of {α : Type} {x y : α} : ∀ (n : Nat) (t : T α) (k : Nat), T.get n t k = some y → T.get n (T.set n t k x) k = some x
  | 0, _, _, h => by simp [T.get] at h
  | n + 1, t, 0, _ => rfl
  | n + 1, t, k + 1, h => by
    simp only [T.get] at h
    simp only [T.set]
    by_cases hk : k % 2 = 0 <;> simp only [hk, if_true, if_false, T.get] at h ⊢ <;> exact T.get_set_of n _ _ h

theorem T.get_set_lt {α : Type} {x : α} : ∀ (n : Nat) (t : T α) (k : Nat), k + 1 < 2 ^ n → T.get n (T.set n t k x) k = some x
  | 0, _, _, h => by simp at h
  | n + 1, t, 0, _ => rfl
  | n + 1, t, k + 1, h => by
    simp only [T.set]
    have : k / 2 + 1 < 2 ^ n := by rw [Nat.pow_succ] at h; omega
    by_cases hk : k % 2 = 0 <;> simp only [hk, if_true, if_false, T.get] <;> exact T.get_set_lt n _ _ this

theorem top_dep {k : Nat} (h : k ≤ top) : k + 1 < 2 ^ dep := by
  unfold top at h
  unfold dep
  omega

structure G where
  b : Nat
  base : Nat
  csize : Nat

abbrev Al := Nat → Option G

/-- n: the block numbers that are given; al: where those that live lie -/
def CRel (n : Nat) (al : Al) (v c : Value) : Prop :=
  match v with
  | .bool b => c = .bool b
  | .int k i => c = .int k i
  | .string s => c = .string s
  | .pointer none => c = .pointer none
  | .pointer (some ⟨id, o, none⟩) => id < n ∧ ∃ a, c = .pointer (some a) ∧ ∀ g, al id = some g → a = ⟨g.b, g.base + o, none⟩
  | .slice none len cap => len = 0 ∧ cap = 0 ∧ c = .slice none 0 0
  | .slice (some ⟨id, o, none⟩) len es => id < n ∧ ∃ a cap, c = .slice (some a) len cap ∧ len ≤ cap ∧ ∀ g, al id = some g → a = ⟨g.b, g.base + o, none⟩ ∧ g.base + o + cap * es ≤ g.csize
  | .slice (some ⟨_, _, some _⟩) len _ => len = 0 ∧ ∃ a cap, c = .slice (some a) 0 cap
  | _ => False

def PW {A B : Type} (R : A → B → Prop) : List A → List B → Prop
  | [], [] => True
  | x :: xs, y :: ys => R x y ∧ PW R xs ys
  | _, _ => False

def ARel (n : Nat) (al : Al) (v c : Value) : Prop :=
  match v with
  | .agg cs => ∃ ds, c = .agg ds ∧ PW (CRel n al) cs.toList ds.toList
  | v => CRel n al v c

def VRel (n : Nat) (al : Al) (v c : Value) : Prop :=
  match v with
  | .tuple vs => ∃ ds, c = .tuple ds ∧ PW (ARel n al) vs.toList ds.toList
  | v => ARel n al v c

theorem PW.mono {A B : Type} {R S : A → B → Prop} (h : ∀ x y, R x y → S x y) : ∀ {xs : List A} {ys : List B}, PW R xs ys → PW S xs ys
  | [], [], _ => trivial
  | _ :: _, _ :: _, ⟨a, b⟩ => ⟨h _ _ a, PW.mono h b⟩
  | [], _ :: _, h => h.elim
  | _ :: _, [], h => h.elim

theorem PW.length {A B : Type} {R : A → B → Prop} : ∀ {xs : List A} {ys : List B}, PW R xs ys → xs.length = ys.length
  | [], [], _ => rfl
  | _ :: _, _ :: _, ⟨_, b⟩ => by simp [PW.length b]
  | [], _ :: _, h => h.elim
  | _ :: _, [], h => h.elim

theorem PW.get {A B : Type} {R : A → B → Prop} : ∀ {xs : List A} {ys : List B}, PW R xs ys → ∀ {i : Nat} {x : A}, xs[i]? = some x → ∃ y, ys[i]? = some y ∧ R x y
  | [], [], _, i, x, h => by simp at h
  | x :: xs, y :: ys, ⟨a, b⟩, 0, x', h => by simp at h; subst h; exact ⟨y, rfl, a⟩
  | x :: xs, y :: ys, ⟨a, b⟩, i + 1, x', h => by simp at h; simpa using PW.get b h
  | [], _ :: _, h, _, _, _ => h.elim
  | _ :: _, [], h, _, _, _ => h.elim

theorem PW.append {A B : Type} {R : A → B → Prop} : ∀ {xs : List A} {ys : List B} {xs' : List A} {ys' : List B}, PW R xs ys → PW R xs' ys' → PW R (xs ++ xs') (ys ++ ys')
  | [], [], _, _, _, h => h
  | _ :: _, _ :: _, _, _, ⟨a, b⟩, h => ⟨a, PW.append b h⟩
  | [], _ :: _, _, _, h, _ => h.elim
  | _ :: _, [], _, _, h, _ => h.elim

theorem PW.set {A B : Type} {R : A → B → Prop} {x : A} {y : B} (hxy : R x y) : ∀ {xs : List A} {ys : List B} (i : Nat), PW R xs ys → PW R (xs.set i x) (ys.set i y)
  | [], [], _, _ => trivial
  | _ :: _, _ :: _, 0, ⟨_, b⟩ => ⟨hxy, b⟩
  | _ :: _, _ :: _, i + 1, ⟨a, b⟩ => ⟨a, PW.set hxy i b⟩
  | [], _ :: _, _, h => h.elim
  | _ :: _, [], _, h => h.elim

/-- the later memory: numbers are kept or die -/
def Next (n : Nat) (al al' : Al) : Prop := ∀ id, id < n → al' id = al id ∨ al' id = none

theorem Next.refl (n : Nat) (al : Al) : Next n al al := fun _ _ => .inl rfl
theorem Next.trans {n n' : Nat} {a b c : Al} (h : Next n a b) (hn : n ≤ n') (k : Next n' b c) : Next n a c := fun id hi => by
  rcases k id (by omega) with h1 | h1
  · rcases h id hi with h2 | h2
    · exact .inl (h1.trans h2)
    · exact .inr (h1.trans h2)
  · exact .inr h1

theorem CRel.next {n n' : Nat} {al al' : Al} (hn : n ≤ n') (hN : Next n al al') {v c : Value} (h : CRel n al v c) : CRel n' al' v c := by
  unfold CRel at *
  split at h <;> try exact h
  · obtain ⟨hi, a, hc, ha⟩ := h
    refine ⟨by omega, a, hc, fun g hg => ?_⟩
    rcases hN _ hi with e | e
    · exact ha g (e ▸ hg)
    · rw [e] at hg; cases hg
  · obtain ⟨hi, a, cap, hc, hl, ha⟩ := h
    refine ⟨by omega, a, cap, hc, hl, fun g hg => ?_⟩
    rcases hN _ hi with e | e
    · exact ha g (e ▸ hg)
    · rw [e] at hg; cases hg

theorem ARel.next {n n' : Nat} {al al' : Al} (hn : n ≤ n') (hN : Next n al al') {v c : Value} (h : ARel n al v c) : ARel n' al' v c := by
  unfold ARel at *
  split at h
  · obtain ⟨ds, hc, hp⟩ := h
    exact ⟨ds, hc, hp.mono fun _ _ => CRel.next hn hN⟩
  · exact CRel.next hn hN h

theorem VRel.next {n n' : Nat} {al al' : Al} (hn : n ≤ n') (hN : Next n al al') {v c : Value} (h : VRel n al v c) : VRel n' al' v c := by
  unfold VRel at *
  split at h
  · obtain ⟨ds, hc, hp⟩ := h
    exact ⟨ds, hc, hp.mono fun _ _ => ARel.next hn hN⟩
  · exact ARel.next hn hN h

theorem CRel.plain {n : Nat} {al : Al} {v : Value} (h : plainCell v = true) : CRel n al v v := by
  unfold plainCell at h
  split at h <;> first | rfl | exact ⟨rfl, rfl, rfl⟩ | (simp at h)

theorem CRel.plain_eq {n : Nat} {al : Al} {v c : Value} (h : plainCell v = true) (hc : CRel n al v c) : c = v := by
  unfold plainCell at h
  split at h <;> first | exact hc | exact hc.2.2 | (simp at h)

theorem PW.plain {n : Nat} {al : Al} : ∀ {vs : List Value}, vs.all plainCell = true → PW (CRel n al) vs vs
  | [], _ => trivial
  | v :: vs, h => by simp at h; exact ⟨.plain h.1, PW.plain (by simpa using h.2)⟩

theorem PW.plain_eq {n : Nat} {al : Al} : ∀ {vs cs : List Value}, vs.all plainCell = true → PW (CRel n al) vs cs → cs = vs
  | [], [], _, _ => rfl
  | v :: vs, c :: cs, h, ⟨a, b⟩ => by simp at h; rw [a.plain_eq h.1, PW.plain_eq (by simpa using h.2) b]
  | [], _ :: _, _, h => h.elim
  | _ :: _, [], _, h => h.elim

theorem VRel.plain {n : Nat} {al : Al} {v : Value} (h : Ai.plain v = true) : VRel n al v v := by
  unfold Ai.plain at h
  split at h
  · exact ⟨_, rfl, .plain h⟩
  · rename_i hv
    have h2 : CRel n al v v := .plain h
    cases v <;> first | exact h2 | exact absurd rfl (hv _) | (simp [plainCell] at h; done)

theorem VRel.plain_eq {n : Nat} {al : Al} {v c : Value} (h : Ai.plain v = true) (hc : VRel n al v c) : c = v := by
  unfold Ai.plain at h
  split at h
  · obtain ⟨ds, rfl, hp⟩ := hc
    have := hp.plain_eq h
    congr 1
    exact Array.toList_inj.1 this
  · rename_i hv
    cases v <;> first | exact absurd rfl (hv _) | (exact CRel.plain_eq (n := n) (al := al) h hc) | (simp [plainCell] at h; done)

/-- the two memories agree -/
structure HRel (W0 : World) (al : Al) (h : Hp) (w : World) : Prop where
  bel : Below W0.heap.size W0 w
  live : ∀ id g, al id = some g → id < h.nx ∧ W0.heap.size ≤ g.b ∧ ∃ b cs e, blk h id = some b ∧ w.heap[g.b]? = some (.cells cs e (0, 0)) ∧ cs.size = g.csize ∧ g.base + b.size ≤ g.csize ∧
    ∀ o v, b.at o = some v → ∃ c, cs[g.base + o]? = some c ∧ CRel h.nx al v c
  has : ∀ id b, blk h id = some b → ∃ g, al id = some g
  inj : ∀ id id' g g', al id = some g → al id' = some g' → g.b = g'.b → id = id'
  pos : 0 < h.nx
  zero : al 0 = none

/-- the slots -/
def FRel (n : Nat) (al : Al) (g : Nat → Option Value) (tmps : Array Value) : Prop := ∀ t v, g t = some v → t < tmps.size ∧ VRel n al v (tmps.getD t undef)

theorem FRel.next {n n' : Nat} {al al' : Al} (hn : n ≤ n') (hN : Next n al al') {g : Nat → Option Value} {tmps : Array Value} (h : FRel n al g tmps) : FRel n' al' g tmps :=
  fun t v hv => ⟨(h t v hv).1, (h t v hv).2.next hn hN⟩

theorem ev_rel {n : Nat} {al : Al} {g : Nat → Option Value} {a : Act} (h : FRel n al g a.tmps) {x : Operand} {v : Value} (hv : ev g x = some v) : VRel n al v (a.eval x) := by
  cases x with
  | tmp t => exact (h t v hv).2
  | const u =>
    simp only [ev] at hv
    split at hv
    · rename_i hp
      simp at hv
      subst hv
      exact VRel.plain hp
    · cases hv
  | global g => cases hv
  | func f => cases hv

end Go.Ai
