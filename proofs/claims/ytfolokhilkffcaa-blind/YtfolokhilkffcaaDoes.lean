/-
  A command and the text that it stands at.
-/
import Derived.Test.YtfolokhilkffcaaForm
import Derived.Test.YtfolokhilkffcaaMach3
namespace Go.Proofs.Ytfolokhilkffcaa
open Go.RowKit

/-- The value of an operand's byte. -/
def vb (N : Int) (σ : List Int) (c : Int) : Int := if 97 ≤ c then σ.getD (c - 97).toNat 0 else (c - 48) % N

/-- How deep a text leads. -/
def dpt : List UInt8 → Int
  | [] => 0
  | c :: l => (if (c.toNat : Int) = 40 then 1 else if (c.toNat : Int) = 41 then -1 else 0) + dpt l
theorem dpt_append : ∀ a b, dpt (a ++ b) = dpt a + dpt b
  | [], b => by simp [dpt]
  | c :: l, b => by simp only [List.cons_append, dpt, dpt_append l b]; omega
theorem dpt_le : ∀ a, dpt a ≤ a.length
  | [] => by simp [dpt]
  | c :: l => by
    have := dpt_le l
    simp only [dpt, List.length_cons]
    split
    · omega
    · split <;> omega
/-- Each bracket has its fellow. -/
def Bal (A : List UInt8) : Prop := dpt A = 0 ∧ ∀ k, 0 ≤ dpt (A.take k)

theorem byte_list (t : ByteArray) (k : Nat) (h : k < t.size) : t.data.toList[k]? = some t[k] := by
  rw [List.getElem?_eq_getElem (by simpa using h)]; rfl
theorem byte_eq {t : ByteArray} {k : Nat} (h : k < t.size) {c : UInt8} (e : t.data.toList[k]? = some c) : t[k] = c := by
  rw [byte_list t k h] at e; exact Option.some.inj e
theorem size_list (t : ByteArray) : t.size = t.data.toList.length := by simp

/-- An operand's byte and what was read of it. -/
def OpRel (V : Int) (n : Nat) (c : UInt8) (nm : Bool) (v : Int) : Prop :=
  (nm = true ∧ (c.toNat : Int) = 97 + v ∧ 0 ≤ v ∧ v < n) ∨ (nm = false ∧ 48 ≤ (c.toNat : Int) ∧ (c.toNat : Int) ≤ 57 ∧ v = ((c.toNat : Int) - 48) % V)

theorem OpRel.low {V : Int} {n : Nat} {c : UInt8} {nm : Bool} {v : Int} (h : OpRel V n c nm v) : 48 ≤ (c.toNat : Int) := by
  rcases h with ⟨_, h1, h2, _⟩ | ⟨_, h1, _⟩ <;> omega
theorem OpRel.high {V : Int} {n : Nat} {c : UInt8} {nm : Bool} {v : Int} (h : OpRel V n c nm v) {σ : List Int} (hn : n ≤ σ.length) : 97 ≤ (c.toNat : Int) → ((c.toNat : Int) - 97).toNat < σ.length := by
  intro hc
  rcases h with ⟨_, h1, h2, h3⟩ | ⟨_, h1, h2, _⟩ <;> omega
theorem OpRel.val {V : Int} {n : Nat} {c : UInt8} {nm : Bool} {v : Int} (h : OpRel V n c nm v) (hV : 1 ≤ V) (σ : List Int) : vb V σ c.toNat = vl σ nm v.toNat := by
  unfold vb vl
  rcases h with ⟨rfl, h1, h2, h3⟩ | ⟨rfl, h1, h2, h3⟩
  · rw [if_pos (by omega), if_pos rfl, h1, show (97 + v - 97) = v from by omega]
  · have : 0 ≤ v := by rw [h3]; exact Int.emod_nonneg _ (by omega)
    rw [if_neg (by omega), if_neg (by simp), ← h3]; omega

/-- A command, the text that it stands at, the texts that follow. -/
def Does (V : Int) (n : Nat) (c : Cm) (t a b : List UInt8) : Prop :=
  (∃ (v x o y : UInt8) (r : List UInt8), t = 61 :: v :: x :: o :: y :: r ∧ a = r ∧ c.kind = 61 ∧ (v.toNat : Int) = 97 + c.var ∧ OpRel V n x c.xn c.xv ∧ (o.toNat : Int) = c.op ∧ OpRel V n y c.yn c.yv) ∨
  (∃ (v x : UInt8) (r : List UInt8), t = 108 :: v :: x :: r ∧ a = r ∧ c.kind = 108 ∧ (v.toNat : Int) = 97 + c.var ∧ OpRel V n x c.xn c.xv) ∨
  (∃ (x y : UInt8) (r : List UInt8), t = 115 :: x :: y :: r ∧ a = r ∧ c.kind = 115 ∧ OpRel V n x c.xn c.xv ∧ OpRel V n y c.yn c.yv) ∨
  (∃ (x : UInt8) (A B r : List UInt8), t = 63 :: x :: 40 :: (A ++ 41 :: 40 :: (B ++ 41 :: r)) ∧ a = A ++ r ∧ b = B ++ r ∧ c.kind = 63 ∧ OpRel V n x c.xn c.xv ∧ Bal A ∧ Bal B) ∨
  (∃ (x : UInt8) (A r : List UInt8), t = 33 :: x :: 40 :: (A ++ 41 :: r) ∧ a = A ++ (33 :: x :: 40 :: (A ++ 41 :: r)) ∧ b = r ∧ c.kind = 33 ∧ OpRel V n x c.xn c.xv ∧ Bal A)
section
variable {V : Int} {n : Nat} {c : Cm}
theorem Does.set (v x o y : UInt8) (r tn : List UInt8) (h1 : c.kind = 61) (h2 : (v.toNat : Int) = 97 + c.var) (h3 : OpRel V n x c.xn c.xv) (h4 : (o.toNat : Int) = c.op) (h5 : OpRel V n y c.yn c.yv) : Does V n c (61 :: v :: x :: o :: y :: r) r tn :=
  .inl ⟨v, x, o, y, r, rfl, rfl, h1, h2, h3, h4, h5⟩
theorem Does.load (v x : UInt8) (r tn : List UInt8) (h1 : c.kind = 108) (h2 : (v.toNat : Int) = 97 + c.var) (h3 : OpRel V n x c.xn c.xv) : Does V n c (108 :: v :: x :: r) r tn :=
  .inr (.inl ⟨v, x, r, rfl, rfl, h1, h2, h3⟩)
theorem Does.store (x y : UInt8) (r tn : List UInt8) (h1 : c.kind = 115) (h2 : OpRel V n x c.xn c.xv) (h3 : OpRel V n y c.yn c.yv) : Does V n c (115 :: x :: y :: r) r tn :=
  .inr (.inr (.inl ⟨x, y, r, rfl, rfl, h1, h2, h3⟩))
theorem Does.branch (x : UInt8) (A B r : List UInt8) (h1 : c.kind = 63) (h2 : OpRel V n x c.xn c.xv) (h3 : Bal A) (h4 : Bal B) : Does V n c (63 :: x :: 40 :: (A ++ 41 :: 40 :: (B ++ 41 :: r))) (A ++ r) (B ++ r) :=
  .inr (.inr (.inr (.inl ⟨x, A, B, r, rfl, rfl, rfl, h1, h2, h3, h4⟩)))
theorem Does.loop (x : UInt8) (A r : List UInt8) (h1 : c.kind = 33) (h2 : OpRel V n x c.xn c.xv) (h3 : Bal A) : Does V n c (33 :: x :: 40 :: (A ++ 41 :: r)) (A ++ (33 :: x :: 40 :: (A ++ 41 :: r))) r :=
  .inr (.inr (.inr (.inr ⟨x, A, r, rfl, rfl, rfl, h1, h2, h3⟩)))
end
end Go.Proofs.Ytfolokhilkffcaa
