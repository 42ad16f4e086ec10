/-
  Lists of numbers in memory.
-/
import Derived.Test.YtfolokhilkffcaaInp
namespace Go.Proofs.Ytfolokhilkffcaa
open Go.RowKit

/-- A list of numbers, wherever it lies. -/
def LiesO (w : World) (ao : Option Addr) (zs : List Int) : Prop := zs = [] ∨ ∃ ab off, ao = some ⟨ab, off, none⟩ ∧ Lies w ⟨ab, off, none⟩ zs ∧ ab < w.heap.size

theorem LiesO.grown {w w' : World} {ao : Option Addr} {zs : List Int} (h : LiesO w ao zs) (hg : w.grownBy w' none) : LiesO w' ao zs := by
  rcases h with h | ⟨ab, off, e, hL, hlt⟩
  · exact .inl h
  · exact .inr ⟨ab, off, e, hL.grown hg (by simp), Nat.lt_of_lt_of_le hlt hg.size⟩

/-- A list of numbers below block b. -/
def LiesB (w : World) (b : Nat) (ao : Option Addr) (zs : List Int) : Prop := zs = [] ∨ ∃ ab off, ao = some ⟨ab, off, none⟩ ∧ Lies w ⟨ab, off, none⟩ zs ∧ ab < b
theorem LiesB.toO {w : World} {b : Nat} {ao : Option Addr} {zs : List Int} (h : LiesB w b ao zs) (hb : b ≤ w.heap.size) : LiesO w ao zs := by
  rcases h with h | ⟨ab, off, e, hL, hlt⟩
  · exact .inl h
  · exact .inr ⟨ab, off, e, hL, by omega⟩
theorem Lies.below {w w' : World} {ab off b : Nat} {zs : List Int} (h : Lies w ⟨ab, off, none⟩ zs) (hB : Below b w w') (hab : ab < b) : Lies w' ⟨ab, off, none⟩ zs := fun j v hv => by
  have h' := h j v hv
  rw [Addr.add_lit] at h' ⊢
  rw [hB.cell (p := ⟨ab, off + j, none⟩) hab]; exact h'
theorem LiesB.below {w w' : World} {b B : Nat} {ao : Option Addr} {zs : List Int} (h : LiesB w b ao zs) (hB : Below B w w') (hb : b ≤ B) : LiesB w' b ao zs := by
  rcases h with h | ⟨ab, off, e, hL, hlt⟩
  · exact .inl h
  · exact .inr ⟨ab, off, e, hL.below hB (by omega), hlt⟩
theorem below_gb {w w' : World} (h : Below w.heap.size w w') : w.grownBy w' none := ⟨h.os, h.tape, h.output, h.size, fun k hk _ => h.block k hk⟩
theorem At.below {w w' : World} {b B : Nat} {t : TypeId} {cs : Array Value} (h : At w b t cs) (hB : Below B w w') (hb : b < B) : At w' b t cs := by
  unfold At at *
  rw [hB.block b hb]; exact h
end Go.Proofs.Ytfolokhilkffcaa
