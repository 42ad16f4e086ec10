/-
  Small laws of worlds: a block that holds just these cells ('At'); the frame 'grownBy' (some b): nothing but block b has turned.
-/
import Derived.WalkKit
import Derived.WalkSpells
import Derived.WalkLawsBesides
import Derived.Deep.Draws
namespace Go.Proofs.Ytfolokhilkffcaa
open Go.RowKit

/-- Block b holds just these cells, none of them frozen. -/
def At (w : World) (b : Nat) (t : TypeId) (cs : Array Value) : Prop := w.heap[b]? = some (.cells cs t (0, 0))

section
variable {w w' : World} {b : Nat} {t : TypeId} {cs : Array Value}

theorem At.cell (h : At w b t cs) (j : Nat) : w.cell? ⟨b, j, none⟩ = cs[j]? := by
  unfold At at h; simp [World.cell?, h]
theorem At.frozen (h : At w b t cs) (j : Nat) : w.frozen? ⟨b, j, none⟩ = false := by
  unfold At at h; simp [World.frozen?, h]
theorem At.lt (h : At w b t cs) : b < w.heap.size := by
  unfold At at h
  exact (Array.getElem?_eq_some_iff.1 h).1
theorem At.set (h : At w b t cs) (j : Nat) (v : Value) : At (w.setCell ⟨b, j, none⟩ v) b t (cs.setIfInBounds j v) := by
  unfold At at *
  simp [World.setCell, Array.getElem?_modify, h]
theorem At.other (h : At w b t cs) {a : Addr} (v : Value) (ha : a.block ≠ b) : At (w.setCell a v) b t cs := by
  unfold At at *
  rw [Below.heap_setCell _ _ _ _ (by omega)]; exact h
theorem At.drewN (h : At w b t cs) (n : Nat) : At (w.drewN n) b t cs := h
theorem At.drew (h : At w b t cs) : At w.drew b t cs := h
theorem At.alloc (h : At w b t cs) (o : Obj) : At (w.alloc o) b t cs := by
  have hl := h.lt
  unfold At at *
  rw [Below.heap_alloc _ _ _ hl]; exact h
theorem At.grown (h : At w b t cs) {row : Option Nat} (hg : w.grownBy w' row) (hr : some b ≠ row) : At w' b t cs := by
  have hl := h.lt
  unfold At at *
  rw [hg.block b hl hr]; exact h
theorem At.new (w : World) (t : TypeId) (cs : Array Value) : At (w.alloc (.cells cs t)) w.heap.size t cs := by
  unfold At
  show (w.heap.push _)[w.heap.size]? = _
  simp
end

section
variable {w w1 w2 w3 : World} {row : Option Nat}
theorem gb_refl (w : World) (row : Option Nat) : w.grownBy w row := ⟨rfl, rfl, rfl, Nat.le_refl _, fun _ _ _ => rfl⟩
theorem gb_trans (h : w1.grownBy w2 row) (k : w2.grownBy w3 row) : w1.grownBy w3 row :=
  ⟨k.os.trans h.os, k.tape.trans h.tape, k.output.trans h.output, Nat.le_trans h.size k.size, fun i hi hr => (k.block i (Nat.lt_of_lt_of_le hi h.size) hr).trans (h.block i hi hr)⟩
theorem gb_drewN (h : w1.grownBy w2 row) (n : Nat) : w1.grownBy (w2.drewN n) row := ⟨h.os, h.tape, h.output, h.size, h.block⟩
theorem gb_drew (h : w1.grownBy w2 row) : w1.grownBy w2.drew row := ⟨h.os, h.tape, h.output, h.size, h.block⟩
theorem gb_alloc (h : w1.grownBy w2 row) (o : Obj) : w1.grownBy (w2.alloc o) row :=
  gb_trans h ⟨rfl, rfl, rfl, by simp, fun _ hk _ => Below.heap_alloc _ _ _ hk⟩
theorem gb_set (h : w1.grownBy w2 row) {a : Addr} (v : Value) (ha : some a.block = row ∨ w1.heap.size ≤ a.block) : w1.grownBy (w2.setCell a v) row :=
  ⟨h.os, h.tape, h.output, by simpa [World.setCell] using h.size, fun k hk hr => by
    rw [Below.heap_setCell _ _ _ _ (by rcases ha with ha | ha
                                       · intro e; subst e; exact hr ha
                                       · omega)]
    exact h.block k hk hr⟩
theorem gb_none (h : w1.grownBy w2 none) (row : Option Nat) : w1.grownBy w2 row := ⟨h.os, h.tape, h.output, h.size, fun k hk _ => h.block k hk (by simp)⟩
theorem gb_below {b : Nat} (h : w1.grownBy w2 (some b)) (hb : b ≤ w1.heap.size) : Below b w1 w2 :=
  ⟨h.os, h.tape, h.output, h.size, fun k hk => h.block k (by omega) (by intro e; cases e; omega)⟩
end
end Go.Proofs.Ytfolokhilkffcaa
