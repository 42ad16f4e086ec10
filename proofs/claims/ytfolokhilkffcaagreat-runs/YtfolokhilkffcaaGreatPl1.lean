/-
  The document's run in memory; told, value, test, touch.
-/
import Derived.Test.YtfolokhilkffcaaGreatMach7
namespace Go.Proofs.YtfolokhilkffcaaGreat
open Go.RowKit

def intsL (σ : List Int) : List Value := σ.map fun c => Value.int .i64 c

/-- The play in block b. -/
def Pl (w : World) (b : Nat) (N : Int) (n m : Nat) (st : Int) (ks : ByteArray) (view : Int) (stv snv : Value) (tag steps : Int) (todo : ByteArray) : Prop :=
  At w b 90 #[.int .i64 N, .int .i64 n, .int .i64 m, .int .i64 st, .string ks, .int .i64 view, stv, snv, .int .i64 tag, .int .i64 steps, .string todo, .int .i64 0, .slice none 0 0]
def Sr (w : World) (b : Nat) (stv : Value) (σ : List Int) : Prop := w.ownsRow (b + 1) 3 1 stv σ.length (intsL σ)

section
variable {w w' : World} {b : Nat} {N : Int} {n m : Nat} {st : Int} {ks : ByteArray} {view : Int} {stv snv : Value} {tag steps : Int} {todo : ByteArray} {σ sn : List Int}

theorem Pl.thirteen (h : Pl w b N n m st ks view stv snv tag steps todo) :
    w.cell? ⟨b, 0, none⟩ = some (.int .i64 N) ∧ w.cell? ⟨b, 1, none⟩ = some (.int .i64 n) ∧ w.cell? ⟨b, 2, none⟩ = some (.int .i64 m) ∧ w.cell? ⟨b, 3, none⟩ = some (.int .i64 st) ∧ w.cell? ⟨b, 5, none⟩ = some (.int .i64 view) ∧ w.cell? ⟨b, 6, none⟩ = some stv ∧ w.cell? ⟨b, 7, none⟩ = some snv ∧ w.cell? ⟨b, 8, none⟩ = some (.int .i64 tag) ∧ w.cell? ⟨b, 9, none⟩ = some (.int .i64 steps) ∧ w.cell? ⟨b, 10, none⟩ = some (.string todo) ∧ (∀ j, w.frozen? ⟨b, j, none⟩ = false) := by
  refine ⟨?_, ?_, ?_, ?_, ?_, ?_, ?_, ?_, ?_, ?_, fun j => h.frozen j⟩ <;> (rw [h.cell]; rfl)
theorem Pl.setSeen (h : Pl w b N n m st ks view stv snv tag steps todo) (v : Value) : Pl (w.setCell ⟨b, 7, none⟩ v) b N n m st ks view stv v tag steps todo := by
  have := At.set h 7 v; simpa [Pl] using this
theorem Pl.setTag (h : Pl w b N n m st ks view stv snv tag steps todo) (v : Int) : Pl (w.setCell ⟨b, 8, none⟩ (.int .i64 v)) b N n m st ks view stv snv v steps todo := by
  have := At.set h 8 (.int .i64 v); simpa [Pl] using this
theorem Pl.setSteps (h : Pl w b N n m st ks view stv snv tag steps todo) (v : Int) : Pl (w.setCell ⟨b, 9, none⟩ (.int .i64 v)) b N n m st ks view stv snv tag v todo := by
  have := At.set h 9 (.int .i64 v); simpa [Pl] using this
theorem Pl.setTodo (h : Pl w b N n m st ks view stv snv tag steps todo) (v : ByteArray) : Pl (w.setCell ⟨b, 10, none⟩ (.string v)) b N n m st ks view stv snv tag steps v := by
  have := At.set h 10 (.string v); simpa [Pl] using this
theorem Sr.set (h : Sr w b stv σ) {a : Addr} (v : Value) (ha : a.block ≤ b) : Sr (w.setCell a v) b stv σ := ownsRow_setCell_below h (Nat.lt_succ_of_le ha) v
theorem Sr.form (h : Sr w b stv σ) (hne : σ ≠ []) : ∃ g cap, stv = .slice (some ⟨g, 0, none⟩) σ.length cap ∧ b < g := by
  rcases h.2 with ⟨_, h0⟩ | ⟨g, cap, cur, h', hb, _⟩
  · exact absurd (List.eq_nil_of_length_eq_zero h0) hne
  · exact ⟨g, cap, h', by omega⟩
theorem Sr.cell {g cap : Nat} (h : Sr w b (.slice (some ⟨g, 0, none⟩) σ.length cap) σ) (i : Nat) (hi : i < σ.length) : w.cell? ⟨g, i, none⟩ = some (.int .i64 (σ.getD i 0)) := by
  rw [World.ownsRow.cellAt h i (by omega)]
  simp [intsL, List.getD, hi]
theorem Sr.fz {g cap : Nat} (h : Sr w b (.slice (some ⟨g, 0, none⟩) σ.length cap) σ) (i : Nat) : w.frozen? ⟨g, i, none⟩ = false := World.ownsRow.frozenAt h i
theorem Sr.put {g cap : Nat} (h : Sr w b (.slice (some ⟨g, 0, none⟩) σ.length cap) σ) (i : Nat) (v : Int) : Sr (w.setCell ⟨g, i, none⟩ (.int .i64 v)) b (.slice (some ⟨g, 0, none⟩) σ.length cap) (σ.set i v) := by
  have h2 := (World.ownsRow.stored h i (.int .i64 v)).1
  unfold Sr
  rw [List.length_set]
  have e : intsL (σ.set i v) = (intsL σ).set i (.int .i64 v) := by simp [intsL, List.map_set]
  rw [e]; exact h2
/-- A row of numbers and a row of bytes are two. -/
theorem Sn.putS {g cap : Nat} (hS : Sn w b snv sn) (h : Sr w b (.slice (some ⟨g, 0, none⟩) σ.length cap) σ) (i : Nat) (v : Value) : Sn (w.setCell ⟨g, i, none⟩ v) b snv sn := by
  obtain ⟨h1, h2⟩ := hS
  refine ⟨h1, ?_⟩
  rcases h2 with h2 | ⟨g2, cap2, cur, e1, e2, e3, e4⟩
  · exact .inl h2
  · refine .inr ⟨g2, cap2, cur, e1, e2, ?_, e4⟩
    rw [Below.heap_setCell _ _ _ _ (by
      intro e
      simp at e
      subst e
      rcases h.2 with ⟨h0, _⟩ | ⟨g3, cap3, cur3, h3, _, h4, _⟩
      · cases h0
      · simp at h3
        obtain ⟨rfl, _⟩ := h3
        rw [h4] at e3
        simp at e3)]
    exact e3

theorem pl_post {ao : Option Addr} {cap : Nat} (hP : Pl w b N n m st ks view stv (.slice ao sn.length cap) tag steps todo) (hT : Sr w b stv σ) (hS : Sn w b (.slice ao sn.length cap) sn) (c : Int) (o : Obj) {v' : Value}
    (h1 : w'.ownsRow (b + 1) 5 1 v' (sn.length + 1) (bytesV sn ++ [.int .u8 c])) (h2 : (w.alloc o).grownBy w' (Value.slice ao sn.length cap).ownBlock) :
    Pl w' b N n m st ks view stv (.slice ao sn.length cap) tag steps todo ∧ Sr w' b stv σ ∧ Sn w' b v' (sn ++ [c]) ∧ Below b w w' ∧ ∃ g' cap', v' = .slice (some ⟨g', 0, none⟩) (sn.length + 1) cap' := by
  have hb := At.lt hP
  have hown : ∀ k, (Value.slice ao sn.length cap).ownBlock = some k → b + 1 ≤ k ∧ k < w.heap.size := World.ownsRow.lt hS
  have ne1 : some b ≠ (Value.slice ao sn.length cap).ownBlock := fun e => by have := hown b e.symm; omega
  refine ⟨(At.alloc hP o).grown h2 ne1, ?_, ?_, ?_, ?_⟩
  · obtain ⟨q1, q2⟩ := hT
    refine ⟨q1, ?_⟩
    rcases q2 with q2 | ⟨g, cap2, cur, e1, e2, e3, e4⟩
    · exact .inl q2
    · refine .inr ⟨g, cap2, cur, e1, e2, ?_, e4⟩
      have hl : g < w.heap.size := (Array.getElem?_eq_some_iff.1 e3).1
      rw [h2.block g (by simp; omega) (fun e => by
        rcases hS.2 with ⟨e0, _⟩ | ⟨g5, cap5, cur5, e5, _, e6, _⟩
        · simp at e0; rw [e0.1] at e; cases e
        · rw [e5] at e
          simp [Value.ownBlock] at e
          subst e
          rw [e3] at e6
          simp at e6), Below.heap_alloc _ _ _ hl]
      exact e3
  · unfold Sn
    rw [List.length_append]
    have e : bytesV (sn ++ [c]) = bytesV sn ++ [.int .u8 c] := by simp [bytesV]
    rw [e]; exact h1
  · refine ((Below.refl b w).alloc (by omega) o).trans ?_
    exact ⟨h2.os, h2.tape, h2.output, h2.size, fun k hk => h2.block k (by simp; omega) (fun e => by have := hown k e.symm; omega)⟩
  · rcases h1.2 with ⟨_, h3⟩ | ⟨g', cap', cur, h4, _⟩
    · omega
    · exact ⟨g', cap', h4⟩

/-- The play with its rows. -/
def PlS (w : World) (b : Nat) (N : Int) (n m : Nat) (st : Int) (ks : ByteArray) (view : Int) (σ sn : List Int) (tag steps : Int) (todo : ByteArray) : Prop :=
  ∃ stv snv, Pl w b N n m st ks view stv snv tag steps todo ∧ Sr w b stv σ ∧ Sn w b snv sn

set_option maxHeartbeats 1000000 in
theorem told_any (h : PlS w b N n m st ks view σ sn tag steps todo) (hl : sn.length ≤ 100000) (c : Int) :
    Calls Tryz.prog 85 #[.pointer (some ⟨b, 0, none⟩), .int .u8 c] w fun e w' => e = .returned (.tuple #[]) ∧ PlS w' b N n m st ks view σ (sn ++ [c]) tag steps todo ∧ Below b w w' := by
  obtain ⟨stv, snv, hP, hT, hS⟩ := h
  obtain ⟨i0, hi0, hz0, hz1, hz2⟩ := info_parts Tryz.infoByte
  obtain ⟨ao, cap, rfl⟩ := hS.shape
  obtain ⟨m0, m1, m2, m3, m4, m5, m6, m7, m8, m9, mf⟩ := hP.thirteen
  have hbl : b < w.heap.size := At.lt hP
  go_enter Tryz.func85, Tryz.ntmps85
  go_wp2_with (at_builtin; refine wpList_append_own _ rfl (.tmp 8) (.tmp 10) 88 rfl (b + 1) 5 i0 (.int .u8 0) 1 1 Tryz.underlying88 hi0 hz0 hz1 hz2 rfl (by decide) (.slice ao sn.length cap) sn.length (bytesV sn) rfl ?_ ⟨w.heap.size, 0, none⟩ 1 1 [.int .u8 c] rfl rfl ?_ ?_ ?_ ?_ ?_ ?_)
  · exact World.ownsRow.alloc hS _
  · exact cell_one_new _ _ _
  · simp [Value.oneCell']
  · unfold maxLen; omega
  · omega
  · simp; omega
  · intro v' w' h1 h2 _
    obtain ⟨hP', hT', hS', hB, g', cap', rfl⟩ := pl_post hP hT hS c _ h1 h2
    clear m0 m1 m2 m3 m4 m5 m6 m7 m8 m9 mf h1 h2
    obtain ⟨m0, m1, m2, m3, m4, m5, m6, m7, m8, m9, mf⟩ := hP'.thirteen
    go_wp2_with fail
    go_end0
    exact ⟨rfl, ⟨_, _, hP'.setSeen _, hT'.set _ (Nat.le_refl _), hS'.set _ (Nat.le_refl _)⟩, hB.setCell (Nat.le_refl _) _⟩

/-- The value of an operand's byte. -/
def vb (N : Int) (σ : List Int) (c : Int) : Int := if 97 ≤ c then σ.getD (c - 97).toNat 0 else (c - 48) % N

set_option maxHeartbeats 1000000 in
theorem rvalue_any (h : PlS w b N n m st ks view σ sn tag steps todo) (c : Int) (h0 : 48 ≤ c) (h1 : c ≤ 255) (hN : 1 ≤ N) (_hN2 : N ≤ 256) (hc : 97 ≤ c → (c - 97).toNat < σ.length) :
    Calls Tryz.prog 84 #[.pointer (some ⟨b, 0, none⟩), .int .u8 c] w fun e w' => e = .returned (.int .i64 (vb N σ c)) ∧ w' = w := by
  obtain ⟨stv, snv, hP, hT, hS⟩ := h
  obtain ⟨m0, m1, m2, m3, m4, m5, m6, m7, m8, m9, mf⟩ := hP.thirteen
  unfold vb
  by_cases hl : 97 ≤ c
  · rw [if_pos hl]
    have hi := hc hl
    obtain ⟨g, cap, rfl, hg⟩ := hT.form (by rintro rfl; simp at hi)
    obtain ⟨i, hic⟩ : ∃ i : Nat, c = 97 + (i : Int) := ⟨(c - 97).toNat, by omega⟩
    subst hic
    have e : (97 + (i : Int) - 97).toNat = i := by omega
    rw [e] at hi ⊢
    have cS := hT.cell i hi
    generalize σ.getD i 0 = r at *
    clear e hc
    go_enter Tryz.func84, Tryz.ntmps84
    go_wp2_with fail
    go_ret
    exact ⟨rfl, rfl⟩
  · rw [if_neg hl]
    go_enter Tryz.func84, Tryz.ntmps84
    go_wp2_with fail
    go_ret
    exact ⟨rfl, rfl⟩

set_option maxHeartbeats 1000000 in
theorem rtest_any (h : PlS w b N n m st ks view σ sn tag steps todo) (hl : sn.length ≤ 100000) (c : Int) (h0 : 48 ≤ c) (h1 : c ≤ 255) (hN : 1 ≤ N) (hN2 : N ≤ 256) (hc : 97 ≤ c → (c - 97).toNat < σ.length) :
    Calls Tryz.prog 72 #[.pointer (some ⟨b, 0, none⟩), .int .u8 c] w fun e w' => e = .returned (.bool (!(vb N σ c == 0))) ∧ PlS w' b N n m st ks view σ (sn ++ [if vb N σ c = 0 then 102 else 116]) tag steps todo ∧ Below b w w' := by
  have hv := hide (rvalue_any h c h0 h1 hN hN2 hc)
  have ht1 := hide (told_any h hl 102)
  have ht2 := hide (told_any h hl 116)
  generalize vb N σ c = x at *
  by_cases hx : x = 0
  · have hb : (x == 0) = true := by simpa using hx
    rw [if_pos hx, hb]
    clear hx
    go_enter Tryz.func72, Tryz.ntmps72
    go_wp2_with fail
    refine (unhide hv).mono ?_
    rintro e w' ⟨rfl, rfl⟩
    go_wp2_with fail
    refine (unhide ht1).mono ?_
    rintro e w2 ⟨rfl, hP2, hB2⟩
    go_wp2_with fail
    go_ret
    exact ⟨rfl, hP2, hB2⟩
  · have hb : (x == 0) = false := by simpa using hx
    rw [if_neg hx, hb]
    clear hx
    go_enter Tryz.func72, Tryz.ntmps72
    go_wp2_with fail
    refine (unhide hv).mono ?_
    rintro e w' ⟨rfl, rfl⟩
    go_wp2_with fail
    refine (unhide ht2).mono ?_
    rintro e w2 ⟨rfl, hP2, hB2⟩
    go_wp2_with fail
    go_ret
    exact ⟨rfl, hP2, hB2⟩
end
end Go.Proofs.YtfolokhilkffcaaGreat
