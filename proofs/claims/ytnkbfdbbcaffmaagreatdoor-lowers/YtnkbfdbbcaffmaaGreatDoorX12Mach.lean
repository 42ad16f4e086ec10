import Derived.Test.YtnkbfdbbcaffmaaGreatDoorX11Ari
import Derived.Test.YtnkbfdbbcaffmaaGreatDoorX01Chars
import Derived.OwnWalk
/-
  The machine in memory; see, value, Divides.
-/
namespace Go.Proofs.YtnkbfdbbcaffmaaGreatDoor
open Go.RowKit

theorem Tryz.infoByte : (Tryz.prog.info? 5).map (fun i => (i.zero, i.size, i.bytes)) = some (some (.int .u8 0), 1, 1) := by kernel_rfl

def bytesV (sn : List Int) : List Value := sn.map fun c => .int .u8 c
def intsV (σ : List Int) : Array Value := (σ.map fun c => Value.int .i64 c).toArray

/-- The machine in block b, its state in block gs. -/
def Mac (w : World) (b gs : Nat) (W V n m view : Int) (σ : List Int) (sv : Value) (steps : ByteArray × Value) (tr : Bool) : Prop :=
  At w b 127 #[.string steps.1, .int .i64 W, .int .i64 V, .int .i64 n, .int .i64 m, .int .i64 view, .slice (some ⟨gs, 0, none⟩) σ.length σ.length, sv, steps.2, .bool tr] ∧ At w gs 3 (intsV σ) ∧ gs < b

/-- What is seen so far, in a row of its own. -/
def Sn (w : World) (b : Nat) (sv : Value) (sn : List Int) : Prop := w.ownsRow (b + 1) 5 1 sv sn.length (bytesV sn)

/-- What a method of the machine may turn: its own block, the state's, and rows of bytes from gs on. -/
structure Fr (gs b : Nat) (w w' : World) : Prop where
  below : Below gs w w'
  keep : ∀ k cs t f, w.heap[k]? = some (.cells cs t f) → t ≠ 5 → k ≠ gs → k ≠ b → w'.heap[k]? = some (.cells cs t f)

section
variable {w w1 w2 : World} {b gs : Nat} {W V n m view : Int} {σ : List Int} {sv : Value} {sn : List Int} {steps : ByteArray × Value} {tr : Bool}
theorem Fr.refl (gs b : Nat) (w : World) : Fr gs b w w := ⟨Below.refl _ _, fun _ _ _ _ h _ _ _ => h⟩
theorem Fr.trans (h : Fr gs b w w1) (k : Fr gs b w1 w2) : Fr gs b w w2 := ⟨h.below.trans k.below, fun i cs t f a b' c d => k.keep i cs t f (h.keep i cs t f a b' c d) b' c d⟩
theorem Fr.drewN (h : Fr gs b w w1) (j : Nat) : Fr gs b w (w1.drewN j) := ⟨below_drewN h.below j, h.keep⟩
theorem Fr.alloc (h : Fr gs b w w1) (hg : gs ≤ w1.heap.size) (o : Obj) : Fr gs b w (w1.alloc o) := ⟨h.below.alloc hg o, fun i cs t f a b' c d => by
  have hk := h.keep i cs t f a b' c d
  have hl : i < w1.heap.size := (Array.getElem?_eq_some_iff.1 hk).1
  rw [Below.heap_alloc _ _ _ hl]; exact hk⟩
theorem Fr.set (h : Fr gs b w w1) {a : Addr} (v : Value) (hg : gs ≤ a.block) (ha : a.block = gs ∨ a.block = b ∨ w.heap.size ≤ a.block) : Fr gs b w (w1.setCell a v) := ⟨h.below.setCell hg v, fun i cs t f x b' c d => by
  have hk := h.keep i cs t f x b' c d
  have hl : i < w.heap.size := (Array.getElem?_eq_some_iff.1 x).1
  rw [Below.heap_setCell _ _ _ _ (by rcases ha with ha | ha | ha <;> omega)]; exact hk⟩
theorem Fr.at_ (h : Fr gs b w w1) {k : Nat} {t : TypeId} {cs : Array Value} (hA : At w k t cs) (ht : t ≠ 5) (h1 : k ≠ gs) (h2 : k ≠ b) : At w1 k t cs := h.keep k cs t _ hA ht h1 h2

theorem Mac.drewN (h : Mac w b gs W V n m view σ sv steps tr) (j : Nat) : Mac (w.drewN j) b gs W V n m view σ sv steps tr := h
theorem Mac.alloc (h : Mac w b gs W V n m view σ sv steps tr) (o : Obj) : Mac (w.alloc o) b gs W V n m view σ sv steps tr := ⟨h.1.alloc o, h.2.1.alloc o, h.2.2⟩
theorem Mac.other (h : Mac w b gs W V n m view σ sv steps tr) {a : Addr} (v : Value) (h1 : a.block ≠ b) (h2 : a.block ≠ gs) : Mac (w.setCell a v) b gs W V n m view σ sv steps tr := ⟨h.1.other v h1, h.2.1.other v h2, h.2.2⟩
theorem At.mten {c : Nat} {t : TypeId} {v0 v1 v2 v3 v4 v5 v6 v7 v8 v9 : Value} (h : At w c t #[v0, v1, v2, v3, v4, v5, v6, v7, v8, v9]) :
    w.cell? ⟨c, 1, none⟩ = some v1 ∧ w.cell? ⟨c, 2, none⟩ = some v2 ∧ w.cell? ⟨c, 3, none⟩ = some v3 ∧ w.cell? ⟨c, 4, none⟩ = some v4 ∧ w.cell? ⟨c, 5, none⟩ = some v5 ∧ w.cell? ⟨c, 6, none⟩ = some v6 ∧ w.cell? ⟨c, 7, none⟩ = some v7 ∧ w.cell? ⟨c, 8, none⟩ = some v8 ∧ w.cell? ⟨c, 9, none⟩ = some v9 ∧ w.cell? ⟨c, 0, none⟩ = some v0 ∧ (∀ j, w.frozen? ⟨c, j, none⟩ = false) := by
  refine ⟨?_, ?_, ?_, ?_, ?_, ?_, ?_, ?_, ?_, ?_, fun j => h.frozen j⟩ <;> (rw [h.cell]; rfl)
theorem Mac.nine (h : Mac w b gs W V n m view σ sv steps tr) :
    w.cell? ⟨b, 1, none⟩ = some (.int .i64 W) ∧ w.cell? ⟨b, 2, none⟩ = some (.int .i64 V) ∧ w.cell? ⟨b, 3, none⟩ = some (.int .i64 n) ∧ w.cell? ⟨b, 4, none⟩ = some (.int .i64 m) ∧ w.cell? ⟨b, 5, none⟩ = some (.int .i64 view) ∧ w.cell? ⟨b, 6, none⟩ = some (.slice (some ⟨gs, 0, none⟩) σ.length σ.length) ∧ w.cell? ⟨b, 7, none⟩ = some sv ∧ w.cell? ⟨b, 8, none⟩ = some steps.2 ∧ w.cell? ⟨b, 9, none⟩ = some (.bool tr) ∧ w.cell? ⟨b, 0, none⟩ = some (.string steps.1) ∧ (∀ j, w.frozen? ⟨b, j, none⟩ = false) := At.mten h.1
theorem Mac.cellS (h : Mac w b gs W V n m view σ sv steps tr) (i : Nat) (hi : i < σ.length) : w.cell? ⟨gs, i, none⟩ = some (.int .i64 (σ.getD i 0)) := by
  rw [h.2.1.cell i]
  simp [intsV, List.getD, hi]
theorem Mac.frozenS (h : Mac w b gs W V n m view σ sv steps tr) (i : Nat) : w.frozen? ⟨gs, i, none⟩ = false := h.2.1.frozen i
theorem Mac.setS (h : Mac w b gs W V n m view σ sv steps tr) (i : Nat) (v : Int) : Mac (w.setCell ⟨gs, i, none⟩ (.int .i64 v)) b gs W V n m view (σ.set i v) sv steps tr := by
  refine ⟨?_, ?_, h.2.2⟩
  · rw [List.length_set]; exact h.1.other _ (by show gs ≠ b; have := h.2.2; omega)
  · have := h.2.1.set i (.int .i64 v)
    have e : (intsV σ).setIfInBounds i (.int .i64 v) = intsV (σ.set i v) := by simp [intsV, List.map_set]
    rw [e] at this; exact this
theorem Mac.setSeen (h : Mac w b gs W V n m view σ sv steps tr) (v : Value) : Mac (w.setCell ⟨b, 7, none⟩ v) b gs W V n m view σ v steps tr := by
  refine ⟨?_, h.2.1.other _ (by show b ≠ gs; have := h.2.2; omega), h.2.2⟩
  have := h.1.set 7 v; simpa using this
theorem Mac.setPath (h : Mac w b gs W V n m view σ sv steps tr) (v : Value) : Mac (w.setCell ⟨b, 8, none⟩ v) b gs W V n m view σ sv (steps.1, v) tr := by
  refine ⟨?_, h.2.1.other _ (by show b ≠ gs; have := h.2.2; omega), h.2.2⟩
  have := h.1.set 8 v; simpa using this
theorem Mac.setTrap (h : Mac w b gs W V n m view σ sv steps tr) : Mac (w.setCell ⟨b, 9, none⟩ (.bool true)) b gs W V n m view σ sv steps true := by
  refine ⟨?_, h.2.1.other _ (by show b ≠ gs; have := h.2.2; omega), h.2.2⟩
  have := h.1.set 9 (.bool true); simpa using this
theorem Sn.drewN (h : Sn w b sv sn) (j : Nat) : Sn (w.drewN j) b sv sn := h
theorem Sn.alloc (h : Sn w b sv sn) (o : Obj) : Sn (w.alloc o) b sv sn := World.ownsRow.alloc h o
theorem Sn.set (h : Sn w b sv sn) {a : Addr} (v : Value) (ha : a.block ≤ b) : Sn (w.setCell a v) b sv sn := ownsRow_setCell_below h (Nat.lt_succ_of_le ha) v
theorem Sn.shape (h : Sn w b sv sn) : ∃ ao cap, sv = .slice ao sn.length cap := by
  rcases h.2 with ⟨h', h0⟩ | ⟨g, cap, cur, h', hb, _⟩
  · exact ⟨none, 0, by rw [h', h0]⟩
  · exact ⟨_, cap, h'⟩
/-- A block of another type than bytes is none of the row's. -/
theorem Sn.setOther (h : Sn w b sv sn) {k : Nat} {t : TypeId} {cs : Array Value} (hA : At w k t cs) (ht : t ≠ 5) (j : Nat) (v : Value) : Sn (w.setCell ⟨k, j, none⟩ v) b sv sn := by
  obtain ⟨h1, h2⟩ := h
  refine ⟨h1, ?_⟩
  rcases h2 with h2 | ⟨g, cap, cur, e1, e2, e3, e4⟩
  · exact .inl h2
  · refine .inr ⟨g, cap, cur, e1, e2, ?_, e4⟩
    rw [Below.heap_setCell _ _ _ _ (by
      intro e
      simp at e
      subst e
      unfold At at hA
      rw [hA] at e3
      simp at e3
      exact ht e3.2)]
    exact e3

theorem sn_post {ao : Option Addr} {cap : Nat} (hM : Mac w b gs W V n m view σ (.slice ao sn.length cap) steps tr) (hS : Sn w b (.slice ao sn.length cap) sn) (c : Int) (o : Obj) {v' : Value} {w' : World}
    (h1 : w'.ownsRow (b + 1) 5 1 v' (sn.length + 1) (bytesV sn ++ [.int .u8 c])) (h2 : (w.alloc o).grownBy w' (Value.slice ao sn.length cap).ownBlock) :
    Mac w' b gs W V n m view σ (.slice ao sn.length cap) steps tr ∧ Sn w' b v' (sn ++ [c]) ∧ Fr gs b w w' ∧ ∃ g' cap', v' = .slice (some ⟨g', 0, none⟩) (sn.length + 1) cap' := by
  have hb := hM.1.lt
  have hg := hM.2.2
  have hown : ∀ k, (Value.slice ao sn.length cap).ownBlock = some k → b + 1 ≤ k ∧ k < w.heap.size := World.ownsRow.lt hS
  have ne1 : some b ≠ (Value.slice ao sn.length cap).ownBlock := fun e => by have := hown b e.symm; omega
  have ne2 : some gs ≠ (Value.slice ao sn.length cap).ownBlock := fun e => by have := hown gs e.symm; omega
  refine ⟨⟨(hM.1.alloc o).grown h2 ne1, (hM.2.1.alloc o).grown h2 ne2, hg⟩, ?_, ⟨?_, ?_⟩, ?_⟩
  · unfold Sn
    rw [List.length_append]
    have e : bytesV (sn ++ [c]) = bytesV sn ++ [.int .u8 c] := by simp [bytesV]
    rw [e]; exact h1
  · refine ((Below.refl gs w).alloc (by omega) o).trans ?_
    exact ⟨h2.os, h2.tape, h2.output, h2.size, fun k hk => h2.block k (by simp; omega) (fun e => by have := hown k e.symm; omega)⟩
  · intro k cs t f hk ht _ _
    have hl : k < w.heap.size := (Array.getElem?_eq_some_iff.1 hk).1
    rw [h2.block k (by simp; omega) (fun e => by
      rcases hS.2 with ⟨e0, _⟩ | ⟨g, cap', cur, e1, _, e3, _⟩
      · simp at e0; rw [e0.1] at e; cases e
      · rw [e1] at e
        simp [Value.ownBlock] at e
        subst e
        rw [hk] at e3
        simp at e3
        exact ht e3.2.1), Below.heap_alloc _ _ _ hl]
    exact hk
  · rcases h1.2 with ⟨_, h3⟩ | ⟨g', cap', cur, h4, _⟩
    · omega
    · exact ⟨g', cap', h4⟩

set_option maxHeartbeats 1000000 in
theorem see_any (hM : Mac w b gs W V n m view σ sv steps tr) (hS : Sn w b sv sn) (hl : sn.length ≤ 100000) (c : Int) :
    Calls Tryz.prog 178 #[.pointer (some ⟨b, 0, none⟩), .int .u8 c] w fun e w' => e = .returned (.tuple #[]) ∧ ∃ sv', Mac w' b gs W V n m view σ sv' steps tr ∧ Sn w' b sv' (sn ++ [c]) ∧ Fr gs b w w' := by
  obtain ⟨i0, hi0, hz0, hz1, hz2⟩ := info_parts Tryz.infoByte
  obtain ⟨ao, cap, rfl⟩ := hS.shape
  obtain ⟨m0, m1, m2, m3, m4, m5, m6, m7, m8, mt, mf⟩ := hM.nine
  have hbl : b < w.heap.size := hM.1.lt
  go_enter Tryz.func178, Tryz.ntmps178
  go_wp2_with (at_builtin; refine wpList_append_own _ rfl (.tmp 8) (.tmp 10) 88 rfl (b + 1) 5 i0 (.int .u8 0) 1 1 Tryz.underlying88 hi0 hz0 hz1 hz2 rfl (by decide) (.slice ao sn.length cap) sn.length (bytesV sn) rfl ?_ ⟨w.heap.size, 0, none⟩ 1 1 [.int .u8 c] rfl rfl ?_ ?_ ?_ ?_ ?_ ?_)
  · exact World.ownsRow.alloc hS _
  · exact cell_one_new _ _ _
  · simp [Value.oneCell']
  · unfold maxLen; omega
  · omega
  · simp; omega
  · intro v' w' h1 h2 _
    obtain ⟨hM', hS', hF, g', cap', rfl⟩ := sn_post hM hS c _ h1 h2
    clear m0 m1 m2 m3 m4 m5 m6 m7 m8 mt mf h1 h2
    obtain ⟨m0, m1, m2, m3, m4, m5, m6, m7, m8, mt, mf⟩ := hM'.nine
    go_wp2_with fail
    go_end0
    exact ⟨rfl, _, hM'.setSeen _, hS'.set _ (Nat.le_refl _), hF.set _ (Nat.le_of_lt hM.2.2) (.inr (.inl rfl))⟩

set_option maxHeartbeats 1000000 in
theorem mvalue_any (hM : Mac w b gs W V n m view σ sv steps tr) (nm : Bool) (x : Nat) (hx : nm = true → x < σ.length) :
    Calls Tryz.prog 173 #[.pointer (some ⟨b, 0, none⟩), .agg #[.bool nm, .int .i64 x]] w fun e w' => e = .returned (.int .i64 (if nm then σ.getD x 0 else x)) ∧ Fr gs b w w' ∧ w.grownBy w' none := by
  obtain ⟨m0, m1, m2, m3, m4, m5, m6, m7, m8, mt, mf⟩ := hM.nine
  have hbl : b < w.heap.size := hM.1.lt
  have hgl := hM.2.2
  cases nm with
  | false =>
    go_enter Tryz.func173, Tryz.ntmps173
    go_wp2_with fail
    go_ret
    exact ⟨rfl, (Fr.refl _ _ _).alloc (by omega) _, gb_alloc (gb_refl _ _) _⟩
  | true =>
    have hx' := hx rfl
    have c := hM.cellS x hx'
    have hgs := hM.2.1.lt
    go_enter Tryz.func173, Tryz.ntmps173
    go_wp2_with fail
    go_quiet (fail)
    go_wp2_with fail
    go_ret
    exact ⟨rfl, ((Fr.refl _ _ _).alloc (by omega) _).drewN _, gb_drewN (gb_alloc (gb_refl _ _) _) _⟩

def isDiv (c : Int) : Bool := c == 47 || c == 37

set_option maxHeartbeats 400000 in
theorem divides_any (c : Int) (w : World) :
    Calls Tryz.prog 174 #[.int .u8 c] w fun e w' => e = .returned (.bool (isDiv c)) ∧ w' = w := by
  generalize hr : isDiv c = r
  have Hr := hide hr
  clear hr
  cases h1 : (c == 47) with
  | true =>
    go_enter Tryz.func174, Tryz.ntmps174
    go_wp2_with fail
    go_ret
    exact ⟨ret_bool (by rw [← unhide Hr, isDiv, h1]; rfl), rfl⟩
  | false =>
    go_enter Tryz.func174, Tryz.ntmps174
    go_wp2_with fail
    go_ret
    exact ⟨ret_bool (by rw [← unhide Hr, isDiv, h1]; rfl), rfl⟩
end
end Go.Proofs.YtnkbfdbbcaffmaaGreatDoor
/-
  seeWord, seeDivision.
-/
namespace Go.Proofs.YtnkbfdbbcaffmaaGreatDoor
open Go.RowKit

/-- What is seen of a word's number. -/
def shn (view x : Int) : Int := if 2 ≤ view then hlv (view - 2).toNat x else x
def swB (view m x : Int) : List Int := [109] ++ [hxd (shn view x / 16)] ++ [hxd (shn view x % 16)] ++ (if m ≤ x then [111] else [])
def sdB (view x y : Int) : List Int := (if y = 0 then [120] else [118]) ++ (if view = 1 then [hxd (btc 8 x)] ++ [hxd (btc 8 y)] else [])

section
variable {w : World} {b gs : Nat} {W V n m view : Int} {σ : List Int} {sv : Value} {sn : List Int} {steps : ByteArray × Value} {tr : Bool}

theorem shn_bd (view x : Int) (h0 : 0 ≤ x) (h1 : x ≤ 255) : 0 ≤ shn view x ∧ shn view x ≤ 255 := by
  unfold shn
  split
  · have := hlv_bd (view - 2).toNat x h0; omega
  · omega

set_option maxHeartbeats 2000000 in
theorem seeWord_any (hM0 : Mac w b gs W V n m view σ sv steps tr) (hS0 : Sn w b sv sn) (hl : sn.length ≤ 90000) (x : Int) (h0 : 0 ≤ x) (h1 : x ≤ 255) (_hv0 : 0 ≤ view) (_hv1 : view ≤ 8) :
    Calls Tryz.prog 177 #[.pointer (some ⟨b, 0, none⟩), .int .i64 x] w fun e w' => e = .returned (.tuple #[]) ∧ ∃ sv', Mac w' b gs W V n m view σ sv' steps (if m ≤ x then true else tr) ∧ Sn w' b sv' (sn ++ swB view m x) ∧ Fr gs b w w' := by
  obtain ⟨m0, m1, m2, m3, m4, m5, m6, m7, m8, mt, mf⟩ := hM0.nine
  have hsb := shn_bd view x h0 h1
  have hfin : swB view m x = [109] ++ [hxd (shn view x / 16)] ++ [hxd (shn view x % 16)] ++ (if m ≤ x then [111] else []) := rfl
  by_cases hline : 2 ≤ view
  · obtain ⟨t, ht⟩ : ∃ t : Nat, view - 2 = (t : Int) := ⟨(view - 2).toNat, by omega⟩
    have hh : hlv t x = shn view x := by
      unfold shn; rw [if_pos hline, ht]; rfl
    have Ht := hide ht
    have Hh := hide hh
    have htl : t ≤ 6 := by omega
    clear ht hh
    generalize shn view x = z at *
    by_cases htrap : m ≤ x
    · rw [if_pos htrap] at hfin ⊢
      have hfin2 : sn ++ swB view m x = sn ++ [109] ++ [hxd (z / 16)] ++ [hxd (z % 16)] ++ [111] := by rw [hfin]; simp
      have Hfin := hide hfin2
      clear hfin hfin2
      go_enter Tryz.func177, Tryz.ntmps177
      go_wp2_with fail
      rw [unhide Ht]
      refine (halve_any x t h0 h1 (by omega) _).mono ?_
      rintro e w' ⟨rfl, rfl⟩
      rw [unhide Hh]
      go_wp2_with fail
      refine (see_any hM0 hS0 (by omega) 109).mono ?_
      rintro e w1 ⟨rfl, sv1, hM1, hS1, hF1⟩
      clear m0 m1 m2 m3 m4 m5 m6 m7 m8 mt mf
      obtain ⟨m0, m1, m2, m3, m4, m5, m6, m7, m8, mt, mf⟩ := hM1.nine
      go_wp2_with fail
      refine (digit_any _ (by omega) (by omega) _).mono ?_
      rintro e w' ⟨rfl, rfl⟩
      go_wp2_with fail
      refine (see_any hM1 hS1 (by rw [List.length_append]; simp; omega) _).mono ?_
      rintro e w2 ⟨rfl, sv2, hM2, hS2, hF2⟩
      clear m0 m1 m2 m3 m4 m5 m6 m7 m8 mt mf
      obtain ⟨m0, m1, m2, m3, m4, m5, m6, m7, m8, mt, mf⟩ := hM2.nine
      go_wp2_with fail
      refine (digit_any _ (by omega) (by omega) _).mono ?_
      rintro e w' ⟨rfl, rfl⟩
      go_wp2_with fail
      refine (see_any hM2 hS2 (by rw [List.length_append, List.length_append]; simp; omega) _).mono ?_
      rintro e w3 ⟨rfl, sv3, hM3, hS3, hF3⟩
      clear m0 m1 m2 m3 m4 m5 m6 m7 m8 mt mf
      obtain ⟨m0, m1, m2, m3, m4, m5, m6, m7, m8, mt, mf⟩ := hM3.nine
      go_wp2_with fail
      refine (see_any hM3 hS3 (by rw [List.length_append, List.length_append, List.length_append]; simp; omega) 111).mono ?_
      rintro e w4 ⟨rfl, sv4, hM4, hS4, hF4⟩
      clear m0 m1 m2 m3 m4 m5 m6 m7 m8 mt mf
      obtain ⟨m0, m1, m2, m3, m4, m5, m6, m7, m8, mt, mf⟩ := hM4.nine
      go_wp2_with fail
      go_end0
      exact ⟨rfl, _, hM4.setTrap, by rw [unhide Hfin]; exact hS4.set _ (Nat.le_refl _), ((hF1.trans hF2).trans (hF3.trans hF4)).set _ (Nat.le_of_lt hM0.2.2) (.inr (.inl rfl))⟩
    · rw [if_neg htrap] at hfin ⊢
      have hfin2 : sn ++ swB view m x = sn ++ [109] ++ [hxd (z / 16)] ++ [hxd (z % 16)] := by rw [hfin]; simp
      have Hfin := hide hfin2
      clear hfin hfin2
      go_enter Tryz.func177, Tryz.ntmps177
      go_wp2_with fail
      rw [unhide Ht]
      refine (halve_any x t h0 h1 (by omega) _).mono ?_
      rintro e w' ⟨rfl, rfl⟩
      rw [unhide Hh]
      go_wp2_with fail
      refine (see_any hM0 hS0 (by omega) 109).mono ?_
      rintro e w1 ⟨rfl, sv1, hM1, hS1, hF1⟩
      clear m0 m1 m2 m3 m4 m5 m6 m7 m8 mt mf
      obtain ⟨m0, m1, m2, m3, m4, m5, m6, m7, m8, mt, mf⟩ := hM1.nine
      go_wp2_with fail
      refine (digit_any _ (by omega) (by omega) _).mono ?_
      rintro e w' ⟨rfl, rfl⟩
      go_wp2_with fail
      refine (see_any hM1 hS1 (by rw [List.length_append]; simp; omega) _).mono ?_
      rintro e w2 ⟨rfl, sv2, hM2, hS2, hF2⟩
      clear m0 m1 m2 m3 m4 m5 m6 m7 m8 mt mf
      obtain ⟨m0, m1, m2, m3, m4, m5, m6, m7, m8, mt, mf⟩ := hM2.nine
      go_wp2_with fail
      refine (digit_any _ (by omega) (by omega) _).mono ?_
      rintro e w' ⟨rfl, rfl⟩
      go_wp2_with fail
      refine (see_any hM2 hS2 (by rw [List.length_append, List.length_append]; simp; omega) _).mono ?_
      rintro e w3 ⟨rfl, sv3, hM3, hS3, hF3⟩
      clear m0 m1 m2 m3 m4 m5 m6 m7 m8 mt mf
      obtain ⟨m0, m1, m2, m3, m4, m5, m6, m7, m8, mt, mf⟩ := hM3.nine
      go_wp2_with fail
      go_end0
      exact ⟨rfl, _, hM3, by rw [unhide Hfin]; exact hS3, (hF1.trans hF2).trans hF3⟩
  · have hz : shn view x = x := by unfold shn; rw [if_neg hline]
    rw [hz] at hfin
    clear hsb hz
    by_cases htrap : m ≤ x
    · rw [if_pos htrap] at hfin ⊢
      have hfin2 : sn ++ swB view m x = sn ++ [109] ++ [hxd (x / 16)] ++ [hxd (x % 16)] ++ [111] := by rw [hfin]; simp
      have Hfin := hide hfin2
      clear hfin hfin2
      go_enter Tryz.func177, Tryz.ntmps177
      go_wp2_with fail
      refine (see_any hM0 hS0 (by omega) 109).mono ?_
      rintro e w1 ⟨rfl, sv1, hM1, hS1, hF1⟩
      clear m0 m1 m2 m3 m4 m5 m6 m7 m8 mt mf
      obtain ⟨m0, m1, m2, m3, m4, m5, m6, m7, m8, mt, mf⟩ := hM1.nine
      go_wp2_with fail
      refine (digit_any _ (by omega) (by omega) _).mono ?_
      rintro e w' ⟨rfl, rfl⟩
      go_wp2_with fail
      refine (see_any hM1 hS1 (by rw [List.length_append]; simp; omega) _).mono ?_
      rintro e w2 ⟨rfl, sv2, hM2, hS2, hF2⟩
      clear m0 m1 m2 m3 m4 m5 m6 m7 m8 mt mf
      obtain ⟨m0, m1, m2, m3, m4, m5, m6, m7, m8, mt, mf⟩ := hM2.nine
      go_wp2_with fail
      refine (digit_any _ (by omega) (by omega) _).mono ?_
      rintro e w' ⟨rfl, rfl⟩
      go_wp2_with fail
      refine (see_any hM2 hS2 (by rw [List.length_append, List.length_append]; simp; omega) _).mono ?_
      rintro e w3 ⟨rfl, sv3, hM3, hS3, hF3⟩
      clear m0 m1 m2 m3 m4 m5 m6 m7 m8 mt mf
      obtain ⟨m0, m1, m2, m3, m4, m5, m6, m7, m8, mt, mf⟩ := hM3.nine
      go_wp2_with fail
      refine (see_any hM3 hS3 (by rw [List.length_append, List.length_append, List.length_append]; simp; omega) 111).mono ?_
      rintro e w4 ⟨rfl, sv4, hM4, hS4, hF4⟩
      clear m0 m1 m2 m3 m4 m5 m6 m7 m8 mt mf
      obtain ⟨m0, m1, m2, m3, m4, m5, m6, m7, m8, mt, mf⟩ := hM4.nine
      go_wp2_with fail
      go_end0
      exact ⟨rfl, _, hM4.setTrap, by rw [unhide Hfin]; exact hS4.set _ (Nat.le_refl _), ((hF1.trans hF2).trans (hF3.trans hF4)).set _ (Nat.le_of_lt hM0.2.2) (.inr (.inl rfl))⟩
    · rw [if_neg htrap] at hfin ⊢
      have hfin2 : sn ++ swB view m x = sn ++ [109] ++ [hxd (x / 16)] ++ [hxd (x % 16)] := by rw [hfin]; simp
      have Hfin := hide hfin2
      clear hfin hfin2
      go_enter Tryz.func177, Tryz.ntmps177
      go_wp2_with fail
      refine (see_any hM0 hS0 (by omega) 109).mono ?_
      rintro e w1 ⟨rfl, sv1, hM1, hS1, hF1⟩
      clear m0 m1 m2 m3 m4 m5 m6 m7 m8 mt mf
      obtain ⟨m0, m1, m2, m3, m4, m5, m6, m7, m8, mt, mf⟩ := hM1.nine
      go_wp2_with fail
      refine (digit_any _ (by omega) (by omega) _).mono ?_
      rintro e w' ⟨rfl, rfl⟩
      go_wp2_with fail
      refine (see_any hM1 hS1 (by rw [List.length_append]; simp; omega) _).mono ?_
      rintro e w2 ⟨rfl, sv2, hM2, hS2, hF2⟩
      clear m0 m1 m2 m3 m4 m5 m6 m7 m8 mt mf
      obtain ⟨m0, m1, m2, m3, m4, m5, m6, m7, m8, mt, mf⟩ := hM2.nine
      go_wp2_with fail
      refine (digit_any _ (by omega) (by omega) _).mono ?_
      rintro e w' ⟨rfl, rfl⟩
      go_wp2_with fail
      refine (see_any hM2 hS2 (by rw [List.length_append, List.length_append]; simp; omega) _).mono ?_
      rintro e w3 ⟨rfl, sv3, hM3, hS3, hF3⟩
      clear m0 m1 m2 m3 m4 m5 m6 m7 m8 mt mf
      obtain ⟨m0, m1, m2, m3, m4, m5, m6, m7, m8, mt, mf⟩ := hM3.nine
      go_wp2_with fail
      go_end0
      exact ⟨rfl, _, hM3, by rw [unhide Hfin]; exact hS3, (hF1.trans hF2).trans hF3⟩

set_option maxHeartbeats 2000000 in
theorem seeDivision_any (hM0 : Mac w b gs W V n m view σ sv steps tr) (hS0 : Sn w b sv sn) (hl : sn.length ≤ 90000) (x y : Int) (h0 : 0 ≤ x) (h1 : x ≤ 255) (h2 : 0 ≤ y) (h3 : y ≤ 255) :
    Calls Tryz.prog 175 #[.pointer (some ⟨b, 0, none⟩), .int .i64 x, .int .i64 y] w fun e w' => e = .returned (.tuple #[]) ∧ ∃ sv', Mac w' b gs W V n m view σ sv' steps (if y = 0 then true else tr) ∧ Sn w' b sv' (sn ++ sdB view x y) ∧ Fr gs b w w' := by
  obtain ⟨m0, m1, m2, m3, m4, m5, m6, m7, m8, mt, mf⟩ := hM0.nine
  have hbx := btc_bd 8 x
  have hby := btc_bd 8 y
  have hfin : sdB view x y = (if y = 0 then [120] else [118]) ++ (if view = 1 then [hxd (btc 8 x)] ++ [hxd (btc 8 y)] else []) := rfl
  generalize hqx : btc 8 x = bx at *
  generalize hqy : btc 8 y = b2 at *
  have Hx := hide hqx
  have Hy := hide hqy
  clear hqx hqy
  by_cases hz : y = 0
  · rw [if_pos hz] at hfin ⊢
    have hyb : (y != 0) = false := by simpa using hz
    by_cases ht : view = 1
    · rw [if_pos ht] at hfin
      have hfin2 : sn ++ sdB view x y = sn ++ [120] ++ [hxd bx] ++ [hxd b2] := by rw [hfin]; simp
      have Hfin := hide hfin2
      have hvb : (view == 1) = true := by simpa using ht
      clear hfin hfin2 hz ht
      go_enter Tryz.func175, Tryz.ntmps175
      go_wp2_with fail
      refine (see_any hM0 hS0 (by omega) _).mono ?_
      rintro e w1 ⟨rfl, sv1, hM1, hS1, hF1⟩
      clear m0 m1 m2 m3 m4 m5 m6 m7 m8 mt mf
      obtain ⟨m0, m1, m2, m3, m4, m5, m6, m7, m8, mt, mf⟩ := hM1.nine
      have hM1' := hM1.setTrap
      have hS1' := hS1.set (a := ⟨b, 9, none⟩) (.bool true) (Nat.le_refl _)
      have hF1' := hF1.set (a := ⟨b, 9, none⟩) (.bool true) (Nat.le_of_lt hM0.2.2) (.inr (.inl rfl))
      go_wp2_with fail
      refine (mbits_any x (by omega) (by omega) _).mono ?_
      rintro e w' ⟨rfl, rfl⟩
      rw [unhide Hx]
      go_wp2_with fail
      refine (digit_any _ (by omega) (by omega) _).mono ?_
      rintro e w' ⟨rfl, rfl⟩
      go_wp2_with fail
      refine (see_any hM1' hS1' (by rw [List.length_append]; simp; omega) _).mono ?_
      rintro e w2 ⟨rfl, sv2, hM2, hS2, hF2⟩
      clear m0 m1 m2 m3 m4 m5 m6 m7 m8 mt mf
      obtain ⟨m0, m1, m2, m3, m4, m5, m6, m7, m8, mt, mf⟩ := hM2.nine
      go_wp2_with fail
      refine (mbits_any y (by omega) (by omega) _).mono ?_
      rintro e w' ⟨rfl, rfl⟩
      rw [unhide Hy]
      go_wp2_with fail
      refine (digit_any _ (by omega) (by omega) _).mono ?_
      rintro e w' ⟨rfl, rfl⟩
      go_wp2_with fail
      refine (see_any hM2 hS2 (by rw [List.length_append, List.length_append]; simp; omega) _).mono ?_
      rintro e w3 ⟨rfl, sv3, hM3, hS3, hF3⟩
      clear m0 m1 m2 m3 m4 m5 m6 m7 m8 mt mf
      obtain ⟨m0, m1, m2, m3, m4, m5, m6, m7, m8, mt, mf⟩ := hM3.nine
      go_wp2_with fail
      go_end0
      exact ⟨rfl, _, hM3, by rw [unhide Hfin]; exact hS3, (hF1'.trans hF2).trans hF3⟩
    · rw [if_neg ht] at hfin
      have hfin2 : sn ++ sdB view x y = sn ++ [120] := by rw [hfin]; simp
      have Hfin := hide hfin2
      have hvb : (view == 1) = false := by simpa using ht
      clear hfin hfin2 hz ht
      go_enter Tryz.func175, Tryz.ntmps175
      go_wp2_with fail
      refine (see_any hM0 hS0 (by omega) _).mono ?_
      rintro e w1 ⟨rfl, sv1, hM1, hS1, hF1⟩
      clear m0 m1 m2 m3 m4 m5 m6 m7 m8 mt mf
      obtain ⟨m0, m1, m2, m3, m4, m5, m6, m7, m8, mt, mf⟩ := hM1.nine
      have hM1' := hM1.setTrap
      have hS1' := hS1.set (a := ⟨b, 9, none⟩) (.bool true) (Nat.le_refl _)
      have hF1' := hF1.set (a := ⟨b, 9, none⟩) (.bool true) (Nat.le_of_lt hM0.2.2) (.inr (.inl rfl))
      go_wp2_with fail
      go_end0
      exact ⟨rfl, _, hM1', by rw [unhide Hfin]; exact hS1', hF1'⟩
  · rw [if_neg hz] at hfin ⊢
    have hyb : (y != 0) = true := by simpa using hz
    by_cases ht : view = 1
    · rw [if_pos ht] at hfin
      have hfin2 : sn ++ sdB view x y = sn ++ [118] ++ [hxd bx] ++ [hxd b2] := by rw [hfin]; simp
      have Hfin := hide hfin2
      have hvb : (view == 1) = true := by simpa using ht
      clear hfin hfin2 hz ht
      go_enter Tryz.func175, Tryz.ntmps175
      go_wp2_with fail
      refine (see_any hM0 hS0 (by omega) _).mono ?_
      rintro e w1 ⟨rfl, sv1, hM1, hS1, hF1⟩
      clear m0 m1 m2 m3 m4 m5 m6 m7 m8 mt mf
      obtain ⟨m0, m1, m2, m3, m4, m5, m6, m7, m8, mt, mf⟩ := hM1.nine
      go_wp2_with fail
      refine (mbits_any x (by omega) (by omega) _).mono ?_
      rintro e w' ⟨rfl, rfl⟩
      rw [unhide Hx]
      go_wp2_with fail
      refine (digit_any _ (by omega) (by omega) _).mono ?_
      rintro e w' ⟨rfl, rfl⟩
      go_wp2_with fail
      refine (see_any hM1 hS1 (by rw [List.length_append]; simp; omega) _).mono ?_
      rintro e w2 ⟨rfl, sv2, hM2, hS2, hF2⟩
      clear m0 m1 m2 m3 m4 m5 m6 m7 m8 mt mf
      obtain ⟨m0, m1, m2, m3, m4, m5, m6, m7, m8, mt, mf⟩ := hM2.nine
      go_wp2_with fail
      refine (mbits_any y (by omega) (by omega) _).mono ?_
      rintro e w' ⟨rfl, rfl⟩
      rw [unhide Hy]
      go_wp2_with fail
      refine (digit_any _ (by omega) (by omega) _).mono ?_
      rintro e w' ⟨rfl, rfl⟩
      go_wp2_with fail
      refine (see_any hM2 hS2 (by rw [List.length_append, List.length_append]; simp; omega) _).mono ?_
      rintro e w3 ⟨rfl, sv3, hM3, hS3, hF3⟩
      clear m0 m1 m2 m3 m4 m5 m6 m7 m8 mt mf
      obtain ⟨m0, m1, m2, m3, m4, m5, m6, m7, m8, mt, mf⟩ := hM3.nine
      go_wp2_with fail
      go_end0
      exact ⟨rfl, _, hM3, by rw [unhide Hfin]; exact hS3, (hF1.trans hF2).trans hF3⟩
    · rw [if_neg ht] at hfin
      have hfin2 : sn ++ sdB view x y = sn ++ [118] := by rw [hfin]; simp
      have Hfin := hide hfin2
      have hvb : (view == 1) = false := by simpa using ht
      clear hfin hfin2 hz ht
      go_enter Tryz.func175, Tryz.ntmps175
      go_wp2_with fail
      refine (see_any hM0 hS0 (by omega) _).mono ?_
      rintro e w1 ⟨rfl, sv1, hM1, hS1, hF1⟩
      clear m0 m1 m2 m3 m4 m5 m6 m7 m8 mt mf
      obtain ⟨m0, m1, m2, m3, m4, m5, m6, m7, m8, mt, mf⟩ := hM1.nine
      go_wp2_with fail
      go_end0
      exact ⟨rfl, _, hM1, by rw [unhide Hfin]; exact hS1, hF1⟩
end
end Go.Proofs.YtnkbfdbbcaffmaaGreatDoor
