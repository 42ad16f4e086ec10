import Derived.Test.YtnkbfdbbcaffmaaGreatDoorX11Ari
import Derived.Test.YtnkbfdbbcaffmaaGreatDoorX16Mach6
import Derived.Test.YtnkbfdbbcaffmaaGreatDoorX14Mach3
/-
  The document's arithmetic.
-/
namespace Go.Proofs.YtnkbfdbbcaffmaaGreatDoor
open Go.RowKit

set_option maxHeartbeats 400000 in
theorem half_any (x : Int) (t : Nat) (h0 : 0 ≤ x) (h1 : x ≤ 255) (ht : t ≤ 255) (w : World) :
    Calls Tryz.prog 145 #[.int .i64 x, .int .i64 t] w fun e w' => e = .returned (.int .i64 (hlv t x)) ∧ w' = w := by
  generalize hr : hlv t x = r
  have Hr := hide hr
  clear hr
  go_enter Tryz.func145, Tryz.ntmps145
  go_wp2_with fail
  go_loop [0, 5] (fun xs i => ∃ (k : Nat) (y : Int), i = .int .i64 k ∧ xs = .int .i64 y ∧ k ≤ t ∧ 0 ≤ y ∧ y ≤ 255 ∧ Hid (hlv (t - k) y = r)) (fun _ i => t - (intOf i).toNat)
  case atStart => exact ⟨0, x, rfl, rfl, Nat.zero_le _, h0, h1, Hr⟩
  case round =>
    obtain ⟨k, y, rfl, rfl, hk, hy0, hy1, HK⟩ := hrel
    by_cases hlt : k < t
    · by_cases hy : 0 < y
      · have hs : hlv (t - (k + 1)) (y / 2) = r := by
          have := unhide HK
          rw [show t - k = (t - (k + 1)) + 1 from by omega, hlv, if_pos hy] at this
          exact this
        have Hs := hide hs
        clear hs
        go_wp2_with fail
        go_round
        case rel => exact ⟨k + 1, y / 2, by go_num, rfl, by omega, by omega, by omega, Hs⟩
        case measure => simp [intOf]; omega
      · have hs : y = r := by
          have hy : y = 0 := by omega
          have := unhide HK
          rw [hy, hlv_nil] at this
          rw [hy, this]
        have Hs := hide hs
        clear hs
        have hd : decide (0 < y) = false := by simpa using hy
        go_wp2_with fail
        go_ret
        exact ⟨ret_int (unhide Hs), rfl⟩
    · have hs : y = r := by
        have := unhide HK
        rw [show t - k = 0 from by omega] at this
        exact this
      have Hs := hide hs
      clear hs
      have hd : decide ((k : Int) < (t : Int)) = false := by simp; omega
      go_wp2_with fail
      go_ret
      exact ⟨ret_int (unhide Hs), rfl⟩

set_option maxHeartbeats 400000 in
theorem rbits_any (x : Int) (h0 : 0 ≤ x) (h1 : x ≤ 255) (w : World) :
    Calls Tryz.prog 143 #[.int .i64 x] w fun e w' => e = .returned (.int .i64 (btc 8 x)) ∧ w' = w := by
  generalize hr : btc 8 x = r
  have Hr := hide hr
  clear hr
  go_enter Tryz.func143, Tryz.ntmps143
  go_wp2_with fail
  go_loop [0, 3] (fun xs i => ∃ (k : Nat) (y : Int), i = .int .i64 k ∧ xs = .int .i64 y ∧ k ≤ 8 ∧ 0 ≤ y ∧ y ≤ 255 ∧ Hid (y * 2 ^ k ≤ 255) ∧ Hid (r = k + btc (8 - k) y)) (fun xs _ => (intOf xs).toNat)
  case atStart => exact ⟨0, x, rfl, rfl, by omega, h0, h1, by simpa [Hid] using h1, by rw [← unhide Hr]; simp [Hid]⟩
  case round =>
    obtain ⟨k, y, rfl, rfl, hk, hy0, hy1, HP, HK⟩ := hrel
    by_cases hy : 0 < y
    · have hk8 : k < 8 := by
        have h1 := unhide HP
        have h2 : ∀ k : Nat, k ≤ 8 → y * 2 ^ k ≤ 255 → k < 8 := by
          intro k hk h
          by_cases e : k = 8
          · subst e; omega
          · omega
        exact h2 k hk h1
      have hs : r = ((k + 1 : Nat) : Int) + btc (8 - (k + 1)) (y / 2) := by
        have := unhide HK
        rw [show 8 - k = (8 - (k + 1)) + 1 from by omega, btc, if_pos hy] at this
        rw [this]; omega
      have hp : y / 2 * 2 ^ (k + 1) ≤ 255 := by
        have h1 := unhide HP
        rw [Int.pow_succ]
        have h2 : y / 2 * (2 ^ k * 2) = (y / 2 * 2) * 2 ^ k := by rw [Int.mul_comm (2 ^ k) 2, ← Int.mul_assoc]
        rw [h2]
        have h3 : y / 2 * 2 ≤ y := by omega
        have h4 : (0 : Int) ≤ 2 ^ k := Int.pow_nonneg (by omega)
        exact Int.le_trans (Int.mul_le_mul_of_nonneg_right h3 h4) h1
      have Hs := hide hs
      have Hp := hide hp
      clear hs hp
      go_wp2_with fail
      go_round
      case rel => exact ⟨k + 1, y / 2, by go_num, rfl, by omega, by omega, by omega, Hp, Hs⟩
      case measure => simp [intOf]; omega
    · have hs : (k : Int) = r := by
        have hy : y = 0 := by omega
        have := unhide HK
        rw [hy, btc_nil] at this
        rw [this]; omega
      have Hs := hide hs
      clear hs
      go_wp2_with fail
      go_ret
      exact ⟨ret_int (unhide Hs), rfl⟩

set_option maxHeartbeats 400000 in
theorem times_any (x y : Int) (h0 : 0 ≤ x) (h1 : x ≤ 255) (h2 : 1 ≤ y) (h3 : y ≤ 255) (w : World) :
    Calls Tryz.prog 171 #[.int .i64 x, .int .i64 y] w fun e w' => e = .returned (.tuple #[.int .i64 (x / y), .int .i64 (x % y)]) ∧ w' = w := by
  go_enter Tryz.func171, Tryz.ntmps171
  go_wp2_with fail
  go_loop [0, 6] (fun xs i => ∃ (k : Nat) (z : Int), i = .int .i64 k ∧ xs = .int .i64 z ∧ k ≤ 255 ∧ 0 ≤ z ∧ z ≤ 255 ∧ (k : Int) ≤ 255 - z ∧ Hid (x = k * y + z)) (fun xs _ => (intOf xs).toNat)
  case atStart => exact ⟨0, x, rfl, rfl, by omega, h0, h1, by omega, by simp [Hid]⟩
  case round =>
    obtain ⟨k, z, rfl, rfl, hk, hz0, hz1, hkz, HK⟩ := hrel
    by_cases hy : y ≤ z
    · have hs : x = ((k + 1 : Nat) : Int) * y + (z - y) := by
        have := unhide HK
        rw [this, Int.natCast_add, Int.add_mul]; omega
      have Hs := hide hs
      clear hs
      go_wp2_with fail
      go_round
      case rel => exact ⟨k + 1, z - y, by go_num, rfl, by omega, by omega, by omega, by omega, Hs⟩
      case measure => simp [intOf]; omega
    · have hd : decide (y ≤ z) = false := by simpa using hy
      have hq : x / y = k ∧ x % y = z := by
        have := unhide HK
        have e := Int.ediv_emod_unique (a := x) (b := y) (r := z) (q := k) (by omega)
        have e2 := e.2 ⟨by rw [this, Int.mul_comm]; omega, by omega, by omega⟩
        exact e2
      have Hq := hide hq
      clear hq
      go_wp2_with fail
      go_ret2
      exact ⟨by rw [(unhide Hq).1, (unhide Hq).2]; rfl, rfl⟩
end Go.Proofs.YtnkbfdbbcaffmaaGreatDoor
/-
  The document's run in memory; told, value, test, touch.
-/
namespace Go.Proofs.YtnkbfdbbcaffmaaGreatDoor
open Go.RowKit

def intsL (σ : List Int) : List Value := σ.map fun c => Value.int .i64 c

/-- What the play holds besides: the kinds, the next line, the path. -/
structure KX where
  ks : ByteArray
  at_ : Int
  pv : Value
  ps : List Int
  lv : Value
  ls : List ByteArray

/-- The play in block b. -/
def Pl (w : World) (b : Nat) (N : Int) (n m : Nat) (st : Int) (ks : KX) (view : Int) (stv snv : Value) (tag steps : Int) (todo : ByteArray) : Prop :=
  At w b 90 #[.int .i64 N, .int .i64 n, .int .i64 m, .int .i64 st, .string ks.ks, .int .i64 view, stv, snv, .int .i64 tag, .int .i64 steps, .string todo, .int .i64 ks.at_, ks.pv]
def Sr (w : World) (b : Nat) (stv : Value) (σ : List Int) : Prop := w.ownsRow (b + 1) 3 1 stv σ.length (intsL σ)

section
variable {w w' : World} {b : Nat} {N : Int} {n m : Nat} {st : Int} {ks : KX} {view : Int} {stv snv : Value} {tag steps : Int} {todo : ByteArray} {σ sn : List Int}

theorem Pl.thirteen (h : Pl w b N n m st ks view stv snv tag steps todo) :
    w.cell? ⟨b, 0, none⟩ = some (.int .i64 N) ∧ w.cell? ⟨b, 1, none⟩ = some (.int .i64 n) ∧ w.cell? ⟨b, 2, none⟩ = some (.int .i64 m) ∧ w.cell? ⟨b, 3, none⟩ = some (.int .i64 st) ∧ w.cell? ⟨b, 5, none⟩ = some (.int .i64 view) ∧ w.cell? ⟨b, 6, none⟩ = some stv ∧ w.cell? ⟨b, 7, none⟩ = some snv ∧ w.cell? ⟨b, 8, none⟩ = some (.int .i64 tag) ∧ w.cell? ⟨b, 9, none⟩ = some (.int .i64 steps) ∧ w.cell? ⟨b, 10, none⟩ = some (.string todo) ∧ (∀ j, w.frozen? ⟨b, j, none⟩ = false) := by
  refine ⟨?_, ?_, ?_, ?_, ?_, ?_, ?_, ?_, ?_, ?_, fun j => h.frozen j⟩ <;> (rw [h.cell]; rfl)
theorem Pl.setSeen (h : Pl w b N n m st ks view stv snv tag steps todo) (v : Value) : Pl (w.setCell ⟨b, 7, none⟩ v) b N n m st ks view stv v tag steps todo := by
  have := At.set h 7 v; simpa [Pl] using this
theorem Pl.setTag (h : Pl w b N n m st ks view stv snv tag steps todo) (v : Int) : Pl (w.setCell ⟨b, 8, none⟩ (.int .i64 v)) b N n m st ks view stv snv v steps todo := by
  have := At.set h 8 (.int .i64 v); simpa [Pl] using this
theorem Pl.setSteps (h : Pl w b N n m st ks view stv snv tag steps todo) (v : Int) : Pl (w.setCell ⟨b, 9, none⟩ (.int .i64 v)) b N n m st ks view stv snv tag v todo := by
  have := At.set h 9 (.int .i64 v); simpa [Pl] using this
theorem Pl.setTodo (h : Pl w b N n m st ks view stv snv tag steps todo) (v : ByteArray) : Pl (w.setCell ⟨b, 10, none⟩ (.string v)) b N n m st ks view stv snv tag steps v := by
  have := At.set h 10 (.string v); simpa [Pl] using this
theorem Sr.set (h : Sr w b stv σ) {a : Addr} (v : Value) (ha : a.block ≤ b) : Sr (w.setCell a v) b stv σ := ownsRow_setCell_below h (Nat.lt_succ_of_le ha) v
theorem Sr.form (h : Sr w b stv σ) (hne : σ ≠ []) : ∃ g cap, stv = .slice (some ⟨g, 0, none⟩) σ.length cap ∧ b < g := by
  rcases h.2 with ⟨_, h0⟩ | ⟨g, cap, cur, h', hb, _⟩
  · exact absurd (List.eq_nil_of_length_eq_zero h0) hne
  · exact ⟨g, cap, h', by omega⟩
theorem Sr.cell {g cap : Nat} (h : Sr w b (.slice (some ⟨g, 0, none⟩) σ.length cap) σ) (i : Nat) (hi : i < σ.length) : w.cell? ⟨g, i, none⟩ = some (.int .i64 (σ.getD i 0)) := by
  rw [World.ownsRow.cellAt h i (by omega)]
  simp [intsL, List.getD, hi]
theorem Sr.fz {g cap : Nat} (h : Sr w b (.slice (some ⟨g, 0, none⟩) σ.length cap) σ) (i : Nat) : w.frozen? ⟨g, i, none⟩ = false := World.ownsRow.frozenAt h i
theorem Sr.put {g cap : Nat} (h : Sr w b (.slice (some ⟨g, 0, none⟩) σ.length cap) σ) (i : Nat) (v : Int) : Sr (w.setCell ⟨g, i, none⟩ (.int .i64 v)) b (.slice (some ⟨g, 0, none⟩) σ.length cap) (σ.set i v) := by
  have h2 := (World.ownsRow.stored h i (.int .i64 v)).1
  unfold Sr
  rw [List.length_set]
  have e : intsL (σ.set i v) = (intsL σ).set i (.int .i64 v) := by simp [intsL, List.map_set]
  rw [e]; exact h2
/-- A row of numbers and a row of bytes are two. -/
theorem Sn.putS {g cap : Nat} (hS : Sn w b snv sn) (h : Sr w b (.slice (some ⟨g, 0, none⟩) σ.length cap) σ) (i : Nat) (v : Value) : Sn (w.setCell ⟨g, i, none⟩ v) b snv sn := by
  obtain ⟨h1, h2⟩ := hS
  refine ⟨h1, ?_⟩
  rcases h2 with h2 | ⟨g2, cap2, cur, e1, e2, e3, e4⟩
  · exact .inl h2
  · refine .inr ⟨g2, cap2, cur, e1, e2, ?_, e4⟩
    rw [Below.heap_setCell _ _ _ _ (by
      intro e
      simp at e
      subst e
      rcases h.2 with ⟨h0, _⟩ | ⟨g3, cap3, cur3, h3, _, h4, _⟩
      · cases h0
      · simp at h3
        obtain ⟨rfl, _⟩ := h3
        rw [h4] at e3
        simp at e3)]
    exact e3

/-- The path's row and the lines', which are not the state's. -/
def Px (w : World) (b : Nat) (stv : Value) (ks : KX) : Prop :=
  (w.ownsRow (b + 1) 3 1 ks.pv ks.ps.length (intsL ks.ps) ∧ ∀ g, stv.ownBlock = some g → ks.pv.ownBlock ≠ some g) ∧ (w.ownsRow (b + 1) 9 1 ks.lv ks.ls.length (ks.ls.map fun l => Value.string l) ∧ ∀ g, stv.ownBlock = some g → ks.lv.ownBlock ≠ some g)
theorem Px.nil (w : World) (b : Nat) (stv : Value) (k : ByteArray) (a : Int) : Px w b stv ⟨k, a, .slice none 0 0, [], .slice none 0 0, []⟩ := ⟨⟨World.ownsRow_nil _ _ _ _, fun g _ e => by cases e⟩, ⟨World.ownsRow_nil _ _ _ _, fun g _ e => by cases e⟩⟩
theorem Px.set (h : Px w b stv ks) {a : Addr} (v : Value) (ha : a.block ≤ b) : Px (w.setCell a v) b stv ks := ⟨⟨ownsRow_setCell_below h.1.1 (Nat.lt_succ_of_le ha) v, h.1.2⟩, ⟨ownsRow_setCell_below h.2.1 (Nat.lt_succ_of_le ha) v, h.2.2⟩⟩
theorem row_other {t : TypeId} {pv : Value} {k : Nat} {l : List Value} (h : w.ownsRow (b + 1) t 1 pv k l) {g : Nat} (hne : pv.ownBlock ≠ some g) (i : Nat) (v : Value) : (w.setCell ⟨g, i, none⟩ v).ownsRow (b + 1) t 1 pv k l := by
  obtain ⟨h1, h2⟩ := h
  refine ⟨h1, ?_⟩
  rcases h2 with h2 | ⟨g', cap', cur, e1, e2, e3, e4⟩
  · exact .inl h2
  · refine .inr ⟨g', cap', cur, e1, e2, ?_, e4⟩
    rw [Below.heap_setCell _ _ _ _ (by
      intro e
      apply hne
      rw [e1]
      simp at e
      rw [← e]; rfl)]
    exact e3
theorem Px.putS {g l cap : Nat} (h : Px w b (.slice (some ⟨g, 0, none⟩) l cap) ks) (i : Nat) (v : Value) : Px (w.setCell ⟨g, i, none⟩ v) b (.slice (some ⟨g, 0, none⟩) l cap) ks :=
  ⟨⟨row_other h.1.1 (h.1.2 g rfl) i v, h.1.2⟩, ⟨row_other h.2.1 (h.2.2 g rfl) i v, h.2.2⟩⟩
/-- A row of another type than the one that grew is as it was. -/
theorem row_keep {t t' : TypeId} (ht : t ≠ t') {pv qv : Value} {k k' : Nat} {l l' : List Value} {o : Obj} (h : w.ownsRow (b + 1) t 1 pv k l) (hS : w.ownsRow (b + 1) t' 1 qv k' l') (h2 : (w.alloc o).grownBy w' qv.ownBlock) : w'.ownsRow (b + 1) t 1 pv k l := by
  obtain ⟨q1, q2⟩ := h
  refine ⟨q1, ?_⟩
  rcases q2 with q2 | ⟨g, cap2, cur, e1, e2, e3, e4⟩
  · exact .inl q2
  · refine .inr ⟨g, cap2, cur, e1, e2, ?_, e4⟩
    have hl : g < w.heap.size := (Array.getElem?_eq_some_iff.1 e3).1
    rw [h2.block g (by simp; omega) (fun e => by
      rcases hS.2 with ⟨e0, _⟩ | ⟨g5, cap5, cur5, e5, _, e6, _⟩
      · rw [e0] at e; cases e
      · rw [e5] at e
        simp [Value.ownBlock] at e
        subst e
        rw [e3] at e6
        simp at e6
        exact ht e6.2), Below.heap_alloc _ _ _ hl]
    exact e3

theorem pl_post {ao : Option Addr} {cap : Nat} (hP : Pl w b N n m st ks view stv (.slice ao sn.length cap) tag steps todo) (hT : Sr w b stv σ) (hS : Sn w b (.slice ao sn.length cap) sn) (hX : Px w b stv ks) (c : Int) (o : Obj) {v' : Value}
    (h1 : w'.ownsRow (b + 1) 5 1 v' (sn.length + 1) (bytesV sn ++ [.int .u8 c])) (h2 : (w.alloc o).grownBy w' (Value.slice ao sn.length cap).ownBlock) :
    Pl w' b N n m st ks view stv (.slice ao sn.length cap) tag steps todo ∧ Sr w' b stv σ ∧ Sn w' b v' (sn ++ [c]) ∧ Px w' b stv ks ∧ Below b w w' ∧ ∃ g' cap', v' = .slice (some ⟨g', 0, none⟩) (sn.length + 1) cap' := by
  have hb := At.lt hP
  have hown : ∀ k, (Value.slice ao sn.length cap).ownBlock = some k → b + 1 ≤ k ∧ k < w.heap.size := World.ownsRow.lt hS
  have ne1 : some b ≠ (Value.slice ao sn.length cap).ownBlock := fun e => by have := hown b e.symm; omega
  refine ⟨(At.alloc hP o).grown h2 ne1, ?_, ?_, ⟨⟨row_keep (by decide) hX.1.1 hS h2, hX.1.2⟩, ⟨row_keep (by decide) hX.2.1 hS h2, hX.2.2⟩⟩, ?_, ?_⟩
  · exact row_keep (by decide) hT hS h2
  · unfold Sn
    rw [List.length_append]
    have e : bytesV (sn ++ [c]) = bytesV sn ++ [.int .u8 c] := by simp [bytesV]
    rw [e]; exact h1
  · refine ((Below.refl b w).alloc (by omega) o).trans ?_
    exact ⟨h2.os, h2.tape, h2.output, h2.size, fun k hk => h2.block k (by simp; omega) (fun e => by have := hown k e.symm; omega)⟩
  · rcases h1.2 with ⟨_, h3⟩ | ⟨g', cap', cur, h4, _⟩
    · omega
    · exact ⟨g', cap', h4⟩

/-- The play with its rows. -/
def PlS (w : World) (b : Nat) (N : Int) (n m : Nat) (st : Int) (ks : KX) (view : Int) (σ sn : List Int) (tag steps : Int) (todo : ByteArray) : Prop :=
  ∃ stv snv, Pl w b N n m st ks view stv snv tag steps todo ∧ Sr w b stv σ ∧ Sn w b snv sn ∧ Px w b stv ks

set_option maxHeartbeats 1000000 in
theorem told_any (h : PlS w b N n m st ks view σ sn tag steps todo) (hl : sn.length ≤ 100000) (c : Int) :
    Calls Tryz.prog 111 #[.pointer (some ⟨b, 0, none⟩), .int .u8 c] w fun e w' => e = .returned (.tuple #[]) ∧ PlS w' b N n m st ks view σ (sn ++ [c]) tag steps todo ∧ Below b w w' := by
  obtain ⟨stv, snv, hP, hT, hS, hX⟩ := h
  obtain ⟨i0, hi0, hz0, hz1, hz2⟩ := info_parts Tryz.infoByte
  obtain ⟨ao, cap, rfl⟩ := hS.shape
  obtain ⟨m0, m1, m2, m3, m4, m5, m6, m7, m8, m9, mf⟩ := hP.thirteen
  have hbl : b < w.heap.size := At.lt hP
  go_enter Tryz.func111, Tryz.ntmps111
  go_wp2_with (at_builtin; refine wpList_append_own _ rfl (.tmp 8) (.tmp 10) 88 rfl (b + 1) 5 i0 (.int .u8 0) 1 1 Tryz.underlying88 hi0 hz0 hz1 hz2 rfl (by decide) (.slice ao sn.length cap) sn.length (bytesV sn) rfl ?_ ⟨w.heap.size, 0, none⟩ 1 1 [.int .u8 c] rfl rfl ?_ ?_ ?_ ?_ ?_ ?_)
  · exact World.ownsRow.alloc hS _
  · exact cell_one_new _ _ _
  · simp [Value.oneCell']
  · unfold maxLen; omega
  · omega
  · simp; omega
  · intro v' w' h1 h2 _
    obtain ⟨hP', hT', hS', hX', hB, g', cap', rfl⟩ := pl_post hP hT hS hX c _ h1 h2
    clear m0 m1 m2 m3 m4 m5 m6 m7 m8 m9 mf h1 h2
    obtain ⟨m0, m1, m2, m3, m4, m5, m6, m7, m8, m9, mf⟩ := hP'.thirteen
    go_wp2_with fail
    go_end0
    exact ⟨rfl, ⟨_, _, hP'.setSeen _, hT'.set _ (Nat.le_refl _), hS'.set _ (Nat.le_refl _), hX'.set _ (Nat.le_refl _)⟩, hB.setCell (Nat.le_refl _) _⟩

set_option maxHeartbeats 1000000 in
theorem rvalue_any (h : PlS w b N n m st ks view σ sn tag steps todo) (c : Int) (h0 : 48 ≤ c) (h1 : c ≤ 255) (hN : 1 ≤ N) (_hN2 : N ≤ 256) (hc : 97 ≤ c → (c - 97).toNat < σ.length) :
    Calls Tryz.prog 110 #[.pointer (some ⟨b, 0, none⟩), .int .u8 c] w fun e w' => e = .returned (.int .i64 (vb N σ c)) ∧ w' = w := by
  obtain ⟨stv, snv, hP, hT, hS, hX⟩ := h
  obtain ⟨m0, m1, m2, m3, m4, m5, m6, m7, m8, m9, mf⟩ := hP.thirteen
  unfold vb
  by_cases hl : 97 ≤ c
  · rw [if_pos hl]
    have hi := hc hl
    obtain ⟨g, cap, rfl, hg⟩ := hT.form (by rintro rfl; simp at hi)
    obtain ⟨i, hic⟩ : ∃ i : Nat, c = 97 + (i : Int) := ⟨(c - 97).toNat, by omega⟩
    subst hic
    have e : (97 + (i : Int) - 97).toNat = i := by omega
    rw [e] at hi ⊢
    have cS := hT.cell i hi
    generalize σ.getD i 0 = r at *
    clear e hc
    go_enter Tryz.func110, Tryz.ntmps110
    go_wp2_with fail
    go_ret
    exact ⟨rfl, rfl⟩
  · rw [if_neg hl]
    go_enter Tryz.func110, Tryz.ntmps110
    go_wp2_with fail
    go_ret
    exact ⟨rfl, rfl⟩

set_option maxHeartbeats 1000000 in
theorem rtest_any (h : PlS w b N n m st ks view σ sn tag steps todo) (hl : sn.length ≤ 100000) (c : Int) (h0 : 48 ≤ c) (h1 : c ≤ 255) (hN : 1 ≤ N) (hN2 : N ≤ 256) (hc : 97 ≤ c → (c - 97).toNat < σ.length) :
    Calls Tryz.prog 90 #[.pointer (some ⟨b, 0, none⟩), .int .u8 c] w fun e w' => e = .returned (.bool (!(vb N σ c == 0))) ∧ PlS w' b N n m st ks view σ (sn ++ [if vb N σ c = 0 then 102 else 116]) tag steps todo ∧ Below b w w' := by
  have hv := hide (rvalue_any h c h0 h1 hN hN2 hc)
  have ht1 := hide (told_any h hl 102)
  have ht2 := hide (told_any h hl 116)
  generalize vb N σ c = x at *
  by_cases hx : x = 0
  · have hb : (x == 0) = true := by simpa using hx
    rw [if_pos hx, hb]
    clear hx
    go_enter Tryz.func90, Tryz.ntmps90
    go_wp2_with fail
    refine (unhide hv).mono ?_
    rintro e w' ⟨rfl, rfl⟩
    go_wp2_with fail
    refine (unhide ht1).mono ?_
    rintro e w2 ⟨rfl, hP2, hB2⟩
    go_wp2_with fail
    go_ret
    exact ⟨rfl, hP2, hB2⟩
  · have hb : (x == 0) = false := by simpa using hx
    rw [if_neg hx, hb]
    clear hx
    go_enter Tryz.func90, Tryz.ntmps90
    go_wp2_with fail
    refine (unhide hv).mono ?_
    rintro e w' ⟨rfl, rfl⟩
    go_wp2_with fail
    refine (unhide ht2).mono ?_
    rintro e w2 ⟨rfl, hP2, hB2⟩
    go_wp2_with fail
    go_ret
    exact ⟨rfl, hP2, hB2⟩
end
end Go.Proofs.YtnkbfdbbcaffmaaGreatDoor
