import Derived.Test.YtnkbfdbbcaffmabX22KpH
import Derived.Deep.RegionLaw
/-
  input.
-/
namespace Go.Proofs.Ytnkbfdbbcaffmab
open Go.RowKit

/-- The input that numbers speak of. -/
def inpAt (V : Int) (ys : List Int) (i : Nat) : Int := if i < ys.length then pck (ys.getD i 0) V else 0
def inp (V : Int) (ys : List Int) (k : Nat) : List Int := (List.range k).map (inpAt V ys)
theorem inp_len (V : Int) (ys : List Int) (k : Nat) : (inp V ys k).length = k := by simp [inp]
theorem inp_succ (V : Int) (ys : List Int) (k : Nat) : inp V ys (k + 1) = inp V ys k ++ [inpAt V ys k] := by simp [inp, List.range_succ]
theorem inp_fits {V : Int} (hV : 1 ≤ V) (ys : List Int) (k : Nat) : Fits V (inp V ys k) := by
  intro x hx
  obtain ⟨i, _, rfl⟩ := List.mem_map.1 hx
  unfold inpAt
  split
  · exact pck_bd _ hV
  · omega

def intsL (σ : List Int) : List Value := σ.map fun z => .int .i64 z
/-- A list in a row of its own. -/
def Ir (w : World) (base : Nat) (v : Value) (σ : List Int) : Prop := w.ownsRow base 3 1 v σ.length (intsL σ)

theorem Ir.shape {w : World} {b : Nat} {v : Value} {σ : List Int} (h : Ir w b v σ) : ∃ so cap, v = .slice so σ.length cap := by
  rcases h.2 with ⟨h', h0⟩ | ⟨g, cap, cur, h', hb, _⟩
  · exact ⟨none, 0, by rw [h', h0]⟩
  · exact ⟨_, cap, h'⟩

theorem cell_one_drew (w : World) (t : TypeId) (v : Value) : ∀ j u, [v][j]? = some u → (w.alloc (.cells #[v] t)).drew.cell? ((⟨w.heap.size, 0, none⟩ : Addr).add j) = some u := by
  intro j u hj
  have h := At.cell (At.new w t #[v]) j
  rw [Addr.add_lit, Nat.zero_add]
  show World.cell? _ _ = _
  rw [World.cell?_drew, h]
  simpa using hj

theorem ir_post {w w' : World} {base : Nat} {v v' : Value} {τ : List Int} (z : Int) (hI : Ir w base v τ) (h1 : w'.ownsRow base 3 1 v' (τ.length + 1) (intsL τ ++ [.int .i64 z])) (h2 : w.grownBy w' v.ownBlock) (hb : base ≤ w.heap.size) :
    Ir w' base v' (τ ++ [z]) ∧ Below base w w' ∧ ∃ g' cap', v' = .slice (some ⟨g', 0, none⟩) (τ.length + 1) cap' := by
  have hown : ∀ k, v.ownBlock = some k → base ≤ k ∧ k < w.heap.size := World.ownsRow.lt hI
  refine ⟨?_, ?_, ?_⟩
  · unfold Ir
    rw [List.length_append]
    have e : intsL (τ ++ [z]) = intsL τ ++ [.int .i64 z] := by simp [intsL]
    rw [e]; exact h1
  · exact ⟨h2.os, h2.tape, h2.output, h2.size, fun k hk => h2.block k (by omega) (fun e => by have := hown k e.symm; omega)⟩
  · rcases h1.2 with ⟨_, h3⟩ | ⟨g', cap', cur, h4, _⟩
    · omega
    · exact ⟨g', cap', h4⟩

set_option maxRecDepth 20000 in
set_option maxHeartbeats 2000000 in
theorem input_1 (s ks : ByteArray) (n : Nat) (hks : ks.size ≤ 100) (ao : Option Addr) (cin : Nat) (ys : List Int) (hys : ∀ z ∈ ys, inI z) (w : World) (hL : LiesO w ao ys) :
    Calls Try.prog 6 #[.agg #[.string s, .string ks, .int .i64 1, .int .i64 n], .slice ao ys.length cin] w fun e w' => ∃ v, e = .returned v ∧ Ir w' (w.heap.size + 1) v (inp 2 ys ks.size) ∧ Below w.heap.size w w' := by
  obtain ⟨i0, hi0, hz0, hz1, hz2⟩ := info_parts Try.infoInt
  have HL := hide hL
  have Hys := hide hys
  clear hL hys
  go_enter Try.func6, Try.ntmps6
  go_wp2_with fail
  have hB0 := (Below.refl w.heap.size w).alloc (Nat.le_refl _) (.cells #[.string s, .string ks, .int .i64 1, .int .i64 n] 24)
  have hA0 := At.new w 24 #[.string s, .string ks, .int .i64 1, .int .i64 n]
  go_loopw [5, 6] (fun out i wr => ∃ k : Nat, i = .int .i64 k ∧ k ≤ ks.size ∧ Hid (Ir wr (w.heap.size + 1) out (inp 2 ys k)) ∧ At wr w.heap.size 24 #[.string s, .string ks, .int .i64 1, .int .i64 n] ∧ Hid (Below w.heap.size w wr)) (fun _ i _ => ks.size - (intOf i).toNat)
  case atStart => exact ⟨0, rfl, Nat.zero_le _, World.ownsRow_nil _ _ _ _, hA0, hB0⟩
  case round =>
    clear hA0 hB0
    obtain ⟨k, rfl, hk, hI, hA, hB⟩ := hrel
    obtain ⟨r0, r1, r2, r3⟩ := hA.four
    have hbl := hA.lt
    by_cases hlt : k < ks.size
    · have hlI : (k : Int) < (ks.size : Int) := by omega
      obtain ⟨so, cap, rfl⟩ := (unhide hI).shape
      have Hnx := hide (inp_succ 2 ys k)
      have hlen := inp_len 2 ys k
      generalize inp 2 ys k = τ at *
      subst hlen
      by_cases hy : τ.length < ys.length
      · have hyI : (τ.length : Int) < (ys.length : Int) := by omega
        rcases unhide HL with hn | ⟨ab, off, rfl, hLL, hab⟩
        · rw [hn] at hy; simp at hy
        have hc := hLL.at_ τ.length hy
        rw [← (unhide hB).cell (p := ⟨ab, off + τ.length, none⟩) hab] at hc
        have hin : inI (ys.getD τ.length 0) := by
          have e : ys.getD τ.length 0 = ys[τ.length] := by simp [List.getD, hy]
          rw [e]; exact unhide Hys _ (List.getElem_mem hy)
        have HP := hide (fun w0 => pick_any (ys.getD τ.length 0) 2 (by omega) (by omega) hin w0)
        have Hat := hide (show inpAt 2 ys τ.length = pck (ys.getD τ.length 0) 2 by unfold inpAt; rw [if_pos hy])
        clear hin hLL
        generalize ys.getD τ.length 0 = z at *
        generalize pck z 2 = r at *
        have hS0 := And.intro hc r2
        go_wp2_with fail
        go_region_held3 (fun w' => w'.cell? ⟨ab, off + τ.length, none⟩ = some (.int .i64 z) ∧ w'.cell? ⟨w.heap.size, 2, none⟩ = some (.int .i64 1)) (first | assumption | go_keep)
          ((go_at_call 7; refine (unhide HP _).mono ?_; rintro e w4 ⟨rfl, rfl⟩))
        go_wp2_with (at_builtin; refine wpList_append_own _ rfl (.tmp 27) (.tmp 29) 22 rfl (w.heap.size + 1) 3 i0 (.int .i64 0) 1 8 Try.underlying22 hi0 hz0 hz1 hz2 rfl (by decide) (.slice so τ.length cap) τ.length (intsL τ) rfl ?hown ⟨wr.heap.size, 0, none⟩ 1 1 [.int .i64 r] rfl rfl ?hcell ?hone ?hmax ?hbyte ?hbase ?hgo)
        case hown => exact World.ownsRow.alloc (unhide hI) _
        case hcell => exact cell_one_drew _ _ _
        case hone => simp [Value.oneCell']
        case hmax => unfold maxLen; omega
        case hbyte => omega
        case hbase => first | omega | (simp; omega)
        case hgo =>
          intro v' w' h1 h2 _
          have hI0 : Ir (wr.alloc (.cells #[.int .i64 r] 3)).drew (w.heap.size + 1) (.slice so τ.length cap) τ := World.ownsRow.alloc (unhide hI) _
          obtain ⟨hI1, hB1, g', cap', rfl⟩ := ir_post r hI0 h1 h2 (by simp; omega)
          have hB2 : Below (w.heap.size + 1) wr w' := (((Below.refl _ wr).alloc (by omega) _).drew).trans hB1
          have hA2 := hA.below hB2 (by omega)
          have HI1 := hide hI1
          have HB2 := hide ((unhide hB).trans (hB2.mono (by omega)))
          clear h1 h2 hI0 hI1 hB1 hB2
          go_wp2_with fail
          go_roundw
          case rel => exact ⟨τ.length + 1, by go_num, by omega, by rw [unhide Hnx, unhide Hat]; exact HI1, hA2, HB2⟩
          case measure => simp [intOf]; omega
      · have Hat := hide (show inpAt 2 ys τ.length = 0 by unfold inpAt; rw [if_neg hy])
        have hyI : ¬ (τ.length : Int) < (ys.length : Int) := by omega
        clear HL
        go_wp2_with (at_builtin; refine wpList_append_own _ rfl (.tmp 27) (.tmp 29) 22 rfl (w.heap.size + 1) 3 i0 (.int .i64 0) 1 8 Try.underlying22 hi0 hz0 hz1 hz2 rfl (by decide) (.slice so τ.length cap) τ.length (intsL τ) rfl ?hown ⟨wr.heap.size, 0, none⟩ 1 1 [.int .i64 0] rfl rfl ?hcell ?hone ?hmax ?hbyte ?hbase ?hgo)
        case hown => exact World.ownsRow.alloc (unhide hI) _
        case hone => simp [Value.oneCell']
        case hmax => unfold maxLen; omega
        case hbyte => omega
        case hbase => first | omega | (simp; omega)
        case hgo =>
          intro v' w' h1 h2 _
          have hI0 : Ir (wr.alloc (.cells #[.int .i64 0] 3)) (w.heap.size + 1) (.slice so τ.length cap) τ := World.ownsRow.alloc (unhide hI) _
          obtain ⟨hI1, hB1, g', cap', rfl⟩ := ir_post 0 hI0 h1 h2 (by simp; omega)
          have hB2 : Below (w.heap.size + 1) wr w' := (((Below.refl _ wr).alloc (by omega) _)).trans hB1
          have hA2 := hA.below hB2 (by omega)
          have HI1 := hide hI1
          have HB2 := hide ((unhide hB).trans (hB2.mono (by omega)))
          clear h1 h2 hI0 hI1 hB1 hB2
          go_wp2_with fail
          go_roundw
          case rel => exact ⟨τ.length + 1, by go_num, by omega, by rw [unhide Hnx, unhide Hat]; exact HI1, hA2, HB2⟩
          case measure => simp [intOf]; omega
    · have e : k = ks.size := by omega
      subst e
      go_wp2_with fail
      go_ret
      exact ⟨_, rfl, unhide hI, unhide hB⟩

set_option maxRecDepth 20000 in
set_option maxHeartbeats 2000000 in
theorem input_2 (s ks : ByteArray) (n : Nat) (hks : ks.size ≤ 100) (ao : Option Addr) (cin : Nat) (ys : List Int) (hys : ∀ z ∈ ys, inI z) (w : World) (hL : LiesO w ao ys) :
    Calls Try.prog 6 #[.agg #[.string s, .string ks, .int .i64 2, .int .i64 n], .slice ao ys.length cin] w fun e w' => ∃ v, e = .returned v ∧ Ir w' (w.heap.size + 1) v (inp 4 ys ks.size) ∧ Below w.heap.size w w' := by
  obtain ⟨i0, hi0, hz0, hz1, hz2⟩ := info_parts Try.infoInt
  have HL := hide hL
  have Hys := hide hys
  clear hL hys
  go_enter Try.func6, Try.ntmps6
  go_wp2_with fail
  have hB0 := (Below.refl w.heap.size w).alloc (Nat.le_refl _) (.cells #[.string s, .string ks, .int .i64 2, .int .i64 n] 24)
  have hA0 := At.new w 24 #[.string s, .string ks, .int .i64 2, .int .i64 n]
  go_loopw [5, 6] (fun out i wr => ∃ k : Nat, i = .int .i64 k ∧ k ≤ ks.size ∧ Hid (Ir wr (w.heap.size + 1) out (inp 4 ys k)) ∧ At wr w.heap.size 24 #[.string s, .string ks, .int .i64 2, .int .i64 n] ∧ Hid (Below w.heap.size w wr)) (fun _ i _ => ks.size - (intOf i).toNat)
  case atStart => exact ⟨0, rfl, Nat.zero_le _, World.ownsRow_nil _ _ _ _, hA0, hB0⟩
  case round =>
    clear hA0 hB0
    obtain ⟨k, rfl, hk, hI, hA, hB⟩ := hrel
    obtain ⟨r0, r1, r2, r3⟩ := hA.four
    have hbl := hA.lt
    by_cases hlt : k < ks.size
    · have hlI : (k : Int) < (ks.size : Int) := by omega
      obtain ⟨so, cap, rfl⟩ := (unhide hI).shape
      have Hnx := hide (inp_succ 4 ys k)
      have hlen := inp_len 4 ys k
      generalize inp 4 ys k = τ at *
      subst hlen
      by_cases hy : τ.length < ys.length
      · have hyI : (τ.length : Int) < (ys.length : Int) := by omega
        rcases unhide HL with hn | ⟨ab, off, rfl, hLL, hab⟩
        · rw [hn] at hy; simp at hy
        have hc := hLL.at_ τ.length hy
        rw [← (unhide hB).cell (p := ⟨ab, off + τ.length, none⟩) hab] at hc
        have hin : inI (ys.getD τ.length 0) := by
          have e : ys.getD τ.length 0 = ys[τ.length] := by simp [List.getD, hy]
          rw [e]; exact unhide Hys _ (List.getElem_mem hy)
        have HP := hide (fun w0 => pick_any (ys.getD τ.length 0) 4 (by omega) (by omega) hin w0)
        have Hat := hide (show inpAt 4 ys τ.length = pck (ys.getD τ.length 0) 4 by unfold inpAt; rw [if_pos hy])
        clear hin hLL
        generalize ys.getD τ.length 0 = z at *
        generalize pck z 4 = r at *
        have hS0 := And.intro hc r2
        go_wp2_with fail
        go_region_held3 (fun w' => w'.cell? ⟨ab, off + τ.length, none⟩ = some (.int .i64 z) ∧ w'.cell? ⟨w.heap.size, 2, none⟩ = some (.int .i64 2)) (first | assumption | go_keep)
          ((go_at_call 7; refine (unhide HP _).mono ?_; rintro e w4 ⟨rfl, rfl⟩))
        go_wp2_with (at_builtin; refine wpList_append_own _ rfl (.tmp 27) (.tmp 29) 22 rfl (w.heap.size + 1) 3 i0 (.int .i64 0) 1 8 Try.underlying22 hi0 hz0 hz1 hz2 rfl (by decide) (.slice so τ.length cap) τ.length (intsL τ) rfl ?hown ⟨wr.heap.size, 0, none⟩ 1 1 [.int .i64 r] rfl rfl ?hcell ?hone ?hmax ?hbyte ?hbase ?hgo)
        case hown => exact World.ownsRow.alloc (unhide hI) _
        case hcell => exact cell_one_drew _ _ _
        case hone => simp [Value.oneCell']
        case hmax => unfold maxLen; omega
        case hbyte => omega
        case hbase => first | omega | (simp; omega)
        case hgo =>
          intro v' w' h1 h2 _
          have hI0 : Ir (wr.alloc (.cells #[.int .i64 r] 3)).drew (w.heap.size + 1) (.slice so τ.length cap) τ := World.ownsRow.alloc (unhide hI) _
          obtain ⟨hI1, hB1, g', cap', rfl⟩ := ir_post r hI0 h1 h2 (by simp; omega)
          have hB2 : Below (w.heap.size + 1) wr w' := (((Below.refl _ wr).alloc (by omega) _).drew).trans hB1
          have hA2 := hA.below hB2 (by omega)
          have HI1 := hide hI1
          have HB2 := hide ((unhide hB).trans (hB2.mono (by omega)))
          clear h1 h2 hI0 hI1 hB1 hB2
          go_wp2_with fail
          go_roundw
          case rel => exact ⟨τ.length + 1, by go_num, by omega, by rw [unhide Hnx, unhide Hat]; exact HI1, hA2, HB2⟩
          case measure => simp [intOf]; omega
      · have Hat := hide (show inpAt 4 ys τ.length = 0 by unfold inpAt; rw [if_neg hy])
        have hyI : ¬ (τ.length : Int) < (ys.length : Int) := by omega
        clear HL
        go_wp2_with (at_builtin; refine wpList_append_own _ rfl (.tmp 27) (.tmp 29) 22 rfl (w.heap.size + 1) 3 i0 (.int .i64 0) 1 8 Try.underlying22 hi0 hz0 hz1 hz2 rfl (by decide) (.slice so τ.length cap) τ.length (intsL τ) rfl ?hown ⟨wr.heap.size, 0, none⟩ 1 1 [.int .i64 0] rfl rfl ?hcell ?hone ?hmax ?hbyte ?hbase ?hgo)
        case hown => exact World.ownsRow.alloc (unhide hI) _
        case hone => simp [Value.oneCell']
        case hmax => unfold maxLen; omega
        case hbyte => omega
        case hbase => first | omega | (simp; omega)
        case hgo =>
          intro v' w' h1 h2 _
          have hI0 : Ir (wr.alloc (.cells #[.int .i64 0] 3)) (w.heap.size + 1) (.slice so τ.length cap) τ := World.ownsRow.alloc (unhide hI) _
          obtain ⟨hI1, hB1, g', cap', rfl⟩ := ir_post 0 hI0 h1 h2 (by simp; omega)
          have hB2 : Below (w.heap.size + 1) wr w' := (((Below.refl _ wr).alloc (by omega) _)).trans hB1
          have hA2 := hA.below hB2 (by omega)
          have HI1 := hide hI1
          have HB2 := hide ((unhide hB).trans (hB2.mono (by omega)))
          clear h1 h2 hI0 hI1 hB1 hB2
          go_wp2_with fail
          go_roundw
          case rel => exact ⟨τ.length + 1, by go_num, by omega, by rw [unhide Hnx, unhide Hat]; exact HI1, hA2, HB2⟩
          case measure => simp [intOf]; omega
    · have e : k = ks.size := by omega
      subst e
      go_wp2_with fail
      go_ret
      exact ⟨_, rfl, unhide hI, unhide hB⟩

set_option maxRecDepth 20000 in
set_option maxHeartbeats 2000000 in
theorem input_3 (s ks : ByteArray) (n : Nat) (hks : ks.size ≤ 100) (ao : Option Addr) (cin : Nat) (ys : List Int) (hys : ∀ z ∈ ys, inI z) (w : World) (hL : LiesO w ao ys) :
    Calls Try.prog 6 #[.agg #[.string s, .string ks, .int .i64 3, .int .i64 n], .slice ao ys.length cin] w fun e w' => ∃ v, e = .returned v ∧ Ir w' (w.heap.size + 1) v (inp 8 ys ks.size) ∧ Below w.heap.size w w' := by
  obtain ⟨i0, hi0, hz0, hz1, hz2⟩ := info_parts Try.infoInt
  have HL := hide hL
  have Hys := hide hys
  clear hL hys
  go_enter Try.func6, Try.ntmps6
  go_wp2_with fail
  have hB0 := (Below.refl w.heap.size w).alloc (Nat.le_refl _) (.cells #[.string s, .string ks, .int .i64 3, .int .i64 n] 24)
  have hA0 := At.new w 24 #[.string s, .string ks, .int .i64 3, .int .i64 n]
  go_loopw [5, 6] (fun out i wr => ∃ k : Nat, i = .int .i64 k ∧ k ≤ ks.size ∧ Hid (Ir wr (w.heap.size + 1) out (inp 8 ys k)) ∧ At wr w.heap.size 24 #[.string s, .string ks, .int .i64 3, .int .i64 n] ∧ Hid (Below w.heap.size w wr)) (fun _ i _ => ks.size - (intOf i).toNat)
  case atStart => exact ⟨0, rfl, Nat.zero_le _, World.ownsRow_nil _ _ _ _, hA0, hB0⟩
  case round =>
    clear hA0 hB0
    obtain ⟨k, rfl, hk, hI, hA, hB⟩ := hrel
    obtain ⟨r0, r1, r2, r3⟩ := hA.four
    have hbl := hA.lt
    by_cases hlt : k < ks.size
    · have hlI : (k : Int) < (ks.size : Int) := by omega
      obtain ⟨so, cap, rfl⟩ := (unhide hI).shape
      have Hnx := hide (inp_succ 8 ys k)
      have hlen := inp_len 8 ys k
      generalize inp 8 ys k = τ at *
      subst hlen
      by_cases hy : τ.length < ys.length
      · have hyI : (τ.length : Int) < (ys.length : Int) := by omega
        rcases unhide HL with hn | ⟨ab, off, rfl, hLL, hab⟩
        · rw [hn] at hy; simp at hy
        have hc := hLL.at_ τ.length hy
        rw [← (unhide hB).cell (p := ⟨ab, off + τ.length, none⟩) hab] at hc
        have hin : inI (ys.getD τ.length 0) := by
          have e : ys.getD τ.length 0 = ys[τ.length] := by simp [List.getD, hy]
          rw [e]; exact unhide Hys _ (List.getElem_mem hy)
        have HP := hide (fun w0 => pick_any (ys.getD τ.length 0) 8 (by omega) (by omega) hin w0)
        have Hat := hide (show inpAt 8 ys τ.length = pck (ys.getD τ.length 0) 8 by unfold inpAt; rw [if_pos hy])
        clear hin hLL
        generalize ys.getD τ.length 0 = z at *
        generalize pck z 8 = r at *
        have hS0 := And.intro hc r2
        go_wp2_with fail
        go_region_held3 (fun w' => w'.cell? ⟨ab, off + τ.length, none⟩ = some (.int .i64 z) ∧ w'.cell? ⟨w.heap.size, 2, none⟩ = some (.int .i64 3)) (first | assumption | go_keep)
          ((go_at_call 7; refine (unhide HP _).mono ?_; rintro e w4 ⟨rfl, rfl⟩))
        go_wp2_with (at_builtin; refine wpList_append_own _ rfl (.tmp 27) (.tmp 29) 22 rfl (w.heap.size + 1) 3 i0 (.int .i64 0) 1 8 Try.underlying22 hi0 hz0 hz1 hz2 rfl (by decide) (.slice so τ.length cap) τ.length (intsL τ) rfl ?hown ⟨wr.heap.size, 0, none⟩ 1 1 [.int .i64 r] rfl rfl ?hcell ?hone ?hmax ?hbyte ?hbase ?hgo)
        case hown => exact World.ownsRow.alloc (unhide hI) _
        case hcell => exact cell_one_drew _ _ _
        case hone => simp [Value.oneCell']
        case hmax => unfold maxLen; omega
        case hbyte => omega
        case hbase => first | omega | (simp; omega)
        case hgo =>
          intro v' w' h1 h2 _
          have hI0 : Ir (wr.alloc (.cells #[.int .i64 r] 3)).drew (w.heap.size + 1) (.slice so τ.length cap) τ := World.ownsRow.alloc (unhide hI) _
          obtain ⟨hI1, hB1, g', cap', rfl⟩ := ir_post r hI0 h1 h2 (by simp; omega)
          have hB2 : Below (w.heap.size + 1) wr w' := (((Below.refl _ wr).alloc (by omega) _).drew).trans hB1
          have hA2 := hA.below hB2 (by omega)
          have HI1 := hide hI1
          have HB2 := hide ((unhide hB).trans (hB2.mono (by omega)))
          clear h1 h2 hI0 hI1 hB1 hB2
          go_wp2_with fail
          go_roundw
          case rel => exact ⟨τ.length + 1, by go_num, by omega, by rw [unhide Hnx, unhide Hat]; exact HI1, hA2, HB2⟩
          case measure => simp [intOf]; omega
      · have Hat := hide (show inpAt 8 ys τ.length = 0 by unfold inpAt; rw [if_neg hy])
        have hyI : ¬ (τ.length : Int) < (ys.length : Int) := by omega
        clear HL
        go_wp2_with (at_builtin; refine wpList_append_own _ rfl (.tmp 27) (.tmp 29) 22 rfl (w.heap.size + 1) 3 i0 (.int .i64 0) 1 8 Try.underlying22 hi0 hz0 hz1 hz2 rfl (by decide) (.slice so τ.length cap) τ.length (intsL τ) rfl ?hown ⟨wr.heap.size, 0, none⟩ 1 1 [.int .i64 0] rfl rfl ?hcell ?hone ?hmax ?hbyte ?hbase ?hgo)
        case hown => exact World.ownsRow.alloc (unhide hI) _
        case hone => simp [Value.oneCell']
        case hmax => unfold maxLen; omega
        case hbyte => omega
        case hbase => first | omega | (simp; omega)
        case hgo =>
          intro v' w' h1 h2 _
          have hI0 : Ir (wr.alloc (.cells #[.int .i64 0] 3)) (w.heap.size + 1) (.slice so τ.length cap) τ := World.ownsRow.alloc (unhide hI) _
          obtain ⟨hI1, hB1, g', cap', rfl⟩ := ir_post 0 hI0 h1 h2 (by simp; omega)
          have hB2 : Below (w.heap.size + 1) wr w' := (((Below.refl _ wr).alloc (by omega) _)).trans hB1
          have hA2 := hA.below hB2 (by omega)
          have HI1 := hide hI1
          have HB2 := hide ((unhide hB).trans (hB2.mono (by omega)))
          clear h1 h2 hI0 hI1 hB1 hB2
          go_wp2_with fail
          go_roundw
          case rel => exact ⟨τ.length + 1, by go_num, by omega, by rw [unhide Hnx, unhide Hat]; exact HI1, hA2, HB2⟩
          case measure => simp [intOf]; omega
    · have e : k = ks.size := by omega
      subst e
      go_wp2_with fail
      go_ret
      exact ⟨_, rfl, unhide hI, unhide hB⟩

set_option maxRecDepth 20000 in
set_option maxHeartbeats 2000000 in
theorem input_4 (s ks : ByteArray) (n : Nat) (hks : ks.size ≤ 100) (ao : Option Addr) (cin : Nat) (ys : List Int) (hys : ∀ z ∈ ys, inI z) (w : World) (hL : LiesO w ao ys) :
    Calls Try.prog 6 #[.agg #[.string s, .string ks, .int .i64 4, .int .i64 n], .slice ao ys.length cin] w fun e w' => ∃ v, e = .returned v ∧ Ir w' (w.heap.size + 1) v (inp 16 ys ks.size) ∧ Below w.heap.size w w' := by
  obtain ⟨i0, hi0, hz0, hz1, hz2⟩ := info_parts Try.infoInt
  have HL := hide hL
  have Hys := hide hys
  clear hL hys
  go_enter Try.func6, Try.ntmps6
  go_wp2_with fail
  have hB0 := (Below.refl w.heap.size w).alloc (Nat.le_refl _) (.cells #[.string s, .string ks, .int .i64 4, .int .i64 n] 24)
  have hA0 := At.new w 24 #[.string s, .string ks, .int .i64 4, .int .i64 n]
  go_loopw [5, 6] (fun out i wr => ∃ k : Nat, i = .int .i64 k ∧ k ≤ ks.size ∧ Hid (Ir wr (w.heap.size + 1) out (inp 16 ys k)) ∧ At wr w.heap.size 24 #[.string s, .string ks, .int .i64 4, .int .i64 n] ∧ Hid (Below w.heap.size w wr)) (fun _ i _ => ks.size - (intOf i).toNat)
  case atStart => exact ⟨0, rfl, Nat.zero_le _, World.ownsRow_nil _ _ _ _, hA0, hB0⟩
  case round =>
    clear hA0 hB0
    obtain ⟨k, rfl, hk, hI, hA, hB⟩ := hrel
    obtain ⟨r0, r1, r2, r3⟩ := hA.four
    have hbl := hA.lt
    by_cases hlt : k < ks.size
    · have hlI : (k : Int) < (ks.size : Int) := by omega
      obtain ⟨so, cap, rfl⟩ := (unhide hI).shape
      have Hnx := hide (inp_succ 16 ys k)
      have hlen := inp_len 16 ys k
      generalize inp 16 ys k = τ at *
      subst hlen
      by_cases hy : τ.length < ys.length
      · have hyI : (τ.length : Int) < (ys.length : Int) := by omega
        rcases unhide HL with hn | ⟨ab, off, rfl, hLL, hab⟩
        · rw [hn] at hy; simp at hy
        have hc := hLL.at_ τ.length hy
        rw [← (unhide hB).cell (p := ⟨ab, off + τ.length, none⟩) hab] at hc
        have hin : inI (ys.getD τ.length 0) := by
          have e : ys.getD τ.length 0 = ys[τ.length] := by simp [List.getD, hy]
          rw [e]; exact unhide Hys _ (List.getElem_mem hy)
        have HP := hide (fun w0 => pick_any (ys.getD τ.length 0) 16 (by omega) (by omega) hin w0)
        have Hat := hide (show inpAt 16 ys τ.length = pck (ys.getD τ.length 0) 16 by unfold inpAt; rw [if_pos hy])
        clear hin hLL
        generalize ys.getD τ.length 0 = z at *
        generalize pck z 16 = r at *
        have hS0 := And.intro hc r2
        go_wp2_with fail
        go_region_held3 (fun w' => w'.cell? ⟨ab, off + τ.length, none⟩ = some (.int .i64 z) ∧ w'.cell? ⟨w.heap.size, 2, none⟩ = some (.int .i64 4)) (first | assumption | go_keep)
          ((go_at_call 7; refine (unhide HP _).mono ?_; rintro e w4 ⟨rfl, rfl⟩))
        go_wp2_with (at_builtin; refine wpList_append_own _ rfl (.tmp 27) (.tmp 29) 22 rfl (w.heap.size + 1) 3 i0 (.int .i64 0) 1 8 Try.underlying22 hi0 hz0 hz1 hz2 rfl (by decide) (.slice so τ.length cap) τ.length (intsL τ) rfl ?hown ⟨wr.heap.size, 0, none⟩ 1 1 [.int .i64 r] rfl rfl ?hcell ?hone ?hmax ?hbyte ?hbase ?hgo)
        case hown => exact World.ownsRow.alloc (unhide hI) _
        case hcell => exact cell_one_drew _ _ _
        case hone => simp [Value.oneCell']
        case hmax => unfold maxLen; omega
        case hbyte => omega
        case hbase => first | omega | (simp; omega)
        case hgo =>
          intro v' w' h1 h2 _
          have hI0 : Ir (wr.alloc (.cells #[.int .i64 r] 3)).drew (w.heap.size + 1) (.slice so τ.length cap) τ := World.ownsRow.alloc (unhide hI) _
          obtain ⟨hI1, hB1, g', cap', rfl⟩ := ir_post r hI0 h1 h2 (by simp; omega)
          have hB2 : Below (w.heap.size + 1) wr w' := (((Below.refl _ wr).alloc (by omega) _).drew).trans hB1
          have hA2 := hA.below hB2 (by omega)
          have HI1 := hide hI1
          have HB2 := hide ((unhide hB).trans (hB2.mono (by omega)))
          clear h1 h2 hI0 hI1 hB1 hB2
          go_wp2_with fail
          go_roundw
          case rel => exact ⟨τ.length + 1, by go_num, by omega, by rw [unhide Hnx, unhide Hat]; exact HI1, hA2, HB2⟩
          case measure => simp [intOf]; omega
      · have Hat := hide (show inpAt 16 ys τ.length = 0 by unfold inpAt; rw [if_neg hy])
        have hyI : ¬ (τ.length : Int) < (ys.length : Int) := by omega
        clear HL
        go_wp2_with (at_builtin; refine wpList_append_own _ rfl (.tmp 27) (.tmp 29) 22 rfl (w.heap.size + 1) 3 i0 (.int .i64 0) 1 8 Try.underlying22 hi0 hz0 hz1 hz2 rfl (by decide) (.slice so τ.length cap) τ.length (intsL τ) rfl ?hown ⟨wr.heap.size, 0, none⟩ 1 1 [.int .i64 0] rfl rfl ?hcell ?hone ?hmax ?hbyte ?hbase ?hgo)
        case hown => exact World.ownsRow.alloc (unhide hI) _
        case hone => simp [Value.oneCell']
        case hmax => unfold maxLen; omega
        case hbyte => omega
        case hbase => first | omega | (simp; omega)
        case hgo =>
          intro v' w' h1 h2 _
          have hI0 : Ir (wr.alloc (.cells #[.int .i64 0] 3)) (w.heap.size + 1) (.slice so τ.length cap) τ := World.ownsRow.alloc (unhide hI) _
          obtain ⟨hI1, hB1, g', cap', rfl⟩ := ir_post 0 hI0 h1 h2 (by simp; omega)
          have hB2 : Below (w.heap.size + 1) wr w' := (((Below.refl _ wr).alloc (by omega) _)).trans hB1
          have hA2 := hA.below hB2 (by omega)
          have HI1 := hide hI1
          have HB2 := hide ((unhide hB).trans (hB2.mono (by omega)))
          clear h1 h2 hI0 hI1 hB1 hB2
          go_wp2_with fail
          go_roundw
          case rel => exact ⟨τ.length + 1, by go_num, by omega, by rw [unhide Hnx, unhide Hat]; exact HI1, hA2, HB2⟩
          case measure => simp [intOf]; omega
    · have e : k = ks.size := by omega
      subst e
      go_wp2_with fail
      go_ret
      exact ⟨_, rfl, unhide hI, unhide hB⟩

set_option maxRecDepth 20000 in
set_option maxHeartbeats 2000000 in
theorem input_5 (s ks : ByteArray) (n : Nat) (hks : ks.size ≤ 100) (ao : Option Addr) (cin : Nat) (ys : List Int) (hys : ∀ z ∈ ys, inI z) (w : World) (hL : LiesO w ao ys) :
    Calls Try.prog 6 #[.agg #[.string s, .string ks, .int .i64 5, .int .i64 n], .slice ao ys.length cin] w fun e w' => ∃ v, e = .returned v ∧ Ir w' (w.heap.size + 1) v (inp 32 ys ks.size) ∧ Below w.heap.size w w' := by
  obtain ⟨i0, hi0, hz0, hz1, hz2⟩ := info_parts Try.infoInt
  have HL := hide hL
  have Hys := hide hys
  clear hL hys
  go_enter Try.func6, Try.ntmps6
  go_wp2_with fail
  have hB0 := (Below.refl w.heap.size w).alloc (Nat.le_refl _) (.cells #[.string s, .string ks, .int .i64 5, .int .i64 n] 24)
  have hA0 := At.new w 24 #[.string s, .string ks, .int .i64 5, .int .i64 n]
  go_loopw [5, 6] (fun out i wr => ∃ k : Nat, i = .int .i64 k ∧ k ≤ ks.size ∧ Hid (Ir wr (w.heap.size + 1) out (inp 32 ys k)) ∧ At wr w.heap.size 24 #[.string s, .string ks, .int .i64 5, .int .i64 n] ∧ Hid (Below w.heap.size w wr)) (fun _ i _ => ks.size - (intOf i).toNat)
  case atStart => exact ⟨0, rfl, Nat.zero_le _, World.ownsRow_nil _ _ _ _, hA0, hB0⟩
  case round =>
    clear hA0 hB0
    obtain ⟨k, rfl, hk, hI, hA, hB⟩ := hrel
    obtain ⟨r0, r1, r2, r3⟩ := hA.four
    have hbl := hA.lt
    by_cases hlt : k < ks.size
    · have hlI : (k : Int) < (ks.size : Int) := by omega
      obtain ⟨so, cap, rfl⟩ := (unhide hI).shape
      have Hnx := hide (inp_succ 32 ys k)
      have hlen := inp_len 32 ys k
      generalize inp 32 ys k = τ at *
      subst hlen
      by_cases hy : τ.length < ys.length
      · have hyI : (τ.length : Int) < (ys.length : Int) := by omega
        rcases unhide HL with hn | ⟨ab, off, rfl, hLL, hab⟩
        · rw [hn] at hy; simp at hy
        have hc := hLL.at_ τ.length hy
        rw [← (unhide hB).cell (p := ⟨ab, off + τ.length, none⟩) hab] at hc
        have hin : inI (ys.getD τ.length 0) := by
          have e : ys.getD τ.length 0 = ys[τ.length] := by simp [List.getD, hy]
          rw [e]; exact unhide Hys _ (List.getElem_mem hy)
        have HP := hide (fun w0 => pick_any (ys.getD τ.length 0) 32 (by omega) (by omega) hin w0)
        have Hat := hide (show inpAt 32 ys τ.length = pck (ys.getD τ.length 0) 32 by unfold inpAt; rw [if_pos hy])
        clear hin hLL
        generalize ys.getD τ.length 0 = z at *
        generalize pck z 32 = r at *
        have hS0 := And.intro hc r2
        go_wp2_with fail
        go_region_held3 (fun w' => w'.cell? ⟨ab, off + τ.length, none⟩ = some (.int .i64 z) ∧ w'.cell? ⟨w.heap.size, 2, none⟩ = some (.int .i64 5)) (first | assumption | go_keep)
          ((go_at_call 7; refine (unhide HP _).mono ?_; rintro e w4 ⟨rfl, rfl⟩))
        go_wp2_with (at_builtin; refine wpList_append_own _ rfl (.tmp 27) (.tmp 29) 22 rfl (w.heap.size + 1) 3 i0 (.int .i64 0) 1 8 Try.underlying22 hi0 hz0 hz1 hz2 rfl (by decide) (.slice so τ.length cap) τ.length (intsL τ) rfl ?hown ⟨wr.heap.size, 0, none⟩ 1 1 [.int .i64 r] rfl rfl ?hcell ?hone ?hmax ?hbyte ?hbase ?hgo)
        case hown => exact World.ownsRow.alloc (unhide hI) _
        case hcell => exact cell_one_drew _ _ _
        case hone => simp [Value.oneCell']
        case hmax => unfold maxLen; omega
        case hbyte => omega
        case hbase => first | omega | (simp; omega)
        case hgo =>
          intro v' w' h1 h2 _
          have hI0 : Ir (wr.alloc (.cells #[.int .i64 r] 3)).drew (w.heap.size + 1) (.slice so τ.length cap) τ := World.ownsRow.alloc (unhide hI) _
          obtain ⟨hI1, hB1, g', cap', rfl⟩ := ir_post r hI0 h1 h2 (by simp; omega)
          have hB2 : Below (w.heap.size + 1) wr w' := (((Below.refl _ wr).alloc (by omega) _).drew).trans hB1
          have hA2 := hA.below hB2 (by omega)
          have HI1 := hide hI1
          have HB2 := hide ((unhide hB).trans (hB2.mono (by omega)))
          clear h1 h2 hI0 hI1 hB1 hB2
          go_wp2_with fail
          go_roundw
          case rel => exact ⟨τ.length + 1, by go_num, by omega, by rw [unhide Hnx, unhide Hat]; exact HI1, hA2, HB2⟩
          case measure => simp [intOf]; omega
      · have Hat := hide (show inpAt 32 ys τ.length = 0 by unfold inpAt; rw [if_neg hy])
        have hyI : ¬ (τ.length : Int) < (ys.length : Int) := by omega
        clear HL
        go_wp2_with (at_builtin; refine wpList_append_own _ rfl (.tmp 27) (.tmp 29) 22 rfl (w.heap.size + 1) 3 i0 (.int .i64 0) 1 8 Try.underlying22 hi0 hz0 hz1 hz2 rfl (by decide) (.slice so τ.length cap) τ.length (intsL τ) rfl ?hown ⟨wr.heap.size, 0, none⟩ 1 1 [.int .i64 0] rfl rfl ?hcell ?hone ?hmax ?hbyte ?hbase ?hgo)
        case hown => exact World.ownsRow.alloc (unhide hI) _
        case hone => simp [Value.oneCell']
        case hmax => unfold maxLen; omega
        case hbyte => omega
        case hbase => first | omega | (simp; omega)
        case hgo =>
          intro v' w' h1 h2 _
          have hI0 : Ir (wr.alloc (.cells #[.int .i64 0] 3)) (w.heap.size + 1) (.slice so τ.length cap) τ := World.ownsRow.alloc (unhide hI) _
          obtain ⟨hI1, hB1, g', cap', rfl⟩ := ir_post 0 hI0 h1 h2 (by simp; omega)
          have hB2 : Below (w.heap.size + 1) wr w' := (((Below.refl _ wr).alloc (by omega) _)).trans hB1
          have hA2 := hA.below hB2 (by omega)
          have HI1 := hide hI1
          have HB2 := hide ((unhide hB).trans (hB2.mono (by omega)))
          clear h1 h2 hI0 hI1 hB1 hB2
          go_wp2_with fail
          go_roundw
          case rel => exact ⟨τ.length + 1, by go_num, by omega, by rw [unhide Hnx, unhide Hat]; exact HI1, hA2, HB2⟩
          case measure => simp [intOf]; omega
    · have e : k = ks.size := by omega
      subst e
      go_wp2_with fail
      go_ret
      exact ⟨_, rfl, unhide hI, unhide hB⟩

set_option maxRecDepth 20000 in
set_option maxHeartbeats 2000000 in
theorem input_6 (s ks : ByteArray) (n : Nat) (hks : ks.size ≤ 100) (ao : Option Addr) (cin : Nat) (ys : List Int) (hys : ∀ z ∈ ys, inI z) (w : World) (hL : LiesO w ao ys) :
    Calls Try.prog 6 #[.agg #[.string s, .string ks, .int .i64 6, .int .i64 n], .slice ao ys.length cin] w fun e w' => ∃ v, e = .returned v ∧ Ir w' (w.heap.size + 1) v (inp 64 ys ks.size) ∧ Below w.heap.size w w' := by
  obtain ⟨i0, hi0, hz0, hz1, hz2⟩ := info_parts Try.infoInt
  have HL := hide hL
  have Hys := hide hys
  clear hL hys
  go_enter Try.func6, Try.ntmps6
  go_wp2_with fail
  have hB0 := (Below.refl w.heap.size w).alloc (Nat.le_refl _) (.cells #[.string s, .string ks, .int .i64 6, .int .i64 n] 24)
  have hA0 := At.new w 24 #[.string s, .string ks, .int .i64 6, .int .i64 n]
  go_loopw [5, 6] (fun out i wr => ∃ k : Nat, i = .int .i64 k ∧ k ≤ ks.size ∧ Hid (Ir wr (w.heap.size + 1) out (inp 64 ys k)) ∧ At wr w.heap.size 24 #[.string s, .string ks, .int .i64 6, .int .i64 n] ∧ Hid (Below w.heap.size w wr)) (fun _ i _ => ks.size - (intOf i).toNat)
  case atStart => exact ⟨0, rfl, Nat.zero_le _, World.ownsRow_nil _ _ _ _, hA0, hB0⟩
  case round =>
    clear hA0 hB0
    obtain ⟨k, rfl, hk, hI, hA, hB⟩ := hrel
    obtain ⟨r0, r1, r2, r3⟩ := hA.four
    have hbl := hA.lt
    by_cases hlt : k < ks.size
    · have hlI : (k : Int) < (ks.size : Int) := by omega
      obtain ⟨so, cap, rfl⟩ := (unhide hI).shape
      have Hnx := hide (inp_succ 64 ys k)
      have hlen := inp_len 64 ys k
      generalize inp 64 ys k = τ at *
      subst hlen
      by_cases hy : τ.length < ys.length
      · have hyI : (τ.length : Int) < (ys.length : Int) := by omega
        rcases unhide HL with hn | ⟨ab, off, rfl, hLL, hab⟩
        · rw [hn] at hy; simp at hy
        have hc := hLL.at_ τ.length hy
        rw [← (unhide hB).cell (p := ⟨ab, off + τ.length, none⟩) hab] at hc
        have hin : inI (ys.getD τ.length 0) := by
          have e : ys.getD τ.length 0 = ys[τ.length] := by simp [List.getD, hy]
          rw [e]; exact unhide Hys _ (List.getElem_mem hy)
        have HP := hide (fun w0 => pick_any (ys.getD τ.length 0) 64 (by omega) (by omega) hin w0)
        have Hat := hide (show inpAt 64 ys τ.length = pck (ys.getD τ.length 0) 64 by unfold inpAt; rw [if_pos hy])
        clear hin hLL
        generalize ys.getD τ.length 0 = z at *
        generalize pck z 64 = r at *
        have hS0 := And.intro hc r2
        go_wp2_with fail
        go_region_held3 (fun w' => w'.cell? ⟨ab, off + τ.length, none⟩ = some (.int .i64 z) ∧ w'.cell? ⟨w.heap.size, 2, none⟩ = some (.int .i64 6)) (first | assumption | go_keep)
          ((go_at_call 7; refine (unhide HP _).mono ?_; rintro e w4 ⟨rfl, rfl⟩))
        go_wp2_with (at_builtin; refine wpList_append_own _ rfl (.tmp 27) (.tmp 29) 22 rfl (w.heap.size + 1) 3 i0 (.int .i64 0) 1 8 Try.underlying22 hi0 hz0 hz1 hz2 rfl (by decide) (.slice so τ.length cap) τ.length (intsL τ) rfl ?hown ⟨wr.heap.size, 0, none⟩ 1 1 [.int .i64 r] rfl rfl ?hcell ?hone ?hmax ?hbyte ?hbase ?hgo)
        case hown => exact World.ownsRow.alloc (unhide hI) _
        case hcell => exact cell_one_drew _ _ _
        case hone => simp [Value.oneCell']
        case hmax => unfold maxLen; omega
        case hbyte => omega
        case hbase => first | omega | (simp; omega)
        case hgo =>
          intro v' w' h1 h2 _
          have hI0 : Ir (wr.alloc (.cells #[.int .i64 r] 3)).drew (w.heap.size + 1) (.slice so τ.length cap) τ := World.ownsRow.alloc (unhide hI) _
          obtain ⟨hI1, hB1, g', cap', rfl⟩ := ir_post r hI0 h1 h2 (by simp; omega)
          have hB2 : Below (w.heap.size + 1) wr w' := (((Below.refl _ wr).alloc (by omega) _).drew).trans hB1
          have hA2 := hA.below hB2 (by omega)
          have HI1 := hide hI1
          have HB2 := hide ((unhide hB).trans (hB2.mono (by omega)))
          clear h1 h2 hI0 hI1 hB1 hB2
          go_wp2_with fail
          go_roundw
          case rel => exact ⟨τ.length + 1, by go_num, by omega, by rw [unhide Hnx, unhide Hat]; exact HI1, hA2, HB2⟩
          case measure => simp [intOf]; omega
      · have Hat := hide (show inpAt 64 ys τ.length = 0 by unfold inpAt; rw [if_neg hy])
        have hyI : ¬ (τ.length : Int) < (ys.length : Int) := by omega
        clear HL
        go_wp2_with (at_builtin; refine wpList_append_own _ rfl (.tmp 27) (.tmp 29) 22 rfl (w.heap.size + 1) 3 i0 (.int .i64 0) 1 8 Try.underlying22 hi0 hz0 hz1 hz2 rfl (by decide) (.slice so τ.length cap) τ.length (intsL τ) rfl ?hown ⟨wr.heap.size, 0, none⟩ 1 1 [.int .i64 0] rfl rfl ?hcell ?hone ?hmax ?hbyte ?hbase ?hgo)
        case hown => exact World.ownsRow.alloc (unhide hI) _
        case hone => simp [Value.oneCell']
        case hmax => unfold maxLen; omega
        case hbyte => omega
        case hbase => first | omega | (simp; omega)
        case hgo =>
          intro v' w' h1 h2 _
          have hI0 : Ir (wr.alloc (.cells #[.int .i64 0] 3)) (w.heap.size + 1) (.slice so τ.length cap) τ := World.ownsRow.alloc (unhide hI) _
          obtain ⟨hI1, hB1, g', cap', rfl⟩ := ir_post 0 hI0 h1 h2 (by simp; omega)
          have hB2 : Below (w.heap.size + 1) wr w' := (((Below.refl _ wr).alloc (by omega) _)).trans hB1
          have hA2 := hA.below hB2 (by omega)
          have HI1 := hide hI1
          have HB2 := hide ((unhide hB).trans (hB2.mono (by omega)))
          clear h1 h2 hI0 hI1 hB1 hB2
          go_wp2_with fail
          go_roundw
          case rel => exact ⟨τ.length + 1, by go_num, by omega, by rw [unhide Hnx, unhide Hat]; exact HI1, hA2, HB2⟩
          case measure => simp [intOf]; omega
    · have e : k = ks.size := by omega
      subst e
      go_wp2_with fail
      go_ret
      exact ⟨_, rfl, unhide hI, unhide hB⟩

set_option maxRecDepth 20000 in
set_option maxHeartbeats 2000000 in
theorem input_7 (s ks : ByteArray) (n : Nat) (hks : ks.size ≤ 100) (ao : Option Addr) (cin : Nat) (ys : List Int) (hys : ∀ z ∈ ys, inI z) (w : World) (hL : LiesO w ao ys) :
    Calls Try.prog 6 #[.agg #[.string s, .string ks, .int .i64 7, .int .i64 n], .slice ao ys.length cin] w fun e w' => ∃ v, e = .returned v ∧ Ir w' (w.heap.size + 1) v (inp 128 ys ks.size) ∧ Below w.heap.size w w' := by
  obtain ⟨i0, hi0, hz0, hz1, hz2⟩ := info_parts Try.infoInt
  have HL := hide hL
  have Hys := hide hys
  clear hL hys
  go_enter Try.func6, Try.ntmps6
  go_wp2_with fail
  have hB0 := (Below.refl w.heap.size w).alloc (Nat.le_refl _) (.cells #[.string s, .string ks, .int .i64 7, .int .i64 n] 24)
  have hA0 := At.new w 24 #[.string s, .string ks, .int .i64 7, .int .i64 n]
  go_loopw [5, 6] (fun out i wr => ∃ k : Nat, i = .int .i64 k ∧ k ≤ ks.size ∧ Hid (Ir wr (w.heap.size + 1) out (inp 128 ys k)) ∧ At wr w.heap.size 24 #[.string s, .string ks, .int .i64 7, .int .i64 n] ∧ Hid (Below w.heap.size w wr)) (fun _ i _ => ks.size - (intOf i).toNat)
  case atStart => exact ⟨0, rfl, Nat.zero_le _, World.ownsRow_nil _ _ _ _, hA0, hB0⟩
  case round =>
    clear hA0 hB0
    obtain ⟨k, rfl, hk, hI, hA, hB⟩ := hrel
    obtain ⟨r0, r1, r2, r3⟩ := hA.four
    have hbl := hA.lt
    by_cases hlt : k < ks.size
    · have hlI : (k : Int) < (ks.size : Int) := by omega
      obtain ⟨so, cap, rfl⟩ := (unhide hI).shape
      have Hnx := hide (inp_succ 128 ys k)
      have hlen := inp_len 128 ys k
      generalize inp 128 ys k = τ at *
      subst hlen
      by_cases hy : τ.length < ys.length
      · have hyI : (τ.length : Int) < (ys.length : Int) := by omega
        rcases unhide HL with hn | ⟨ab, off, rfl, hLL, hab⟩
        · rw [hn] at hy; simp at hy
        have hc := hLL.at_ τ.length hy
        rw [← (unhide hB).cell (p := ⟨ab, off + τ.length, none⟩) hab] at hc
        have hin : inI (ys.getD τ.length 0) := by
          have e : ys.getD τ.length 0 = ys[τ.length] := by simp [List.getD, hy]
          rw [e]; exact unhide Hys _ (List.getElem_mem hy)
        have HP := hide (fun w0 => pick_any (ys.getD τ.length 0) 128 (by omega) (by omega) hin w0)
        have Hat := hide (show inpAt 128 ys τ.length = pck (ys.getD τ.length 0) 128 by unfold inpAt; rw [if_pos hy])
        clear hin hLL
        generalize ys.getD τ.length 0 = z at *
        generalize pck z 128 = r at *
        have hS0 := And.intro hc r2
        go_wp2_with fail
        go_region_held3 (fun w' => w'.cell? ⟨ab, off + τ.length, none⟩ = some (.int .i64 z) ∧ w'.cell? ⟨w.heap.size, 2, none⟩ = some (.int .i64 7)) (first | assumption | go_keep)
          ((go_at_call 7; refine (unhide HP _).mono ?_; rintro e w4 ⟨rfl, rfl⟩))
        go_wp2_with (at_builtin; refine wpList_append_own _ rfl (.tmp 27) (.tmp 29) 22 rfl (w.heap.size + 1) 3 i0 (.int .i64 0) 1 8 Try.underlying22 hi0 hz0 hz1 hz2 rfl (by decide) (.slice so τ.length cap) τ.length (intsL τ) rfl ?hown ⟨wr.heap.size, 0, none⟩ 1 1 [.int .i64 r] rfl rfl ?hcell ?hone ?hmax ?hbyte ?hbase ?hgo)
        case hown => exact World.ownsRow.alloc (unhide hI) _
        case hcell => exact cell_one_drew _ _ _
        case hone => simp [Value.oneCell']
        case hmax => unfold maxLen; omega
        case hbyte => omega
        case hbase => first | omega | (simp; omega)
        case hgo =>
          intro v' w' h1 h2 _
          have hI0 : Ir (wr.alloc (.cells #[.int .i64 r] 3)).drew (w.heap.size + 1) (.slice so τ.length cap) τ := World.ownsRow.alloc (unhide hI) _
          obtain ⟨hI1, hB1, g', cap', rfl⟩ := ir_post r hI0 h1 h2 (by simp; omega)
          have hB2 : Below (w.heap.size + 1) wr w' := (((Below.refl _ wr).alloc (by omega) _).drew).trans hB1
          have hA2 := hA.below hB2 (by omega)
          have HI1 := hide hI1
          have HB2 := hide ((unhide hB).trans (hB2.mono (by omega)))
          clear h1 h2 hI0 hI1 hB1 hB2
          go_wp2_with fail
          go_roundw
          case rel => exact ⟨τ.length + 1, by go_num, by omega, by rw [unhide Hnx, unhide Hat]; exact HI1, hA2, HB2⟩
          case measure => simp [intOf]; omega
      · have Hat := hide (show inpAt 128 ys τ.length = 0 by unfold inpAt; rw [if_neg hy])
        have hyI : ¬ (τ.length : Int) < (ys.length : Int) := by omega
        clear HL
        go_wp2_with (at_builtin; refine wpList_append_own _ rfl (.tmp 27) (.tmp 29) 22 rfl (w.heap.size + 1) 3 i0 (.int .i64 0) 1 8 Try.underlying22 hi0 hz0 hz1 hz2 rfl (by decide) (.slice so τ.length cap) τ.length (intsL τ) rfl ?hown ⟨wr.heap.size, 0, none⟩ 1 1 [.int .i64 0] rfl rfl ?hcell ?hone ?hmax ?hbyte ?hbase ?hgo)
        case hown => exact World.ownsRow.alloc (unhide hI) _
        case hone => simp [Value.oneCell']
        case hmax => unfold maxLen; omega
        case hbyte => omega
        case hbase => first | omega | (simp; omega)
        case hgo =>
          intro v' w' h1 h2 _
          have hI0 : Ir (wr.alloc (.cells #[.int .i64 0] 3)) (w.heap.size + 1) (.slice so τ.length cap) τ := World.ownsRow.alloc (unhide hI) _
          obtain ⟨hI1, hB1, g', cap', rfl⟩ := ir_post 0 hI0 h1 h2 (by simp; omega)
          have hB2 : Below (w.heap.size + 1) wr w' := (((Below.refl _ wr).alloc (by omega) _)).trans hB1
          have hA2 := hA.below hB2 (by omega)
          have HI1 := hide hI1
          have HB2 := hide ((unhide hB).trans (hB2.mono (by omega)))
          clear h1 h2 hI0 hI1 hB1 hB2
          go_wp2_with fail
          go_roundw
          case rel => exact ⟨τ.length + 1, by go_num, by omega, by rw [unhide Hnx, unhide Hat]; exact HI1, hA2, HB2⟩
          case measure => simp [intOf]; omega
    · have e : k = ks.size := by omega
      subst e
      go_wp2_with fail
      go_ret
      exact ⟨_, rfl, unhide hI, unhide hB⟩

set_option maxRecDepth 20000 in
set_option maxHeartbeats 2000000 in
theorem input_8 (s ks : ByteArray) (n : Nat) (hks : ks.size ≤ 100) (ao : Option Addr) (cin : Nat) (ys : List Int) (hys : ∀ z ∈ ys, inI z) (w : World) (hL : LiesO w ao ys) :
    Calls Try.prog 6 #[.agg #[.string s, .string ks, .int .i64 8, .int .i64 n], .slice ao ys.length cin] w fun e w' => ∃ v, e = .returned v ∧ Ir w' (w.heap.size + 1) v (inp 256 ys ks.size) ∧ Below w.heap.size w w' := by
  obtain ⟨i0, hi0, hz0, hz1, hz2⟩ := info_parts Try.infoInt
  have HL := hide hL
  have Hys := hide hys
  clear hL hys
  go_enter Try.func6, Try.ntmps6
  go_wp2_with fail
  have hB0 := (Below.refl w.heap.size w).alloc (Nat.le_refl _) (.cells #[.string s, .string ks, .int .i64 8, .int .i64 n] 24)
  have hA0 := At.new w 24 #[.string s, .string ks, .int .i64 8, .int .i64 n]
  go_loopw [5, 6] (fun out i wr => ∃ k : Nat, i = .int .i64 k ∧ k ≤ ks.size ∧ Hid (Ir wr (w.heap.size + 1) out (inp 256 ys k)) ∧ At wr w.heap.size 24 #[.string s, .string ks, .int .i64 8, .int .i64 n] ∧ Hid (Below w.heap.size w wr)) (fun _ i _ => ks.size - (intOf i).toNat)
  case atStart => exact ⟨0, rfl, Nat.zero_le _, World.ownsRow_nil _ _ _ _, hA0, hB0⟩
  case round =>
    clear hA0 hB0
    obtain ⟨k, rfl, hk, hI, hA, hB⟩ := hrel
    obtain ⟨r0, r1, r2, r3⟩ := hA.four
    have hbl := hA.lt
    by_cases hlt : k < ks.size
    · have hlI : (k : Int) < (ks.size : Int) := by omega
      obtain ⟨so, cap, rfl⟩ := (unhide hI).shape
      have Hnx := hide (inp_succ 256 ys k)
      have hlen := inp_len 256 ys k
      generalize inp 256 ys k = τ at *
      subst hlen
      by_cases hy : τ.length < ys.length
      · have hyI : (τ.length : Int) < (ys.length : Int) := by omega
        rcases unhide HL with hn | ⟨ab, off, rfl, hLL, hab⟩
        · rw [hn] at hy; simp at hy
        have hc := hLL.at_ τ.length hy
        rw [← (unhide hB).cell (p := ⟨ab, off + τ.length, none⟩) hab] at hc
        have hin : inI (ys.getD τ.length 0) := by
          have e : ys.getD τ.length 0 = ys[τ.length] := by simp [List.getD, hy]
          rw [e]; exact unhide Hys _ (List.getElem_mem hy)
        have HP := hide (fun w0 => pick_any (ys.getD τ.length 0) 256 (by omega) (by omega) hin w0)
        have Hat := hide (show inpAt 256 ys τ.length = pck (ys.getD τ.length 0) 256 by unfold inpAt; rw [if_pos hy])
        clear hin hLL
        generalize ys.getD τ.length 0 = z at *
        generalize pck z 256 = r at *
        have hS0 := And.intro hc r2
        go_wp2_with fail
        go_region_held3 (fun w' => w'.cell? ⟨ab, off + τ.length, none⟩ = some (.int .i64 z) ∧ w'.cell? ⟨w.heap.size, 2, none⟩ = some (.int .i64 8)) (first | assumption | go_keep)
          ((go_at_call 7; refine (unhide HP _).mono ?_; rintro e w4 ⟨rfl, rfl⟩))
        go_wp2_with (at_builtin; refine wpList_append_own _ rfl (.tmp 27) (.tmp 29) 22 rfl (w.heap.size + 1) 3 i0 (.int .i64 0) 1 8 Try.underlying22 hi0 hz0 hz1 hz2 rfl (by decide) (.slice so τ.length cap) τ.length (intsL τ) rfl ?hown ⟨wr.heap.size, 0, none⟩ 1 1 [.int .i64 r] rfl rfl ?hcell ?hone ?hmax ?hbyte ?hbase ?hgo)
        case hown => exact World.ownsRow.alloc (unhide hI) _
        case hcell => exact cell_one_drew _ _ _
        case hone => simp [Value.oneCell']
        case hmax => unfold maxLen; omega
        case hbyte => omega
        case hbase => first | omega | (simp; omega)
        case hgo =>
          intro v' w' h1 h2 _
          have hI0 : Ir (wr.alloc (.cells #[.int .i64 r] 3)).drew (w.heap.size + 1) (.slice so τ.length cap) τ := World.ownsRow.alloc (unhide hI) _
          obtain ⟨hI1, hB1, g', cap', rfl⟩ := ir_post r hI0 h1 h2 (by simp; omega)
          have hB2 : Below (w.heap.size + 1) wr w' := (((Below.refl _ wr).alloc (by omega) _).drew).trans hB1
          have hA2 := hA.below hB2 (by omega)
          have HI1 := hide hI1
          have HB2 := hide ((unhide hB).trans (hB2.mono (by omega)))
          clear h1 h2 hI0 hI1 hB1 hB2
          go_wp2_with fail
          go_roundw
          case rel => exact ⟨τ.length + 1, by go_num, by omega, by rw [unhide Hnx, unhide Hat]; exact HI1, hA2, HB2⟩
          case measure => simp [intOf]; omega
      · have Hat := hide (show inpAt 256 ys τ.length = 0 by unfold inpAt; rw [if_neg hy])
        have hyI : ¬ (τ.length : Int) < (ys.length : Int) := by omega
        clear HL
        go_wp2_with (at_builtin; refine wpList_append_own _ rfl (.tmp 27) (.tmp 29) 22 rfl (w.heap.size + 1) 3 i0 (.int .i64 0) 1 8 Try.underlying22 hi0 hz0 hz1 hz2 rfl (by decide) (.slice so τ.length cap) τ.length (intsL τ) rfl ?hown ⟨wr.heap.size, 0, none⟩ 1 1 [.int .i64 0] rfl rfl ?hcell ?hone ?hmax ?hbyte ?hbase ?hgo)
        case hown => exact World.ownsRow.alloc (unhide hI) _
        case hone => simp [Value.oneCell']
        case hmax => unfold maxLen; omega
        case hbyte => omega
        case hbase => first | omega | (simp; omega)
        case hgo =>
          intro v' w' h1 h2 _
          have hI0 : Ir (wr.alloc (.cells #[.int .i64 0] 3)) (w.heap.size + 1) (.slice so τ.length cap) τ := World.ownsRow.alloc (unhide hI) _
          obtain ⟨hI1, hB1, g', cap', rfl⟩ := ir_post 0 hI0 h1 h2 (by simp; omega)
          have hB2 : Below (w.heap.size + 1) wr w' := (((Below.refl _ wr).alloc (by omega) _)).trans hB1
          have hA2 := hA.below hB2 (by omega)
          have HI1 := hide hI1
          have HB2 := hide ((unhide hB).trans (hB2.mono (by omega)))
          clear h1 h2 hI0 hI1 hB1 hB2
          go_wp2_with fail
          go_roundw
          case rel => exact ⟨τ.length + 1, by go_num, by omega, by rw [unhide Hnx, unhide Hat]; exact HI1, hA2, HB2⟩
          case measure => simp [intOf]; omega
    · have e : k = ks.size := by omega
      subst e
      go_wp2_with fail
      go_ret
      exact ⟨_, rfl, unhide hI, unhide hB⟩

theorem input_any (s ks : ByteArray) (W n : Nat) (hW1 : 1 ≤ W) (hW : W ≤ 8) (hks : ks.size ≤ 100) (ao : Option Addr) (cin : Nat) (ys : List Int) (hys : ∀ z ∈ ys, inI z) (w : World) (hL : LiesO w ao ys) :
    Calls Try.prog 6 #[.agg #[.string s, .string ks, .int .i64 W, .int .i64 n], .slice ao ys.length cin] w fun e w' => ∃ v, e = .returned v ∧ Ir w' (w.heap.size + 1) v (inp (pw W) ys ks.size) ∧ Below w.heap.size w w' := by
  have : W = 1 ∨ W = 2 ∨ W = 3 ∨ W = 4 ∨ W = 5 ∨ W = 6 ∨ W = 7 ∨ W = 8 := by omega
  rcases this with rfl | rfl | rfl | rfl | rfl | rfl | rfl | rfl
  · exact input_1 s ks n hks ao cin ys hys w hL
  · exact input_2 s ks n hks ao cin ys hys w hL
  · exact input_3 s ks n hks ao cin ys hys w hL
  · exact input_4 s ks n hks ao cin ys hys w hL
  · exact input_5 s ks n hks ao cin ys hys w hL
  · exact input_6 s ks n hks ao cin ys hys w hL
  · exact input_7 s ks n hks ao cin ys hys w hL
  · exact input_8 s ks n hks ao cin ys hys w hL
end Go.Proofs.Ytnkbfdbbcaffmab
/-
  Rows of numbers; a run of a kernel that was made.
-/
namespace Go.Proofs.Ytnkbfdbbcaffmab
open Go.RowKit

theorem Ir.open_ {w : World} {base : Nat} {v : Value} {zs : List Int} (h : Ir w base v zs) (hp : 0 < zs.length) : ∃ g cap, v = .slice (some ⟨g, 0, none⟩) zs.length cap ∧ base ≤ g ∧ g < w.heap.size ∧ Lies w ⟨g, 0, none⟩ zs := by
  rcases h.2 with ⟨_, h0⟩ | ⟨g, cap, cur, h', hb, _⟩
  · omega
  · refine ⟨g, cap, h', hb, (World.ownsRow.lt h g (by rw [h']; rfl)).2, fun j z hj => ?_⟩
    exact World.ownsRow.cells h (g := g) (by rw [h']; rfl) j _ (by simp [intsL, hj])

theorem at_lies {w : World} {g : Nat} {zs : List Int} (h : At w g 3 (intsV zs)) : Lies w ⟨g, 0, none⟩ zs := fun j v hv => by
  rw [Addr.add_lit, Nat.zero_add, h.cell j]
  simp [intsV, hv]

theorem liesO_of {w : World} {g : Nat} {zs : List Int} (h : Lies w ⟨g, 0, none⟩ zs) (hg : g < w.heap.size) : LiesO w (some ⟨g, 0, none⟩) zs := .inr ⟨g, 0, rfl, h, hg⟩

/-- The run of a kernel. -/
def kR (s : ByteArray) (W n m : Nat) (view : Int) (zs : List Int) (fuel : Nat) : Res := runP (pw W) view n m fuel (krn s).cs (fuel + 1) 0 zs [] 0

section
variable {s ks : ByteArray} {W n m : Nat}
theorem KOK.chk (K : KOK s ks W n m) : (chk s).1 = 0 := by
  have := K.size
  unfold Go.Proofs.Ytnkbfdbbcaffmab.chk
  rw [if_neg (by omega), K.good]
  rfl

theorem KOK.prun (K : KOK s ks W n m) (view : Int) (hv0 : 0 ≤ view) (hv8 : view ≤ 8) (zs : List Int) (hz : zs.length = n + m) (hf : Fits (pw W) zs) (fuel : Nat) (hfu : fuel ≤ 10000) : pRun s view zs fuel = (0, kR s W n m view zs fuel) := by
  have hin : inB (pw W) (n + m) zs = true := by
    simp [inB, okV, hz]
    exact hf
  unfold pRun
  rw [K.wid, K.vars, K.words, K.chk, if_neg (by simp)]
  have hr : rfs (pw W) (n + m) view zs fuel = 0 := by
    unfold rfs
    rw [if_neg (by omega), if_neg (by rw [hin]; simp), if_neg (by omega)]
  rw [hr, if_neg (by simp)]
  simp [kR]

theorem kR_len (view : Int) (zs : List Int) (fuel : Nat) : (kR s W n m view zs fuel).σ.length = zs.length := runP_len _ _ _ _ _ _ _ _ _ _ _

theorem run_ok (K : KOK s ks W n m) (view : Int) (hv0 : 0 ≤ view) (hv8 : view ≤ 8) (zs : List Int) (hz : zs.length = n + m) (hf : Fits (pw W) zs) (fuel : Nat) (hfu : fuel ≤ 10000) (g cap : Nat) (w : World) (hL : Lies w ⟨g, 0, none⟩ zs) (hg : g < w.heap.size) :
    Calls Try.prog 9 #[.string s, .int .i64 view, .slice (some ⟨g, 0, none⟩) zs.length cap, .int .i64 fuel] w fun e w' => ∃ gs, e = .returned (.tuple #[.agg #[.int .i64 (kR s W n m view zs fuel).tag, .int .i64 (kR s W n m view zs fuel).steps, .string (strOfNums (kR s W n m view zs fuel).sn), .slice (some ⟨gs, 0, none⟩) zs.length zs.length], .int .i64 0]) ∧ At w' gs 3 (intsV (kR s W n m view zs fuel).σ) ∧ w.heap.size ≤ gs ∧ Below w.heap.size w w' := by
  have hn1 := K.n1
  have hn8 := K.n8
  have hm16 := K.m16
  have hsz := K.size
  refine (leakRun_any s (by unfold maxLen; omega) view fuel g 0 cap zs (by omega) w hL hg).mono ?_
  rintro e w' ⟨st, he, hst, hB⟩
  rw [K.prun view hv0 hv8 zs hz hf fuel hfu] at he hst
  have hlen := kR_len (s := s) (W := W) (n := n) (m := m) view zs fuel
  rcases hst with ⟨h0, _⟩ | ⟨gs, hst, hA, hgs⟩
  · dsimp only at h0
    rw [h0] at hlen; simp at hlen; omega
  · dsimp only at hst hA
    rw [hlen] at hst
    subst hst
    exact ⟨gs, he, hA, hgs, hB⟩

theorem kR_tag (view : Int) (zs : List Int) (fuel : Nat) : (kR s W n m view zs fuel).tag = 1 ∨ (kR s W n m view zs fuel).tag = 2 ∨ (kR s W n m view zs fuel).tag = 3 := runP_tag _ _ _ _ _ _ _ _ _ _ _
theorem KOK.begun (K : KOK s ks W n m) (view : Int) (zs : List Int) (fuel : Nat) : Starts (pw W) n (Lft s (3 + n + m)) zs fuel (kR s W n m view zs fuel) := K.starts view zs fuel
theorem kR_more (view : Int) (zs : List Int) (f f' : Nat) (h : f ≤ f') : (kR s W n m view zs f).steps ≤ f ∧
    ((kR s W n m view zs f).tag ≠ 3 → kR s W n m view zs f' = kR s W n m view zs f) ∧
    ((kR s W n m view zs f).tag = 3 → (kR s W n m view zs f).steps = f ∧ f ≤ (kR s W n m view zs f').steps ∧ ∃ t, (kR s W n m view zs f').sn = (kR s W n m view zs f).sn ++ t) := by
  have h := runP_more (pw W) view n m (krn s).cs f f' h (f + 1) 0 zs [] 0 (Nat.zero_le _) (by omega)
  rw [show f + 1 + (f' - f) = f' + 1 from by omega] at h
  exact h
end

theorem str_prefix {a b t : List Int} (h : b = a ++ t) : (strOfNums b).extract 0 (strOfNums a).size = strOfNums a ∧ (strOfNums a).size ≤ (strOfNums b).size := by
  subst h
  refine ⟨?_, by simp [strOfNums_size]⟩
  have e : strOfNums (a ++ t) = strOfNums a ++ strOfNums t := by
    apply ByteArray.ext
    simp [strOfNums]
  rw [e]
  apply ByteArray.ext
  apply Array.ext'
  rw [ByteArray.data_extract, ByteArray.data_append]
  simp
  exact List.take_of_length_le (by rw [← size_list]; exact Nat.le_refl _)

/-- What alikeEnds leaves. -/
def Alk (w : World) (c : Prop) (e : Ending) (w' : World) : Prop := ∃ bb, e = .returned (.bool bb) ∧ (c → bb = true) ∧ Below w.heap.size w w'

end Go.Proofs.Ytnkbfdbbcaffmab
