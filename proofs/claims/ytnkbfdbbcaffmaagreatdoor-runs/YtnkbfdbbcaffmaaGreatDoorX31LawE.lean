import Derived.Test.YtnkbfdbbcaffmaaGreatDoorX30LawC
/-
  plays, UpTo, Runs.
-/
namespace Go.Proofs.YtnkbfdbbcaffmaaGreatDoor
open Go.RowKit

/-- A list of numbers that came in. -/
def IsInts (w : World) (v : Value) : Prop := ∃ ao cin zs, v = .slice ao (zs : List Int).length cin ∧ zs.length ≤ 17592186043904 ∧ LiesO w ao zs

/-- A script that came in, its lists of numbers too. -/
def IsScript2 (w : World) (ao : Option Addr) (len : Nat) : Prop :=
  len ≤ 1466015503701 ∧ (len = 0 ∨ ∃ b off, ao = some ⟨b, off, none⟩ ∧ b < w.heap.size ∧
    ∀ i, i < len → ∃ kind n m p S va vb, OpAt w b (off + i * 7) kind n m p S va vb ∧ S.size ≤ maxLen ∧ IsInts w va ∧ IsSlice vb)

set_option maxHeartbeats 1000000 in
theorem plays_run {w : World} {b : Nat} {lv : Value} {ls : List Value} (h : Bk w b lv ls) (hl : ls.length ≤ 1466015503701) (n m p : Int) (S : ByteArray) (hS : S.size ≤ maxLen) (ao : Option Addr) (cin : Nat) (zs : List Int) (hz : zs.length ≤ 17592186043904) (hL : LiesB w b ao zs) (a2 : Option Addr) (l2 c2 : Nat) :
    Calls Tryz.prog 13 #[.pointer (some ⟨b, 0, none⟩), .agg #[.int .i64 2, .int .i64 n, .int .i64 m, .int .i64 p, .string S, .slice ao zs.length cin, .slice a2 l2 c2]] w fun e w' => e = .returned (.bool true) ∧ (∃ lv' f, Bk w' b lv' (ls ++ [f])) ∧ Below b w w' := by
  have hbl := h.at_.lt
  have hB0 := (Below.refl w.heap.size w).alloc (Nat.le_refl _) (.cells #[.int .i64 2, .int .i64 n, .int .i64 m, .int .i64 p, .string S, .slice ao zs.length cin, .slice a2 l2 c2] 31)
  have HR := hide (runs_any (h.below hB0) hl n m p S hS ao cin zs hz (hL.below hB0 (by omega)) a2 l2 c2)
  clear h hL
  go_enter Tryz.func13, Tryz.ntmps13
  go_wp2_with fail
  refine (unhide HR).mono ?_
  rintro e w1 ⟨rfl, hBk, hB1⟩
  go_wp2_with fail
  go_ret
  exact ⟨rfl, hBk, (hB0.mono (by omega)).trans hB1⟩

set_option maxHeartbeats 2000000 in
theorem upTo_runs (ao : Option Addr) (len cap : Nat) (w : World) (hs : IsScript2 w ao len) :
    Calls Tryz.prog 12 #[.slice ao len cap, .int .i64 2, .int .i64 2] w fun e w' => e = .returned (.int .i64 (-1)) ∧ Below w.heap.size w w' := by
  obtain ⟨hlen, hs⟩ := hs
  go_enter Tryz.func12, Tryz.ntmps12
  go_wp2_with fail
  have hbk0 : Bk (w.alloc (.cells #[.slice none 0 0] 28)) w.heap.size (.slice none 0 0) [] := ⟨At.new w _ _, World.ownsRow_nil _ _ _ _, fun k v hv => by simp at hv⟩
  go_loopw [8] (fun i wr => ∃ (k : Nat) (lv : Value) (ls : List Value), i = .int .i64 k ∧ k ≤ len ∧ ls.length ≤ k ∧ Hid (Bk wr w.heap.size lv ls) ∧ Hid (Below w.heap.size w wr)) (fun i _ => len - (intOf i).toNat)
  case atStart => exact ⟨0, _, [], rfl, Nat.zero_le _, Nat.zero_le _, hbk0, (Below.refl _ _).alloc (Nat.le_refl _) _⟩
  case round =>
    clear hbk0
    obtain ⟨k, lv, ls, rfl, hk, hls, hBk, hBl⟩ := hrel
    by_cases hlt : k < len
    · rcases hs with rfl | ⟨b, off, rfl, hb, hall⟩
      · omega
      obtain ⟨kind, n, m, p, S, va, vb, hop, hS, ⟨ai, ci, zs, rfl, hz, hL⟩, ⟨a2, l2, c2, rfl⟩⟩ := hall k hlt
      obtain ⟨o0, o1, o2, o3, o4, o5, o6⟩ := hop
      rw [← (unhide hBl).cell (p := ⟨b, off + k * 7, none⟩) hb] at o0
      rw [← (unhide hBl).cell (p := ⟨b, off + k * 7 + 1, none⟩) hb] at o1
      rw [← (unhide hBl).cell (p := ⟨b, off + k * 7 + 2, none⟩) hb] at o2
      rw [← (unhide hBl).cell (p := ⟨b, off + k * 7 + 3, none⟩) hb] at o3
      rw [← (unhide hBl).cell (p := ⟨b, off + k * 7 + 4, none⟩) hb] at o4
      rw [← (unhide hBl).cell (p := ⟨b, off + k * 7 + 5, none⟩) hb] at o5
      rw [← (unhide hBl).cell (p := ⟨b, off + k * 7 + 6, none⟩) hb] at o6
      have Hall := hide hall
      clear hall
      have hbl : w.heap.size < wr.heap.size := (unhide hBk).at_.lt
      by_cases hkind : kind = 2
      · subst hkind
        have hBa : Below wr.heap.size wr (wr.alloc (.cells #[.int .i64 2, .int .i64 n, .int .i64 m, .int .i64 p, .string S, .slice ai zs.length ci, .slice a2 l2 c2] 31)) := (Below.refl _ _).alloc (Nat.le_refl _) _
        have hLb : LiesB (wr.alloc (.cells #[.int .i64 2, .int .i64 n, .int .i64 m, .int .i64 p, .string S, .slice ai zs.length ci, .slice a2 l2 c2] 31)) w.heap.size ai zs := by
          rcases hL with h | ⟨ab, off', e, hL', hlt'⟩
          · exact .inl h
          · exact .inr ⟨ab, off', e, (hL'.below (unhide hBl) hlt').below (hBa.mono (Nat.le_of_lt hbl)) hlt', hlt'⟩
        have HR := hide (plays_run ((unhide hBk).below hBa) (by omega) n m p S hS ai ci zs hz hLb a2 l2 c2)
        clear hL hLb
        go_wp2_with fail
        refine (unhide HR).mono ?_
        rintro e w1 ⟨rfl, ⟨lv1, f1, hBk1⟩, hB1⟩
        go_wp2_with fail
        refine (holds_any hBk1 (by rw [List.length_append]; simp; omega)).mono ?_
        rintro e w2 ⟨rfl, j, rfl⟩
        go_wp2_with fail
        go_roundw
        case rel => exact ⟨k + 1, lv1, ls ++ [f1], by go_num, by omega, by rw [List.length_append]; simp; omega, hBk1.below (below_drewN (Below.refl _ _) j), below_drewN (((unhide hBl).trans (hBa.mono (Nat.le_of_lt hbl))).trans hB1) j⟩
        case measure => simp [intOf]; omega
      · by_cases hlow : 2 ≤ kind
        · have hd : decide (kind ≤ 2) = false := by simp; omega
          go_wp2_with fail
          go_roundw
          case rel => exact ⟨k + 1, lv, ls, by go_num, by omega, by omega, (unhide hBk).below ((Below.refl _ _).alloc (Nat.le_refl _) _), (unhide hBl).alloc (unhide hBl).size _⟩
          case measure => simp [intOf]; omega
        · have hd : decide (2 ≤ kind) = false := by simp; omega
          go_wp2_with fail
          go_roundw
          case rel => exact ⟨k + 1, lv, ls, by go_num, by omega, by omega, (unhide hBk).below ((Below.refl _ _).alloc (Nat.le_refl _) _), (unhide hBl).alloc (unhide hBl).size _⟩
          case measure => simp [intOf]; omega
    · go_wp2_with fail
      go_ret
      exact ⟨rfl, unhide hBl⟩

set_option maxHeartbeats 400000 in
theorem runs_walk (ao : Option Addr) (len cap : Nat) (w : World) (hs : IsScript2 w ao len) :
    Calls Tryz.prog 4 #[.slice ao len cap] w fun e w' => e = .returned (.bool true) ∧ Below w.heap.size w w' := by
  go_enter Tryz.func4, Tryz.ntmps4
  go_wp2_with fail
  refine (upTo_runs ao len cap w hs).mono ?_
  rintro e w1 ⟨rfl, hb⟩
  go_wp2_with fail
  go_ret
  exact ⟨rfl, hb⟩
end Go.Proofs.YtnkbfdbbcaffmaaGreatDoor
