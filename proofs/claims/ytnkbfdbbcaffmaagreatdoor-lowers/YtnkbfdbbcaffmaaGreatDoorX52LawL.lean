import Derived.Test.YtnkbfdbbcaffmaaGreatDoorX31LawE
import Derived.Test.YtnkbfdbbcaffmaaGreatDoorX51LwN
/-
  Lower.
-/
namespace Go.Proofs.YtnkbfdbbcaffmaaGreatDoor
open Go.RowKit

set_option maxRecDepth 20000 in
set_option maxHeartbeats 4000000 in
theorem lower_any (n m p : Int) (S : ByteArray) (hS : S.size ≤ maxLen) (ao : Option Addr) (cin : Nat) (zs : List Int) (hz : zs.length ≤ 17592186043904) (a2 : Option Addr) (l2 c2 : Nat) (w : World) (hL : LiesO w ao zs) :
    Calls Tryz.prog 22 #[.agg #[.int .i64 6, .int .i64 n, .int .i64 m, .int .i64 p, .string S, .slice ao zs.length cin, .slice a2 l2 c2]] w fun e w' => e = .returned (.bool true) ∧ Below w.heap.size w w' := by
  have hB0 := (Below.refl w.heap.size w).alloc (Nat.le_refl _) (.cells #[.int .i64 6, .int .i64 n, .int .i64 m, .int .i64 p, .string S, .slice ao zs.length cin, .slice a2 l2 c2] 31)
  have hA0 := At.new w 31 #[.int .i64 6, .int .i64 n, .int .i64 m, .int .i64 p, .string S, .slice ao zs.length cin, .slice a2 l2 c2]
  have HL := hide hL
  clear hL
  have hlw := hide (fun w0 => leakLower_any S hS w0)
  have hld := hide (fun w0 h0 => lowered_any S hS n ao cin zs (by omega) m p w0 h0)
  generalize lowS S = c at *
  generalize (kerP S).e = z at *
  go_enter Tryz.func22, Tryz.ntmps22
  go_wp2_with fail
  refine (unhide hlw _).mono ?_
  rintro e w1 ⟨rfl, hB1⟩
  have hA1 := hA0.below hB1 (by simp)
  have hBB1 := hB0.trans (hB1.mono (by simp))
  clear hA0 hB0 hB1
  have d4 := hA1.cell 4
  simp at d4
  go_wp2_with fail
  refine (unhide hlw _).mono ?_
  rintro e w2 ⟨rfl, hB2⟩
  have hA2 := hA1.below hB2 hA1.lt
  have hBB2 := hBB1.trans (hB2.mono hBB1.size)
  clear hA1 hBB1 hB2 d4
  have hL2 := (unhide HL).grown (below_gb hBB2)
  have HL2 := hide hL2
  have hw2 : w.heap.size < w2.heap.size := hA2.lt
  clear hL2 HL
  have hS1 : w2.cell? ⟨w.heap.size, 1, none⟩ = some (.int .i64 n) ∧ w2.cell? ⟨w.heap.size, 2, none⟩ = some (.int .i64 m) ∧ w2.cell? ⟨w.heap.size, 3, none⟩ = some (.int .i64 p) ∧ w2.cell? ⟨w.heap.size, 4, none⟩ = some (.string S) ∧ w2.cell? ⟨w.heap.size, 5, none⟩ = some (.slice ao zs.length cin) :=
    ⟨hA2.cell 1, hA2.cell 2, hA2.cell 3, hA2.cell 4, hA2.cell 5⟩
  go_wp2_with fail
  go_region_held3 (fun w' => w'.cell? ⟨w.heap.size, 1, none⟩ = some (.int .i64 n) ∧ w'.cell? ⟨w.heap.size, 2, none⟩ = some (.int .i64 m) ∧ w'.cell? ⟨w.heap.size, 3, none⟩ = some (.int .i64 p) ∧ w'.cell? ⟨w.heap.size, 4, none⟩ = some (.string S) ∧ w'.cell? ⟨w.heap.size, 5, none⟩ = some (.slice ao zs.length cin)) (first | assumption | go_keep)
    (first
      | (go_at_call 17; refine (num_any _ _).mono ?_; rintro e w3 ⟨rfl, rfl⟩)
      | (go_at_call 42; refine (unhide hld _ (LiesO.grown (unhide HL2) (gb_drewN (gb_refl _ none) 1))).mono ?_; rintro e w3 ⟨rfl, hB3⟩; have hA3 := At.below (At.drewN hA2 1) hB3 (by simpa using hw2); have hS3 : w3.cell? ⟨w.heap.size, 1, none⟩ = some (.int .i64 n) ∧ w3.cell? ⟨w.heap.size, 2, none⟩ = some (.int .i64 m) ∧ w3.cell? ⟨w.heap.size, 3, none⟩ = some (.int .i64 p) ∧ w3.cell? ⟨w.heap.size, 4, none⟩ = some (.string S) ∧ w3.cell? ⟨w.heap.size, 5, none⟩ = some (.slice ao zs.length cin) := ⟨hA3.cell 1, hA3.cell 2, hA3.cell 3, hA3.cell 4, hA3.cell 5⟩))
  go_wp2_with fail
  refine (num_any _ _).mono ?_
  rintro e w4 ⟨rfl, rfl⟩
  go_wp2_with fail
  refine (num_any _ _).mono ?_
  rintro e w5 ⟨rfl, rfl⟩
  go_wp2_with fail
  go_ret
  exact ⟨rfl, (below_drewN hBB2 1).trans (hB3.mono (by have := hBB2.size; simp; omega))⟩

set_option maxHeartbeats 1000000 in
theorem plays_lower {w : World} {b : Nat} {lv : Value} {ls : List Value} (h : Bk w b lv ls) (n m p : Int) (S : ByteArray) (hS : S.size ≤ maxLen) (ao : Option Addr) (cin : Nat) (zs : List Int) (hz : zs.length ≤ 17592186043904) (hL : LiesB w b ao zs) (a2 : Option Addr) (l2 c2 : Nat) :
    Calls Tryz.prog 13 #[.pointer (some ⟨b, 0, none⟩), .agg #[.int .i64 6, .int .i64 n, .int .i64 m, .int .i64 p, .string S, .slice ao zs.length cin, .slice a2 l2 c2]] w fun e w' => e = .returned (.bool true) ∧ Bk w' b lv ls ∧ Below b w w' := by
  have hbl := h.at_.lt
  have hB0 := (Below.refl w.heap.size w).alloc (Nat.le_refl _) (.cells #[.int .i64 6, .int .i64 n, .int .i64 m, .int .i64 p, .string S, .slice ao zs.length cin, .slice a2 l2 c2] 31)
  have HR := hide (lower_any n m p S hS ao cin zs hz a2 l2 c2 _ ((hL.below hB0 (by omega)).toO (by simp; omega)))
  have HK := hide h
  clear h hL
  go_enter Tryz.func13, Tryz.ntmps13
  go_wp2_with fail
  refine (unhide HR).mono ?_
  rintro e w1 ⟨rfl, hB1⟩
  go_wp2_with fail
  go_ret
  have hB2 := hB0.trans (hB1.mono (by simp))
  exact ⟨rfl, (unhide HK).below hB2, hB2.mono (by omega)⟩

set_option maxHeartbeats 2000000 in
theorem upTo_lowers (ao : Option Addr) (len cap : Nat) (w : World) (hs : IsScript2 w ao len) :
    Calls Tryz.prog 12 #[.slice ao len cap, .int .i64 6, .int .i64 6] w fun e w' => e = .returned (.int .i64 (-1)) ∧ Below w.heap.size w w' := by
  obtain ⟨hlen, hs⟩ := hs
  go_enter Tryz.func12, Tryz.ntmps12
  go_wp2_with fail
  have hbk0 : Bk (w.alloc (.cells #[.slice none 0 0] 28)) w.heap.size (.slice none 0 0) [] := ⟨At.new w _ _, World.ownsRow_nil _ _ _ _, fun k v hv => by simp at hv⟩
  go_loopw [8] (fun i wr => ∃ (k : Nat) (lv : Value) (ls : List Value), i = .int .i64 k ∧ k ≤ len ∧ ls.length ≤ k ∧ Hid (Bk wr w.heap.size lv ls) ∧ Hid (Below w.heap.size w wr)) (fun i _ => len - (intOf i).toNat)
  case atStart => exact ⟨0, _, [], rfl, Nat.zero_le _, Nat.zero_le _, hbk0, (Below.refl _ _).alloc (Nat.le_refl _) _⟩
  case round =>
    clear hbk0
    obtain ⟨k, lv, ls, rfl, hk, hls, hBk, hBl⟩ := hrel
    by_cases hlt : k < len
    · rcases hs with rfl | ⟨b, off, rfl, hb, hall⟩
      · omega
      obtain ⟨kind, n, m, p, S, va, vb, hop, hS, ⟨ai, ci, zs, rfl, hz, hL⟩, ⟨a2, l2, c2, rfl⟩⟩ := hall k hlt
      obtain ⟨o0, o1, o2, o3, o4, o5, o6⟩ := hop
      rw [← (unhide hBl).cell (p := ⟨b, off + k * 7, none⟩) hb] at o0
      rw [← (unhide hBl).cell (p := ⟨b, off + k * 7 + 1, none⟩) hb] at o1
      rw [← (unhide hBl).cell (p := ⟨b, off + k * 7 + 2, none⟩) hb] at o2
      rw [← (unhide hBl).cell (p := ⟨b, off + k * 7 + 3, none⟩) hb] at o3
      rw [← (unhide hBl).cell (p := ⟨b, off + k * 7 + 4, none⟩) hb] at o4
      rw [← (unhide hBl).cell (p := ⟨b, off + k * 7 + 5, none⟩) hb] at o5
      rw [← (unhide hBl).cell (p := ⟨b, off + k * 7 + 6, none⟩) hb] at o6
      have Hall := hide hall
      clear hall
      have hbl : w.heap.size < wr.heap.size := (unhide hBk).at_.lt
      by_cases hkind : kind = 6
      · subst hkind
        have hBa : Below wr.heap.size wr (wr.alloc (.cells #[.int .i64 6, .int .i64 n, .int .i64 m, .int .i64 p, .string S, .slice ai zs.length ci, .slice a2 l2 c2] 31)) := (Below.refl _ _).alloc (Nat.le_refl _) _
        have hLb : LiesB (wr.alloc (.cells #[.int .i64 6, .int .i64 n, .int .i64 m, .int .i64 p, .string S, .slice ai zs.length ci, .slice a2 l2 c2] 31)) w.heap.size ai zs := by
          rcases hL with h | ⟨ab, off', e, hL', hlt'⟩
          · exact .inl h
          · exact .inr ⟨ab, off', e, (hL'.below (unhide hBl) hlt').below (hBa.mono (Nat.le_of_lt hbl)) hlt', hlt'⟩
        have HR := hide (plays_lower ((unhide hBk).below hBa) n m p S hS ai ci zs hz hLb a2 l2 c2)
        clear hL hLb
        go_wp2_with fail
        refine (unhide HR).mono ?_
        rintro e w1 ⟨rfl, hBk1, hB1⟩
        go_wp2_with fail
        refine (holds_any hBk1 (by omega)).mono ?_
        rintro e w2 ⟨rfl, j, rfl⟩
        go_wp2_with fail
        go_roundw
        case rel => exact ⟨k + 1, lv, ls, by go_num, by omega, by omega, hBk1.below (below_drewN (Below.refl _ _) j), below_drewN (((unhide hBl).trans (hBa.mono (Nat.le_of_lt hbl))).trans hB1) j⟩
        case measure => simp [intOf]; omega
      · by_cases hlow : 6 ≤ kind
        · have hd : decide (kind ≤ 6) = false := by simp; omega
          go_wp2_with fail
          go_roundw
          case rel => exact ⟨k + 1, lv, ls, by go_num, by omega, by omega, (unhide hBk).below ((Below.refl _ _).alloc (Nat.le_refl _) _), (unhide hBl).alloc (unhide hBl).size _⟩
          case measure => simp [intOf]; omega
        · have hd : decide (6 ≤ kind) = false := by simp; omega
          go_wp2_with fail
          go_roundw
          case rel => exact ⟨k + 1, lv, ls, by go_num, by omega, by omega, (unhide hBk).below ((Below.refl _ _).alloc (Nat.le_refl _) _), (unhide hBl).alloc (unhide hBl).size _⟩
          case measure => simp [intOf]; omega
    · go_wp2_with fail
      go_ret
      exact ⟨rfl, unhide hBl⟩

set_option maxHeartbeats 400000 in
theorem lowers_walk (ao : Option Addr) (len cap : Nat) (w : World) (hs : IsScript2 w ao len) :
    Calls Tryz.prog 8 #[.slice ao len cap] w fun e w' => e = .returned (.bool true) ∧ Below w.heap.size w w' := by
  go_enter Tryz.func8, Tryz.ntmps8
  go_wp2_with fail
  refine (upTo_lowers ao len cap w hs).mono ?_
  rintro e w1 ⟨rfl, hb⟩
  go_wp2_with fail
  go_ret
  exact ⟨rfl, hb⟩
end Go.Proofs.YtnkbfdbbcaffmaaGreatDoor
