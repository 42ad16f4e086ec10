import Derived.Test.YtnkbfdbbcaffmaaGreatDoorX13Ari3
/-
  Bit by bit, walked: 38.
-/
namespace Go.Proofs.YtnkbfdbbcaffmaaGreatDoor
open Go.RowKit

set_option maxHeartbeats 16000000 in
theorem each_38 (f : Int) (hf : f = 38) (a b : Nat) (ha : a ≤ 255) (hb : b ≤ 255) (w : World) :
    Calls Tryz.prog 172 #[.int .u8 f, .int .i64 a, .int .i64 b] w fun e w' => e = .returned (.int .i64 (eachN (bitG f) 8 a b)) ∧ w' = w := by
  generalize hr : eachN (bitG f) 8 a b = r
  have Hr := hide hr
  clear hr
  go_enter Tryz.func172, Tryz.ntmps172
  go_wp2_with fail
  go_loop [1, 2, 7, 8] (fun xs ys os ws => ∃ (k x y o v : Nat), xs = .int .i64 x ∧ ys = .int .i64 y ∧ os = .int .i64 o ∧ ws = .int .i64 v ∧ k ≤ 8 ∧ x ≤ 255 ∧ y ≤ 255 ∧ v ≤ 256 ∧ o < v ∧ Hid (v = 2 ^ k) ∧ Hid (x < 2 ^ (8 - k) ∧ y < 2 ^ (8 - k)) ∧ Hid (r = o + v * eachN (bitG f) (8 - k) x y)) (fun xs ys _ _ => (intOf xs).toNat + (intOf ys).toNat)
  case atStart => exact ⟨0, a, b, 0, 1, rfl, rfl, rfl, rfl, by omega, ha, hb, by omega, by omega, rfl, ⟨by simp; omega, by simp; omega⟩, by rw [← unhide Hr]; simp [Hid]⟩
  case round =>
    obtain ⟨k, x, y, o, v, rfl, rfl, rfl, rfl, hk, hx, hy, hv, hov, HV, HB, HK⟩ := hrel
    by_cases hpos : 0 < x ∨ 0 < y
    · have hk8 : k < 8 := by
        have h := unhide HB
        by_cases e : k = 8
        · rw [e] at h; simp at h; omega
        · omega
      have hv128 : v ≤ 128 := by
        have h := unhide HV
        have : (2 : Nat) ^ k ≤ 2 ^ 7 := Nat.pow_le_pow_right (by omega) (by omega)
        omega
      have hV2 : Hid (2 * v = 2 ^ (k + 1)) := by rw [unhide HV, Nat.pow_succ, Hid]; omega
      have hB2 : Hid (x / 2 < 2 ^ (8 - (k + 1)) ∧ y / 2 < 2 ^ (8 - (k + 1))) := by
        have h := unhide HB
        rw [show 8 - k = (8 - (k + 1)) + 1 from by omega, Nat.pow_succ] at h
        exact ⟨by omega, by omega⟩
      have hK2 : r = o + v * ((if bitG f (x % 2 + y % 2) = true then 1 else 0) + 2 * eachN (bitG f) (8 - (k + 1)) (x / 2) (y / 2)) := by
        have h := unhide HK
        rw [show 8 - k = (8 - (k + 1)) + 1 from by omega, eachN] at h
        exact h
      have HK2 := hide hK2
      clear hK2
      generalize hE : eachN (bitG f) (8 - (k + 1)) (x / 2) (y / 2) = E at *
      have HE := hide hE
      clear hE
      have hfin0 : Hid (bitG f (x % 2 + y % 2) = false → r = o + 2 * v * E) := by
        intro h
        rw [unhide HK2, h]
        simp [Nat.mul_comm, Nat.mul_left_comm]
      have hfin1 : Hid (bitG f (x % 2 + y % 2) = true → r = o + v + 2 * v * E) := by
        intro h
        rw [unhide HK2, h, if_pos rfl, Nat.mul_add, Nat.mul_one, ← Nat.mul_assoc, Nat.mul_comm v 2, Nat.add_assoc]
      have hx2 : (x : Int) % 2 = 0 ∨ (x : Int) % 2 = 1 := by omega
      have hy2 : (y : Int) % 2 = 0 ∨ (y : Int) % 2 = 1 := by omega
      have hg : 0 < x ∨ (x ≤ 0 ∧ 0 < y) := by omega
      have hpos' := hide hpos
      clear hpos
      subst hf
      all_goals
        rcases hx2 with hx2 | hx2
        all_goals
          rcases hy2 with hy2 | hy2
          all_goals
            have hxm : x % 2 = ((x : Int) % 2).toNat := by omega
            have hym : y % 2 = ((y : Int) % 2).toNat := by omega
            rw [hx2] at hxm
            rw [hy2] at hym
            have h0 := unhide hfin0
            have h1 := unhide hfin1
            rw [hxm, hym] at h0 h1
            have H0 := hide h0
            have H1 := hide h1
            clear h0 h1 hxm hym
            rcases hg with hg | ⟨hg1, hg2⟩
            all_goals
              go_wp2_with fail
              go_round
              case rel => first | exact ⟨k + 1, x / 2, y / 2, o + v, 2 * v, by go_num, by go_num, by go_num, by go_num, by omega, by omega, by omega, by omega, by omega, hV2, hB2, by rw [unhide HE]; exact unhide H1 rfl⟩ | exact ⟨k + 1, x / 2, y / 2, o, 2 * v, by go_num, by go_num, by go_num, by go_num, by omega, by omega, by omega, by omega, by omega, hV2, hB2, by rw [unhide HE]; exact unhide H0 rfl⟩
              case measure => have := unhide hpos'; simp [intOf]; omega
    · have hx0 : x = 0 := by omega
      have hy0 : y = 0 := by omega
      subst hx0 hy0
      have hs : (o : Int) = (r : Int) := by
        have h := unhide HK
        rw [each_nil _ (bitG_nil f)] at h
        rw [h]; simp
      have Hs := hide hs
      clear hs
      go_wp2_with fail
      go_ret
      exact ⟨ret_int (unhide Hs), rfl⟩
end Go.Proofs.YtnkbfdbbcaffmaaGreatDoor
/-
  Bit by bit, walked: 124.
-/
namespace Go.Proofs.YtnkbfdbbcaffmaaGreatDoor
open Go.RowKit

set_option maxHeartbeats 16000000 in
theorem each_124 (f : Int) (hf : f = 124) (a b : Nat) (ha : a ≤ 255) (hb : b ≤ 255) (w : World) :
    Calls Tryz.prog 172 #[.int .u8 f, .int .i64 a, .int .i64 b] w fun e w' => e = .returned (.int .i64 (eachN (bitG f) 8 a b)) ∧ w' = w := by
  generalize hr : eachN (bitG f) 8 a b = r
  have Hr := hide hr
  clear hr
  go_enter Tryz.func172, Tryz.ntmps172
  go_wp2_with fail
  go_loop [1, 2, 7, 8] (fun xs ys os ws => ∃ (k x y o v : Nat), xs = .int .i64 x ∧ ys = .int .i64 y ∧ os = .int .i64 o ∧ ws = .int .i64 v ∧ k ≤ 8 ∧ x ≤ 255 ∧ y ≤ 255 ∧ v ≤ 256 ∧ o < v ∧ Hid (v = 2 ^ k) ∧ Hid (x < 2 ^ (8 - k) ∧ y < 2 ^ (8 - k)) ∧ Hid (r = o + v * eachN (bitG f) (8 - k) x y)) (fun xs ys _ _ => (intOf xs).toNat + (intOf ys).toNat)
  case atStart => exact ⟨0, a, b, 0, 1, rfl, rfl, rfl, rfl, by omega, ha, hb, by omega, by omega, rfl, ⟨by simp; omega, by simp; omega⟩, by rw [← unhide Hr]; simp [Hid]⟩
  case round =>
    obtain ⟨k, x, y, o, v, rfl, rfl, rfl, rfl, hk, hx, hy, hv, hov, HV, HB, HK⟩ := hrel
    by_cases hpos : 0 < x ∨ 0 < y
    · have hk8 : k < 8 := by
        have h := unhide HB
        by_cases e : k = 8
        · rw [e] at h; simp at h; omega
        · omega
      have hv128 : v ≤ 128 := by
        have h := unhide HV
        have : (2 : Nat) ^ k ≤ 2 ^ 7 := Nat.pow_le_pow_right (by omega) (by omega)
        omega
      have hV2 : Hid (2 * v = 2 ^ (k + 1)) := by rw [unhide HV, Nat.pow_succ, Hid]; omega
      have hB2 : Hid (x / 2 < 2 ^ (8 - (k + 1)) ∧ y / 2 < 2 ^ (8 - (k + 1))) := by
        have h := unhide HB
        rw [show 8 - k = (8 - (k + 1)) + 1 from by omega, Nat.pow_succ] at h
        exact ⟨by omega, by omega⟩
      have hK2 : r = o + v * ((if bitG f (x % 2 + y % 2) = true then 1 else 0) + 2 * eachN (bitG f) (8 - (k + 1)) (x / 2) (y / 2)) := by
        have h := unhide HK
        rw [show 8 - k = (8 - (k + 1)) + 1 from by omega, eachN] at h
        exact h
      have HK2 := hide hK2
      clear hK2
      generalize hE : eachN (bitG f) (8 - (k + 1)) (x / 2) (y / 2) = E at *
      have HE := hide hE
      clear hE
      have hfin0 : Hid (bitG f (x % 2 + y % 2) = false → r = o + 2 * v * E) := by
        intro h
        rw [unhide HK2, h]
        simp [Nat.mul_comm, Nat.mul_left_comm]
      have hfin1 : Hid (bitG f (x % 2 + y % 2) = true → r = o + v + 2 * v * E) := by
        intro h
        rw [unhide HK2, h, if_pos rfl, Nat.mul_add, Nat.mul_one, ← Nat.mul_assoc, Nat.mul_comm v 2, Nat.add_assoc]
      have hx2 : (x : Int) % 2 = 0 ∨ (x : Int) % 2 = 1 := by omega
      have hy2 : (y : Int) % 2 = 0 ∨ (y : Int) % 2 = 1 := by omega
      have hg : 0 < x ∨ (x ≤ 0 ∧ 0 < y) := by omega
      have hpos' := hide hpos
      clear hpos
      subst hf
      all_goals
        rcases hx2 with hx2 | hx2
        all_goals
          rcases hy2 with hy2 | hy2
          all_goals
            have hxm : x % 2 = ((x : Int) % 2).toNat := by omega
            have hym : y % 2 = ((y : Int) % 2).toNat := by omega
            rw [hx2] at hxm
            rw [hy2] at hym
            have h0 := unhide hfin0
            have h1 := unhide hfin1
            rw [hxm, hym] at h0 h1
            have H0 := hide h0
            have H1 := hide h1
            clear h0 h1 hxm hym
            rcases hg with hg | ⟨hg1, hg2⟩
            all_goals
              go_wp2_with fail
              go_round
              case rel => first | exact ⟨k + 1, x / 2, y / 2, o + v, 2 * v, by go_num, by go_num, by go_num, by go_num, by omega, by omega, by omega, by omega, by omega, hV2, hB2, by rw [unhide HE]; exact unhide H1 rfl⟩ | exact ⟨k + 1, x / 2, y / 2, o, 2 * v, by go_num, by go_num, by go_num, by go_num, by omega, by omega, by omega, by omega, by omega, hV2, hB2, by rw [unhide HE]; exact unhide H0 rfl⟩
              case measure => have := unhide hpos'; simp [intOf]; omega
    · have hx0 : x = 0 := by omega
      have hy0 : y = 0 := by omega
      subst hx0 hy0
      have hs : (o : Int) = (r : Int) := by
        have h := unhide HK
        rw [each_nil _ (bitG_nil f)] at h
        rw [h]; simp
      have Hs := hide hs
      clear hs
      go_wp2_with fail
      go_ret
      exact ⟨ret_int (unhide Hs), rfl⟩
end Go.Proofs.YtnkbfdbbcaffmaaGreatDoor
