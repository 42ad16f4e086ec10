/-
  Small numbers, more: counting bits, shifting, dividing, bit by bit.
-/
import Derived.Test.YtfolokhilkffcaaAri
namespace Go.Proofs.Ytfolokhilkffcaa
open Go.RowKit

set_option maxHeartbeats 400000 in
theorem oneIf_any (b : Bool) (w : World) :
    Calls Try.prog 66 #[.bool b] w fun e w' => e = .returned (.int .i64 (if b then 1 else 0)) ∧ w' = w := by
  cases b with
  | true =>
    go_enter Try.func66, Try.ntmps66
    go_wp2_with fail
    go_ret
    exact ⟨rfl, rfl⟩
  | false =>
    go_enter Try.func66, Try.ntmps66
    go_wp2_with fail
    go_ret
    exact ⟨rfl, rfl⟩

set_option maxHeartbeats 400000 in
theorem digit_any (n : Int) (h0 : 0 ≤ n) (h1 : n ≤ 15) (w : World) :
    Calls Try.prog 64 #[.int .i64 n] w fun e w' => e = .returned (.int .u8 (hxd n)) ∧ w' = w := by
  by_cases h : n < 10
  · have hr : hxd n = 48 + n := by unfold hxd; rw [if_pos h]
    rw [hr]; clear hr
    go_enter Try.func64, Try.ntmps64
    go_wp2_with fail
    go_ret
    exact ⟨rfl, rfl⟩
  · have hr : hxd n = 97 + (n - 10) := by unfold hxd; rw [if_neg h]; omega
    rw [hr]; clear hr
    go_enter Try.func64, Try.ntmps64
    go_wp2_with fail
    go_ret
    exact ⟨rfl, rfl⟩

set_option maxHeartbeats 400000 in
theorem divide_any (f x y : Int) (h0 : 0 ≤ x) (h1 : x ≤ 255) (h2 : 1 ≤ y) (h3 : y ≤ 255) (w : World) :
    Calls Try.prog 69 #[.int .u8 f, .int .i64 x, .int .i64 y] w fun e w' => e = .returned (.int .i64 (if f = 47 then x / y else x % y)) ∧ w' = w := by
  have hy : (y == 0) = false := by simp; omega
  by_cases hf : f = 47
  · rw [if_pos hf]
    subst hf
    go_enter Try.func69, Try.ntmps69
    go_wp2_with fail
    go_ret
    exact ⟨rfl, rfl⟩
  · rw [if_neg hf]
    have hb : (f == 47) = false := by simpa using hf
    go_enter Try.func69, Try.ntmps69
    go_wp2_with fail
    go_ret
    exact ⟨rfl, rfl⟩

set_option maxHeartbeats 1000000 in
theorem up_any (W : Nat) (V n m x : Int) (t : Nat) (h0 : 0 ≤ x) (h1 : x < V) (hV : 1 ≤ V) (hV2 : V ≤ 256) (hW : W ≤ 8) (ht : t ≤ 255) (w : World) :
    Calls Try.prog 67 #[.agg #[.int .i64 W, .int .i64 V, .int .i64 n, .int .i64 m], .int .i64 x, .int .i64 t] w fun e w' => e = .returned (.int .i64 (upI V (min t W) x)) ∧ w.grownBy w' none := by
  generalize hr : upI V (min t W) x = r
  have Hr := hide hr
  clear hr
  go_enter Try.func67, Try.ntmps67
  go_wp2_with fail
  go_loop [1, 7] (fun xs i => ∃ (k : Nat) (y : Int), i = .int .i64 k ∧ xs = .int .i64 y ∧ k ≤ t ∧ k ≤ W ∧ 0 ≤ y ∧ y < V ∧ Hid (upI V (min t W - k) y = r)) (fun _ i => t - (intOf i).toNat)
  case atStart => exact ⟨0, x, rfl, rfl, by omega, by omega, h0, h1, Hr⟩
  case round =>
    obtain ⟨k, y, rfl, rfl, hk, hkW, hy0, hy1, HK⟩ := hrel
    by_cases hlt : k < t
    · by_cases hlw : k < W
      · have hs : upI V (min t W - (k + 1)) (y * 2 % V) = r := by
          have := unhide HK
          rw [show min t W - k = (min t W - (k + 1)) + 1 from by omega, upI] at this
          exact this
        have Hs := hide hs
        clear hs
        have hb1 := Int.emod_nonneg (y * 2) (b := V) (by omega)
        have hb2 := Int.emod_lt_of_pos (y * 2) (b := V) (by omega)
        go_wp2_with fail
        go_round
        case rel => exact ⟨k + 1, y * 2 % V, by go_num, rfl, by omega, by omega, hb1, hb2, Hs⟩
        case measure => simp [intOf]; omega
      · have hd : decide ((k : Int) < (W : Int)) = false := by simp; omega
        have hs : y = r := by
          have := unhide HK
          rw [show min t W - k = 0 from by omega] at this
          exact this
        have Hs := hide hs
        clear hs
        go_wp2_with fail
        go_ret
        exact ⟨ret_int (unhide Hs), gb_alloc (gb_refl _ _) _⟩
    · have hd : decide ((k : Int) < (t : Int)) = false := by simp; omega
      have hs : y = r := by
        have := unhide HK
        rw [show min t W - k = 0 from by omega] at this
        exact this
      have Hs := hide hs
      clear hs
      go_wp2_with fail
      go_ret
      exact ⟨ret_int (unhide Hs), gb_alloc (gb_refl _ _) _⟩
end Go.Proofs.Ytfolokhilkffcaa
