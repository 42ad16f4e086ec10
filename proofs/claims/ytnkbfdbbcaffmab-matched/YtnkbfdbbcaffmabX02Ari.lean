import Derived.Test.YtnkbfdbbcaffmabX01Chars
/-
  Small numbers: halving, counting bits, shifting, dividing: both sides.
-/
namespace Go.Proofs.Ytnkbfdbbcaffmab
open Go.RowKit

/-- x, halved so many times. -/
def hlv : Nat → Int → Int
  | 0, x => x
  | t + 1, x => if 0 < x then hlv t (x / 2) else x
theorem hlv_nil : ∀ t, hlv t 0 = 0
  | 0 => rfl
  | t + 1 => by simp [hlv]
theorem hlv_bd : ∀ t x, 0 ≤ x → 0 ≤ hlv t x ∧ hlv t x ≤ x
  | 0, x, h => ⟨h, Int.le_refl _⟩
  | t + 1, x, h => by
    unfold hlv
    split
    · have := hlv_bd t (x / 2) (by omega)
      omega
    · omega

/-- Of how many bits a value is. -/
def btc : Nat → Int → Int
  | 0, _ => 0
  | f + 1, x => if 0 < x then 1 + btc f (x / 2) else 0
theorem btc_bd : ∀ f x, 0 ≤ btc f x ∧ btc f x ≤ f
  | 0, x => by simp [btc]
  | f + 1, x => by
    unfold btc
    split
    · have := btc_bd f (x / 2); omega
    · omega
theorem btc_nil : ∀ f, btc f 0 = 0
  | 0 => rfl
  | f + 1 => by simp [btc]

/-- x, doubled so many times, modulo V. -/
def upI (V : Int) : Nat → Int → Int
  | 0, x => x
  | t + 1, x => upI V t (x * 2 % V)

/-- The digit to the base 16. -/
def hxd (n : Int) : Int := if n < 10 then 48 + n else 87 + n

set_option maxHeartbeats 400000 in
theorem halve_any (x : Int) (t : Nat) (h0 : 0 ≤ x) (h1 : x ≤ 255) (ht : t ≤ 255) (w : World) :
    Calls Try.prog 126 #[.int .i64 x, .int .i64 t] w fun e w' => e = .returned (.int .i64 (hlv t x)) ∧ w' = w := by
  generalize hr : hlv t x = r
  have Hr := hide hr
  clear hr
  go_enter Try.func126, Try.ntmps126
  go_wp2_with fail
  go_loop [0, 5] (fun xs i => ∃ (k : Nat) (y : Int), i = .int .i64 k ∧ xs = .int .i64 y ∧ k ≤ t ∧ 0 ≤ y ∧ y ≤ 255 ∧ Hid (hlv (t - k) y = r)) (fun _ i => t - (intOf i).toNat)
  case atStart => exact ⟨0, x, rfl, rfl, Nat.zero_le _, h0, h1, Hr⟩
  case round =>
    obtain ⟨k, y, rfl, rfl, hk, hy0, hy1, HK⟩ := hrel
    by_cases hlt : k < t
    · by_cases hy : 0 < y
      · have hs : hlv (t - (k + 1)) (y / 2) = r := by
          have := unhide HK
          rw [show t - k = (t - (k + 1)) + 1 from by omega, hlv, if_pos hy] at this
          exact this
        have Hs := hide hs
        clear hs
        go_wp2_with fail
        go_round
        case rel => exact ⟨k + 1, y / 2, by go_num, rfl, by omega, by omega, by omega, Hs⟩
        case measure => simp [intOf]; omega
      · have hs : y = r := by
          have hy : y = 0 := by omega
          have := unhide HK
          rw [hy, hlv_nil] at this
          rw [hy, this]
        have Hs := hide hs
        clear hs
        have hd : decide (0 < y) = false := by simpa using hy
        go_wp2_with fail
        go_ret
        exact ⟨ret_int (unhide Hs), rfl⟩
    · have hs : y = r := by
        have := unhide HK
        rw [show t - k = 0 from by omega] at this
        exact this
      have Hs := hide hs
      clear hs
      have hd : decide ((k : Int) < (t : Int)) = false := by simp; omega
      go_wp2_with fail
      go_ret
      exact ⟨ret_int (unhide Hs), rfl⟩

set_option maxHeartbeats 400000 in
theorem mbits_any (x : Int) (h0 : 0 ≤ x) (h1 : x ≤ 255) (w : World) :
    Calls Try.prog 123 #[.int .i64 x] w fun e w' => e = .returned (.int .i64 (btc 8 x)) ∧ w' = w := by
  generalize hr : btc 8 x = r
  have Hr := hide hr
  clear hr
  go_enter Try.func123, Try.ntmps123
  go_wp2_with fail
  go_loop [0, 3] (fun xs i => ∃ (k : Nat) (y : Int), i = .int .i64 k ∧ xs = .int .i64 y ∧ k ≤ 8 ∧ 0 ≤ y ∧ y ≤ 255 ∧ Hid (y * 2 ^ k ≤ 255) ∧ Hid (r = k + btc (8 - k) y)) (fun xs _ => (intOf xs).toNat)
  case atStart => exact ⟨0, x, rfl, rfl, by omega, h0, h1, by simpa [Hid] using h1, by rw [← unhide Hr]; simp [Hid]⟩
  case round =>
    obtain ⟨k, y, rfl, rfl, hk, hy0, hy1, HP, HK⟩ := hrel
    by_cases hy : 0 < y
    · have hk8 : k < 8 := by
        have h1 := unhide HP
        have h2 : ∀ k : Nat, k ≤ 8 → y * 2 ^ k ≤ 255 → k < 8 := by
          intro k hk h
          by_cases e : k = 8
          · subst e; omega
          · omega
        exact h2 k hk h1
      have hs : r = ((k + 1 : Nat) : Int) + btc (8 - (k + 1)) (y / 2) := by
        have := unhide HK
        rw [show 8 - k = (8 - (k + 1)) + 1 from by omega, btc, if_pos hy] at this
        rw [this]; omega
      have hp : y / 2 * 2 ^ (k + 1) ≤ 255 := by
        have h1 := unhide HP
        rw [Int.pow_succ]
        have h2 : y / 2 * (2 ^ k * 2) = (y / 2 * 2) * 2 ^ k := by rw [Int.mul_comm (2 ^ k) 2, ← Int.mul_assoc]
        rw [h2]
        have h3 : y / 2 * 2 ≤ y := by omega
        have h4 : (0 : Int) ≤ 2 ^ k := Int.pow_nonneg (by omega)
        exact Int.le_trans (Int.mul_le_mul_of_nonneg_right h3 h4) h1
      have Hs := hide hs
      have Hp := hide hp
      clear hs hp
      go_wp2_with fail
      go_round
      case rel => exact ⟨k + 1, y / 2, by go_num, rfl, by omega, by omega, by omega, Hp, Hs⟩
      case measure => simp [intOf]; omega
    · have hs : (k : Int) = r := by
        have hy : y = 0 := by omega
        have := unhide HK
        rw [hy, btc_nil] at this
        rw [this]; omega
      have Hs := hide hs
      clear hs
      go_wp2_with fail
      go_ret
      exact ⟨ret_int (unhide Hs), rfl⟩
end Go.Proofs.Ytnkbfdbbcaffmab
/-
  Small numbers, more: counting bits, shifting, dividing, bit by bit.
-/
namespace Go.Proofs.Ytnkbfdbbcaffmab
open Go.RowKit

set_option maxHeartbeats 400000 in
theorem oneIf_any (b : Bool) (w : World) :
    Calls Try.prog 124 #[.bool b] w fun e w' => e = .returned (.int .i64 (if b then 1 else 0)) ∧ w' = w := by
  cases b with
  | true =>
    go_enter Try.func124, Try.ntmps124
    go_wp2_with fail
    go_ret
    exact ⟨rfl, rfl⟩
  | false =>
    go_enter Try.func124, Try.ntmps124
    go_wp2_with fail
    go_ret
    exact ⟨rfl, rfl⟩

set_option maxHeartbeats 400000 in
theorem digit_any (n : Int) (h0 : 0 ≤ n) (h1 : n ≤ 15) (w : World) :
    Calls Try.prog 59 #[.int .i64 n] w fun e w' => e = .returned (.int .u8 (hxd n)) ∧ w' = w := by
  by_cases h : n < 10
  · have hr : hxd n = 48 + n := by unfold hxd; rw [if_pos h]
    rw [hr]; clear hr
    go_enter Try.func59, Try.ntmps59
    go_wp2_with fail
    go_ret
    exact ⟨rfl, rfl⟩
  · have hr : hxd n = 97 + (n - 10) := by unfold hxd; rw [if_neg h]; omega
    rw [hr]; clear hr
    go_enter Try.func59, Try.ntmps59
    go_wp2_with fail
    go_ret
    exact ⟨rfl, rfl⟩

set_option maxHeartbeats 400000 in
theorem divide_any (f x y : Int) (h0 : 0 ≤ x) (h1 : x ≤ 255) (h2 : 1 ≤ y) (h3 : y ≤ 255) (w : World) :
    Calls Try.prog 127 #[.int .u8 f, .int .i64 x, .int .i64 y] w fun e w' => e = .returned (.int .i64 (if f = 47 then x / y else x % y)) ∧ w' = w := by
  have hy : (y == 0) = false := by simp; omega
  by_cases hf : f = 47
  · rw [if_pos hf]
    subst hf
    go_enter Try.func127, Try.ntmps127
    go_wp2_with fail
    go_ret
    exact ⟨rfl, rfl⟩
  · rw [if_neg hf]
    have hb : (f == 47) = false := by simpa using hf
    go_enter Try.func127, Try.ntmps127
    go_wp2_with fail
    go_ret
    exact ⟨rfl, rfl⟩

set_option maxHeartbeats 1000000 in
theorem up_any (tx : ByteArray) (W : Nat) (V n m x : Int) (t : Nat) (h0 : 0 ≤ x) (h1 : x < V) (hV : 1 ≤ V) (hV2 : V ≤ 256) (hW : W ≤ 8) (ht : t ≤ 255) (w : World) :
    Calls Try.prog 125 #[.agg #[.string tx, .int .i64 W, .int .i64 V, .int .i64 n, .int .i64 m], .int .i64 x, .int .i64 t] w fun e w' => e = .returned (.int .i64 (upI V (min t W) x)) ∧ w.grownBy w' none := by
  generalize hr : upI V (min t W) x = r
  have Hr := hide hr
  clear hr
  go_enter Try.func125, Try.ntmps125
  go_wp2_with fail
  go_loop [1, 7] (fun xs i => ∃ (k : Nat) (y : Int), i = .int .i64 k ∧ xs = .int .i64 y ∧ k ≤ t ∧ k ≤ W ∧ 0 ≤ y ∧ y < V ∧ Hid (upI V (min t W - k) y = r)) (fun _ i => t - (intOf i).toNat)
  case atStart => exact ⟨0, x, rfl, rfl, by omega, by omega, h0, h1, Hr⟩
  case round =>
    obtain ⟨k, y, rfl, rfl, hk, hkW, hy0, hy1, HK⟩ := hrel
    by_cases hlt : k < t
    · by_cases hlw : k < W
      · have hs : upI V (min t W - (k + 1)) (y * 2 % V) = r := by
          have := unhide HK
          rw [show min t W - k = (min t W - (k + 1)) + 1 from by omega, upI] at this
          exact this
        have Hs := hide hs
        clear hs
        have hb1 := Int.emod_nonneg (y * 2) (b := V) (by omega)
        have hb2 := Int.emod_lt_of_pos (y * 2) (b := V) (by omega)
        go_wp2_with fail
        go_round
        case rel => exact ⟨k + 1, y * 2 % V, by go_num, rfl, by omega, by omega, hb1, hb2, Hs⟩
        case measure => simp [intOf]; omega
      · have hd : decide ((k : Int) < (W : Int)) = false := by simp; omega
        have hs : y = r := by
          have := unhide HK
          rw [show min t W - k = 0 from by omega] at this
          exact this
        have Hs := hide hs
        clear hs
        go_wp2_with fail
        go_ret
        exact ⟨ret_int (unhide Hs), gb_alloc (gb_refl _ _) _⟩
    · have hd : decide ((k : Int) < (t : Int)) = false := by simp; omega
      have hs : y = r := by
        have := unhide HK
        rw [show min t W - k = 0 from by omega] at this
        exact this
      have Hs := hide hs
      clear hs
      go_wp2_with fail
      go_ret
      exact ⟨ret_int (unhide Hs), gb_alloc (gb_refl _ _) _⟩
end Go.Proofs.Ytnkbfdbbcaffmab
