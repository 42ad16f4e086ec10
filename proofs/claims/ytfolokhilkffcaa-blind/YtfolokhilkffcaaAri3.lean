/-
  Bit by bit: plain numbers.
-/
import Derived.Test.YtfolokhilkffcaaAri2
import Derived.Test.YtfolokhilkffcaaHead
namespace Go.Proofs.Ytfolokhilkffcaa
open Go.RowKit

/-- Bit by bit: g tells of the number of ones. -/
def eachN (g : Nat → Bool) : Nat → Nat → Nat → Nat
  | 0, _, _ => 0
  | f + 1, a, b => (if g (a % 2 + b % 2) = true then 1 else 0) + 2 * eachN g f (a / 2) (b / 2)

theorem each_and : ∀ f a b, a < 2 ^ f → b < 2 ^ f → eachN (fun k => k == 2) f a b = a &&& b
  | 0, a, b, ha, hb => by
    simp at ha hb; subst ha hb; rfl
  | f + 1, a, b, ha, hb => by
    rw [eachN, each_and f (a / 2) (b / 2) (by rw [Nat.pow_succ] at ha; omega) (by rw [Nat.pow_succ] at hb; omega), ← Nat.and_div_two]
    have h := Nat.div_add_mod (a &&& b) 2
    have h2 : (a &&& b) % 2 = (a % 2) &&& (b % 2) := by have := @Nat.and_mod_two_pow a b 1; simpa using this
    rcases Nat.mod_two_eq_zero_or_one a with ea | ea <;> rcases Nat.mod_two_eq_zero_or_one b with eb | eb <;> rw [ea, eb] at h2 ⊢ <;> simp only [Nat.and_self, Nat.zero_and, Nat.and_zero] at h2 <;> simp <;> omega
theorem each_or : ∀ f a b, a < 2 ^ f → b < 2 ^ f → eachN (fun k => decide (0 < k)) f a b = a ||| b
  | 0, a, b, ha, hb => by
    simp at ha hb; subst ha hb; rfl
  | f + 1, a, b, ha, hb => by
    rw [eachN, each_or f (a / 2) (b / 2) (by rw [Nat.pow_succ] at ha; omega) (by rw [Nat.pow_succ] at hb; omega), ← Nat.or_div_two]
    have h := Nat.div_add_mod (a ||| b) 2
    have h2 : (a ||| b) % 2 = (a % 2) ||| (b % 2) := by have := @Nat.or_mod_two_pow a b 1; simpa using this
    rcases Nat.mod_two_eq_zero_or_one a with ea | ea <;> rcases Nat.mod_two_eq_zero_or_one b with eb | eb <;> rw [ea, eb] at h2 ⊢ <;> simp only [Nat.or_self, Nat.zero_or, Nat.or_zero] at h2 <;> simp <;> omega
theorem each_xor : ∀ f a b, a < 2 ^ f → b < 2 ^ f → eachN (fun k => k == 1) f a b = a ^^^ b
  | 0, a, b, ha, hb => by
    simp at ha hb; subst ha hb; rfl
  | f + 1, a, b, ha, hb => by
    rw [eachN, each_xor f (a / 2) (b / 2) (by rw [Nat.pow_succ] at ha; omega) (by rw [Nat.pow_succ] at hb; omega), ← Nat.xor_div_two]
    have h := Nat.div_add_mod (a ^^^ b) 2
    have h2 : (a ^^^ b) % 2 = (a % 2) ^^^ (b % 2) := by have := @Nat.xor_mod_two_pow a b 1; simpa using this
    rcases Nat.mod_two_eq_zero_or_one a with ea | ea <;> rcases Nat.mod_two_eq_zero_or_one b with eb | eb <;> rw [ea, eb] at h2 ⊢ <;> simp only [Nat.xor_self, Nat.zero_xor, Nat.xor_zero] at h2 <;> simp <;> omega

theorem each_bd (g : Nat → Bool) : ∀ f a b, eachN g f a b < 2 ^ f
  | 0, _, _ => by simp [eachN]
  | f + 1, a, b => by
    have := each_bd g f (a / 2) (b / 2)
    rw [eachN, Nat.pow_succ]
    split <;> omega
theorem each_nil (g : Nat → Bool) (h : g 0 = false) : ∀ f, eachN g f 0 0 = 0
  | 0 => rfl
  | f + 1 => by rw [eachN]; simp [h, each_nil g h f]

/-- Of an operation bit by bit: which number of ones gives a one. -/
def bitG (f : Int) : Nat → Bool := if f = 38 then fun k => k == 2 else if f = 124 then fun k => decide (0 < k) else fun k => k == 1
theorem bitG_nil (f : Int) : bitG f 0 = false := by
  unfold bitG; split
  · rfl
  · split <;> rfl

end Go.Proofs.Ytfolokhilkffcaa
