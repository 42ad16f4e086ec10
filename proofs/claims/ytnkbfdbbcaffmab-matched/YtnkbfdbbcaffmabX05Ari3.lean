import Derived.Test.YtnkbfdbbcaffmabX02Ari
import Derived.Test.YtnkbfdbbcaffmabX04Mach2
import Derived.Test.YtnkbfdbbcaffmabX03Cmd
/-
  Bit by bit: plain numbers.
-/
namespace Go.Proofs.Ytnkbfdbbcaffmab
open Go.RowKit

/-- Bit by bit: g tells of the number of ones. -/
def eachN (g : Nat → Bool) : Nat → Nat → Nat → Nat
  | 0, _, _ => 0
  | f + 1, a, b => (if g (a % 2 + b % 2) = true then 1 else 0) + 2 * eachN g f (a / 2) (b / 2)

theorem each_and : ∀ f a b, a < 2 ^ f → b < 2 ^ f → eachN (fun k => k == 2) f a b = a &&& b
  | 0, a, b, ha, hb => by
    simp at ha hb; subst ha hb; rfl
  | f + 1, a, b, ha, hb => by
    rw [eachN, each_and f (a / 2) (b / 2) (by rw [Nat.pow_succ] at ha; omega) (by rw [Nat.pow_succ] at hb; omega), ← Nat.and_div_two]
    have h := Nat.div_add_mod (a &&& b) 2
    have h2 : (a &&& b) % 2 = (a % 2) &&& (b % 2) := by have := @Nat.and_mod_two_pow a b 1; simpa using this
    rcases Nat.mod_two_eq_zero_or_one a with ea | ea <;> rcases Nat.mod_two_eq_zero_or_one b with eb | eb <;> rw [ea, eb] at h2 ⊢ <;> simp only [Nat.and_self, Nat.zero_and, Nat.and_zero] at h2 <;> simp <;> omega
theorem each_or : ∀ f a b, a < 2 ^ f → b < 2 ^ f → eachN (fun k => decide (0 < k)) f a b = a ||| b
  | 0, a, b, ha, hb => by
    simp at ha hb; subst ha hb; rfl
  | f + 1, a, b, ha, hb => by
    rw [eachN, each_or f (a / 2) (b / 2) (by rw [Nat.pow_succ] at ha; omega) (by rw [Nat.pow_succ] at hb; omega), ← Nat.or_div_two]
    have h := Nat.div_add_mod (a ||| b) 2
    have h2 : (a ||| b) % 2 = (a % 2) ||| (b % 2) := by have := @Nat.or_mod_two_pow a b 1; simpa using this
    rcases Nat.mod_two_eq_zero_or_one a with ea | ea <;> rcases Nat.mod_two_eq_zero_or_one b with eb | eb <;> rw [ea, eb] at h2 ⊢ <;> simp only [Nat.or_self, Nat.zero_or, Nat.or_zero] at h2 <;> simp <;> omega
theorem each_xor : ∀ f a b, a < 2 ^ f → b < 2 ^ f → eachN (fun k => k == 1) f a b = a ^^^ b
  | 0, a, b, ha, hb => by
    simp at ha hb; subst ha hb; rfl
  | f + 1, a, b, ha, hb => by
    rw [eachN, each_xor f (a / 2) (b / 2) (by rw [Nat.pow_succ] at ha; omega) (by rw [Nat.pow_succ] at hb; omega), ← Nat.xor_div_two]
    have h := Nat.div_add_mod (a ^^^ b) 2
    have h2 : (a ^^^ b) % 2 = (a % 2) ^^^ (b % 2) := by have := @Nat.xor_mod_two_pow a b 1; simpa using this
    rcases Nat.mod_two_eq_zero_or_one a with ea | ea <;> rcases Nat.mod_two_eq_zero_or_one b with eb | eb <;> rw [ea, eb] at h2 ⊢ <;> simp only [Nat.xor_self, Nat.zero_xor, Nat.xor_zero] at h2 <;> simp <;> omega

theorem each_bd (g : Nat → Bool) : ∀ f a b, eachN g f a b < 2 ^ f
  | 0, _, _ => by simp [eachN]
  | f + 1, a, b => by
    have := each_bd g f (a / 2) (b / 2)
    rw [eachN, Nat.pow_succ]
    split <;> omega
theorem each_nil (g : Nat → Bool) (h : g 0 = false) : ∀ f, eachN g f 0 0 = 0
  | 0 => rfl
  | f + 1 => by rw [eachN]; simp [h, each_nil g h f]

/-- Of an operation bit by bit: which number of ones gives a one. -/
def bitG (f : Int) : Nat → Bool := if f = 38 then fun k => k == 2 else if f = 124 then fun k => decide (0 < k) else fun k => k == 1
theorem bitG_nil (f : Int) : bitG f 0 = false := by
  unfold bitG; split
  · rfl
  · split <;> rfl

end Go.Proofs.Ytnkbfdbbcaffmab
/-
  apply.
-/
namespace Go.Proofs.Ytnkbfdbbcaffmab
open Go.RowKit

/-- x o y. -/
def opr (V f x y : Int) : Int :=
  if f = 43 then (x + y) % V else if f = 45 then (x - y + V) % V
  else if f = 38 then ((x.toNat &&& y.toNat : Nat) : Int) else if f = 124 then ((x.toNat ||| y.toNat : Nat) : Int) else if f = 94 then ((x.toNat ^^^ y.toNat : Nat) : Int)
  else if f = 60 then (if x < y then 1 else 0) else if f = 61 then (if x = y then 1 else 0)
  else if f = 85 then upI V y.toNat x else if f = 68 then hlv y.toNat x
  else if f = 47 then x / y else x % y

theorem two64 (a : Nat) (h : a < 256) : (BitVec.ofInt 64 (a : Int)).toNat = a := by
  rw [BitVec.ofInt_natCast, BitVec.toNat_ofNat]; exact Nat.mod_eq_of_lt (by omega)
theorem bits_and_i64 (a b : Nat) (ha : a < 256) (hb : b < 256) : bits .and .i64 (a : Int) (b : Int) = ((a &&& b : Nat) : Int) := by
  have hx : a &&& b < 2 ^ 8 := Nat.and_lt_two_pow _ (by omega)
  show IntKind.i64.wrap ((BitVec.ofInt 64 (a : Int) &&& BitVec.ofInt 64 (b : Int)).toNat : Int) = _
  rw [BitVec.toNat_and, two64 a ha, two64 b hb, IntKind.wrap_i64]
  omega
theorem bits_or_i64 (a b : Nat) (ha : a < 256) (hb : b < 256) : bits .or .i64 (a : Int) (b : Int) = ((a ||| b : Nat) : Int) := by
  have hx : a ||| b < 2 ^ 8 := Nat.or_lt_two_pow (by omega) (by omega)
  show IntKind.i64.wrap ((BitVec.ofInt 64 (a : Int) ||| BitVec.ofInt 64 (b : Int)).toNat : Int) = _
  rw [BitVec.toNat_or, two64 a ha, two64 b hb, IntKind.wrap_i64]
  omega
theorem bits_xor_i64 (a b : Nat) (ha : a < 256) (hb : b < 256) : bits .xor .i64 (a : Int) (b : Int) = ((a ^^^ b : Nat) : Int) := by
  have hx : a ^^^ b < 2 ^ 8 := Nat.xor_lt_two_pow (by omega) (by omega)
  show IntKind.i64.wrap ((BitVec.ofInt 64 (a : Int) ^^^ BitVec.ofInt 64 (b : Int)).toNat : Int) = _
  rw [BitVec.toNat_xor, two64 a ha, two64 b hb, IntKind.wrap_i64]
  omega

theorem upI_eq (V : Int) (hV : 0 < V) : ∀ t x, 0 ≤ x → x < V → upI V t x = (x * 2 ^ t) % V
  | 0, x, h0, h1 => by rw [upI, Int.pow_zero, Int.mul_one, Int.emod_eq_of_lt h0 h1]
  | t + 1, x, h0, h1 => by
    rw [upI, upI_eq V hV t _ (Int.emod_nonneg _ (by omega)) (Int.emod_lt_of_pos _ hV), Int.pow_succ, Int.mul_comm (2 ^ t) 2, ← Int.mul_assoc, Int.mul_emod, Int.emod_emod, ← Int.mul_emod]
theorem pw_eq : ∀ k, pw k = 2 ^ k
  | 0 => rfl
  | k + 1 => by rw [pw, pw_eq k, Int.pow_succ]
theorem upI_min (W t : Nat) (x : Int) (h0 : 0 ≤ x) (h1 : x < pw W) : upI (pw W) (min t W) x = upI (pw W) t x := by
  by_cases h : t ≤ W
  · rw [Nat.min_eq_left h]
  · have hV : 0 < pw W := by omega
    rw [Nat.min_eq_right (by omega), upI_eq _ hV _ _ h0 h1, upI_eq _ hV _ _ h0 h1, pw_eq]
    obtain ⟨d, rfl⟩ : ∃ d, t = W + d := ⟨t - W, by omega⟩
    rw [Int.pow_add, ← Int.mul_assoc, Int.mul_emod_left]
    have e : x * 2 ^ W * 2 ^ d = (x * 2 ^ d) * 2 ^ W := by rw [Int.mul_assoc, Int.mul_comm (2 ^ W) (2 ^ d), ← Int.mul_assoc]
    rw [e, Int.mul_emod_left]

theorem opr_bd (W : Nat) (f x y : Int) (h0 : 0 ≤ x) (h1 : x < pw W) (h2 : 0 ≤ y) (h3 : y < pw W) (hW : 1 ≤ W) (hd : isDiv f = true → y ≠ 0) (ho : isOp f = true) : 0 ≤ opr (pw W) f x y ∧ opr (pw W) f x y < pw W := by
  have hV : 0 < pw W := by omega
  have hV2 : 2 ≤ pw W := by
    obtain ⟨k, rfl⟩ : ∃ k, W = k + 1 := ⟨W - 1, by omega⟩
    rw [pw]
    have : 0 < pw k := by rw [pw_eq]; exact Int.pow_pos (by omega)
    omega
  have hn : pw W = ((2 ^ W : Nat) : Int) := by rw [pw_eq]; simp
  have hx : x.toNat < 2 ^ W := by omega
  have hy : y.toNat < 2 ^ W := by omega
  unfold opr
  split
  · exact ⟨Int.emod_nonneg _ (by omega), Int.emod_lt_of_pos _ hV⟩
  · split
    · exact ⟨Int.emod_nonneg _ (by omega), Int.emod_lt_of_pos _ hV⟩
    · split
      · have := Nat.and_lt_two_pow x.toNat hy
        rw [hn]; omega
      · split
        · have := Nat.or_lt_two_pow hx hy
          rw [hn]; omega
        · split
          · have := Nat.xor_lt_two_pow hx hy
            rw [hn]; omega
          · split
            · split <;> omega
            · split
              · split <;> omega
              · split
                · rw [upI_eq _ hV _ _ h0 h1]
                  exact ⟨Int.emod_nonneg _ (by omega), Int.emod_lt_of_pos _ hV⟩
                · split
                  · have := hlv_bd y.toNat x h0; omega
                  · have hy0 : y ≠ 0 := hd (by
                      simp [isOp] at ho
                      simp [isDiv]
                      omega)
                    split
                    · have h4 := Int.ediv_nonneg h0 h2
                      have h5 := Int.ediv_le_self y h0
                      omega
                    · have h4 := Int.emod_nonneg x hy0
                      have h5 := Int.emod_lt_of_pos x (b := y) (by omega)
                      omega

set_option maxHeartbeats 4000000 in
theorem apply_any (tx : ByteArray) (W : Nat) (n m : Int) (f : Int) (a c : Nat) (h1 : (a : Int) < pw W) (h3 : (c : Int) < pw W) (hW : W ≤ 8) (hd : isDiv f = true → c ≠ 0) (ho : isOp f = true) (w : World) :
    Calls Try.prog 111 #[.agg #[.string tx, .int .i64 W, .int .i64 (pw W), .int .i64 n, .int .i64 m], .int .u8 f, .int .i64 a, .int .i64 c] w fun e w' => e = .returned (.int .i64 (opr (pw W) f a c)) ∧ w.grownBy w' none := by
  have hb := pw_bd W hW
  have hup := upI_min W c a (by omega) h1
  have Hup := hide hup
  clear hup
  generalize hr : opr (pw W) f a c = r
  have Hr := hide hr
  clear hr
  generalize hV : pw W = V at *
  have HV := hide hV
  clear hV
  have ha : a < 256 := by omega
  have hc : c < 256 := by omega
  have g1 := bits_and_i64 a c ha hc
  have g2 := bits_or_i64 a c ha hc
  have g3 := bits_xor_i64 a c ha hc
  have G1 := hide g1
  have G2 := hide g2
  have G3 := hide g3
  clear g1 g2 g3
  simp [isOp] at ho
  rcases ho with ((((((((((rfl | rfl) | rfl) | rfl) | rfl) | rfl) | rfl) | rfl) | rfl) | rfl) | rfl)
  · go_enter Try.func111, Try.ntmps111
    go_wp2_with fail
    go_ret
    exact ⟨ret_int (by rw [← unhide Hr]; simp [opr]), gb_alloc (gb_refl _ _) _⟩
  · go_enter Try.func111, Try.ntmps111
    go_wp2_with fail
    go_ret
    exact ⟨ret_int (by rw [← unhide Hr]; simp [opr]), gb_alloc (gb_refl _ _) _⟩
  · go_enter Try.func111, Try.ntmps111
    go_wp2_with fail
    go_ret
    exact ⟨ret_int (by rw [← unhide Hr, unhide G1]; simp [opr]), gb_alloc (gb_refl _ _) _⟩
  · go_enter Try.func111, Try.ntmps111
    go_wp2_with fail
    go_ret
    exact ⟨ret_int (by rw [← unhide Hr, unhide G2]; simp [opr]), gb_alloc (gb_refl _ _) _⟩
  · go_enter Try.func111, Try.ntmps111
    go_wp2_with fail
    go_ret
    exact ⟨ret_int (by rw [← unhide Hr, unhide G3]; simp [opr]), gb_alloc (gb_refl _ _) _⟩
  · by_cases hlt : (a : Int) < (c : Int)
    · go_enter Try.func111, Try.ntmps111
      go_wp2_with fail
      refine (oneIf_any _ _).mono ?_
      rintro e w' ⟨rfl, rfl⟩
      go_wp2_with fail
      go_ret
      exact ⟨ret_int (by rw [← unhide Hr]; simp [opr]; omega), gb_alloc (gb_refl _ _) _⟩
    · have hl2 : decide ((a : Int) < (c : Int)) = false := by simpa using hlt
      go_enter Try.func111, Try.ntmps111
      go_wp2_with fail
      refine (oneIf_any _ _).mono ?_
      rintro e w' ⟨rfl, rfl⟩
      go_wp2_with fail
      go_ret
      exact ⟨ret_int (by rw [← unhide Hr]; simp [opr]; omega), gb_alloc (gb_refl _ _) _⟩
  · by_cases hlt : (a : Int) = (c : Int)
    · have hl2 : ((a : Int) == (c : Int)) = true := by simpa using hlt
      have hl3 := hide hlt
      clear hlt
      go_enter Try.func111, Try.ntmps111
      go_wp2_with fail
      refine (oneIf_any _ _).mono ?_
      rintro e w' ⟨rfl, rfl⟩
      go_wp2_with fail
      go_ret
      exact ⟨ret_int (by rw [← unhide Hr]; have hl := unhide hl3; simp [opr]; omega), gb_alloc (gb_refl _ _) _⟩
    · have hl2 : ((a : Int) == (c : Int)) = false := by simpa using hlt
      have hl3 := hide hlt
      clear hlt
      go_enter Try.func111, Try.ntmps111
      go_wp2_with fail
      refine (oneIf_any _ _).mono ?_
      rintro e w' ⟨rfl, rfl⟩
      go_wp2_with fail
      go_ret
      exact ⟨ret_int (by rw [← unhide Hr]; have hl := unhide hl3; simp [opr]; omega), gb_alloc (gb_refl _ _) _⟩
  · go_enter Try.func111, Try.ntmps111
    go_wp2_with fail
    refine (up_any tx W V n m a c (by omega) h1 (by omega) (by omega) hW (by omega) _).mono ?_
    rintro e w1 ⟨rfl, hg⟩
    rw [unhide Hup]
    go_wp2_with fail
    go_ret
    exact ⟨ret_int (by rw [← unhide Hr]; simp [opr]), gb_trans (gb_alloc (gb_refl _ _) _) hg⟩
  · go_enter Try.func111, Try.ntmps111
    go_wp2_with fail
    refine (halve_any a c (by omega) (by omega) (by omega) _).mono ?_
    rintro e w' ⟨rfl, rfl⟩
    go_wp2_with fail
    go_ret
    exact ⟨ret_int (by rw [← unhide Hr]; simp [opr]), gb_alloc (gb_refl _ _) _⟩
  · have hc1 : 1 ≤ c := by have := hd rfl; omega
    go_enter Try.func111, Try.ntmps111
    go_wp2_with fail
    refine (divide_any _ a c (by omega) (by omega) (by omega) (by omega) _).mono ?_
    rintro e w' ⟨rfl, rfl⟩
    go_wp2_with fail
    go_ret
    exact ⟨ret_int (by rw [← unhide Hr]; simp [opr]), gb_alloc (gb_refl _ _) _⟩
  · have hc1 : 1 ≤ c := by have := hd rfl; omega
    go_enter Try.func111, Try.ntmps111
    go_wp2_with fail
    refine (divide_any _ a c (by omega) (by omega) (by omega) (by omega) _).mono ?_
    rintro e w' ⟨rfl, rfl⟩
    go_wp2_with fail
    go_ret
    exact ⟨ret_int (by rw [← unhide Hr]; simp [opr]), gb_alloc (gb_refl _ _) _⟩
end Go.Proofs.Ytnkbfdbbcaffmab
