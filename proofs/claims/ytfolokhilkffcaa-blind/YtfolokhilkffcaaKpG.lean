/-
  alikeEnds, begins, value, shown, shows, starts.
-/
import Derived.Test.YtfolokhilkffcaaKpF
namespace Go.Proofs.Ytfolokhilkffcaa
open Go.RowKit

set_option maxHeartbeats 2000000 in
theorem alike_true (tag steps : Int) (str str' : ByteArray) (a1 a2 : Option Addr) (c1 c2 : Nat) (zs : List Int) (hl : zs.length ≤ 9223372036854775807) (w : World) (h1 : LiesO w a1 zs) (h2 : LiesO w a2 zs) :
    Calls Try.prog 13 #[.agg #[.int .i64 tag, .int .i64 steps, .string str, .slice a1 zs.length c1], .agg #[.int .i64 tag, .int .i64 steps, .string str', .slice a2 zs.length c2]] w fun e w' => e = .returned (.bool true) ∧ Below w.heap.size w w' := by
  have hg := gb_alloc (gb_alloc (gb_refl w none) (.cells #[.int .i64 tag, .int .i64 steps, .string str, .slice a1 zs.length c1] 29)) (.cells #[.int .i64 tag, .int .i64 steps, .string str', .slice a2 zs.length c2] 29)
  have hs := hide (sameInts_gen a1 a2 c1 c2 zs zs rfl hl _ (h1.grown hg) (h2.grown hg))
  clear h1 h2
  go_enter Try.func13, Try.ntmps13
  go_wp2_with fail
  refine (unhide hs).mono ?_
  rintro e w1 ⟨bb, rfl, hb, hB⟩
  have hb : bb = true := by simpa using hb
  subst hb
  have r0 := hB.cell (p := ⟨w.heap.size, 0, none⟩) (by simp; omega)
  have r1 := hB.cell (p := ⟨w.heap.size, 1, none⟩) (by simp; omega)
  have r2 := hB.cell (p := ⟨w.heap.size + 1, 0, none⟩) (by simp)
  have r3 := hB.cell (p := ⟨w.heap.size + 1, 1, none⟩) (by simp)
  simp at r0 r1 r2 r3
  go_wp2_with fail
  go_ret
  exact ⟨rfl, (((Below.refl _ _).alloc (Nat.le_refl _) _).alloc (by simp) _).trans (hB.mono (by simp; omega))⟩

set_option maxHeartbeats 2000000 in
theorem begins_any (s t : ByteArray) (h : s.extract 0 t.size = t) (hl : t.size ≤ s.size) (w : World) :
    Calls Try.prog 16 #[.string s, .string t] w fun e w' => e = .returned (.bool true) ∧ Below w.heap.size w w' := by
  go_enter Try.func16, Try.ntmps16
  go_wp2_with fail
  go_ret
  exact ⟨rfl, Below.refl _ _⟩

theorem sh_pw (W : Nat) (h : W ≤ 8) : wrap64 (2 ^ W) = pw W := by
  have hb := pw_bd W h
  have e : ∀ k : Nat, (2 : Int) ^ k = pw k := by
    intro k
    induction k with
    | zero => rfl
    | succ k ih => rw [Int.pow_succ, ih]; rfl
  rw [e W]
  unfold wrap64
  omega

set_option maxHeartbeats 2000000 in
theorem kvalue_any (s ks : ByteArray) (W : Nat) (n : Int) (hW1 : 1 ≤ W) (hW : W ≤ 8) (ao : Option Addr) (cin : Nat) (zs : List Int) (hz : zs.length ≤ 100) (c : UInt8) (h0 : 48 ≤ (c.toNat : Int)) (h1 : 97 ≤ (c.toNat : Int) → ((c.toNat : Int) - 97).toNat < zs.length) (w : World) (hL : LiesO w ao zs) :
    Calls Try.prog 49 #[.agg #[.string s, .string ks, .int .i64 W, .int .i64 n], .slice ao zs.length cin, .int .u8 c.toNat] w fun e w' => e = .returned (.int .i64 (vb (pw W) zs c.toNat)) ∧ Below w.heap.size w w' := by
  have hpw := sh_pw W hW
  have hpb := pw_bd W hW
  by_cases hc : 97 ≤ (c.toNat : Int)
  · have hk := h1 hc
    obtain ⟨k, hkk⟩ : ∃ k : Nat, (c.toNat : Int) = 97 + k := ⟨((c.toNat : Int) - 97).toNat, by omega⟩
    have hk2 : k < zs.length := by omega
    rcases hL with hn | ⟨ab, off, rfl, hLL, hab⟩
    · rw [hn] at hk2; simp at hk2
    have q := hLL.at_ k hk2
    have hv : vb (pw W) zs c.toNat = zs.getD k 0 := by
      unfold vb; rw [if_pos hc]; congr 1; omega
    rw [hv]
    generalize zs.getD k 0 = z at *
    clear hv hLL
    have hlI : (k : Int) < (zs.length : Int) := by omega
    have hi : (c.toNat : Int) - 97 = k := by omega
    have Hh := hide h0
    rw [hkk]
    clear hi h1 hk hc h0
    go_enter Try.func49, Try.ntmps49
    go_wp2_with fail
    go_ret
    exact ⟨rfl, (Below.refl _ _).alloc (Nat.le_refl _) _⟩
  · have hv : vb (pw W) zs c.toNat = pck ((c.toNat : Int) - 48) (pw W) := by
      unfold vb pck; rw [if_neg hc, if_neg (by omega)]
    rw [hv]
    have hp := hide (fun w0 => pick_any ((c.toNat : Int) - 48) (pw W) (by omega) (by omega) (by unfold inI; omega) w0)
    generalize pck ((c.toNat : Int) - 48) (pw W) = r at *
    clear hv
    go_enter Try.func49, Try.ntmps49
    go_wp2_with fail
    refine (unhide hp _).mono ?_
    rintro e w1 ⟨rfl, rfl⟩
    go_wp2_with fail
    go_ret
    exact ⟨rfl, (Below.refl _ _).alloc (Nat.le_refl _) _⟩
end Go.Proofs.Ytfolokhilkffcaa
