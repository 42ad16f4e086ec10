/-
  shows, starts.
-/
import Derived.Test.YtfolokhilkffcaaKpH
namespace Go.Proofs.Ytfolokhilkffcaa
open Go.RowKit

section
variable {s ks : ByteArray} {W n m : Nat} {zs : List Int} {ao : Option Addr} {cin : Nat} {w : World}

theorem shB_bd (zs : List Int) (c : Cm) : shB zs c = 0 ∨ (0 < shB zs c ∧ shB zs c < 256) := by
  unfold shB
  split
  · split
    · split <;> simp
    · simp
  · split
    · simp
    · split <;> simp

set_option maxHeartbeats 2000000 in
theorem shows_any (K : KOK s ks W n m) (hz : zs.length = n + m) (hL : LiesO w ao zs) {c : Cm} {a b : List UInt8} (hd : Does (pw W) n c (Lft s (3 + ks.size)) a b) (seen : ByteArray) (h : shB zs c = 0 ∨ ∃ hs : 0 < seen.size, (seen[0].toNat : Int) = shB zs c) :
    Calls Try.prog 26 #[.agg #[.string s, .string ks, .int .i64 W, .int .i64 n], .string seen, .slice ao zs.length cin] w fun e w' => e = .returned (.bool true) ∧ Below w.heap.size w w' := by
  have hsh := hide (shown_any (cin := cin) K hz (hL.grown (gb_alloc (gb_refl w none) (.cells #[.string s, .string ks, .int .i64 W, .int .i64 n] 24))) hd)
  generalize shB zs c = r at *
  clear hd hL hz
  by_cases h0 : r = 0
  · subst h0
    clear h
    go_enter Try.func26, Try.ntmps26
    go_wp2_with fail
    refine (unhide hsh).mono ?_
    rintro e w1 ⟨rfl, hB1⟩
    go_wp2_with fail
    go_ret
    exact ⟨rfl, ((Below.refl w.heap.size w).alloc (Nat.le_refl _) _).trans (hB1.mono (by simp))⟩
  · have h1 : ∃ hs : 0 < seen.size, (seen[0].toNat : Int) = r := by
      rcases h with h | h
      · exact absurd h h0
      · exact h
    obtain ⟨hs, he⟩ := h1
    have hem := keep_full hs
    have h02 : (r == 0) = false := by simpa using h0
    clear h h0
    go_enter Try.func26, Try.ntmps26
    go_wp2_with fail
    refine (unhide hsh).mono ?_
    rintro e w1 ⟨rfl, hB1⟩
    go_wp2_with fail
    go_ret
    exact ⟨rfl, ((Below.refl w.heap.size w).alloc (Nat.le_refl _) _).trans (hB1.mono (by simp))⟩

theorem seen_first {sn : List Int} {r : Int} (hr : r = 0 ∨ (0 < r ∧ r < 256)) (h : r = 0 ∨ ∃ t, sn = r :: t) : r = 0 ∨ ∃ hs : 0 < (strOfNums sn).size, ((strOfNums sn)[0].toNat : Int) = r := by
  by_cases h0 : r = 0
  · exact .inl h0
  · right
    obtain ⟨t, rfl⟩ : ∃ t, sn = r :: t := by
      rcases h with h | h
      · exact absurd h h0
      · exact h
    have hs : 0 < (strOfNums (r :: t)).size := by rw [strOfNums_size]; simp
    refine ⟨hs, ?_⟩
    have e : (strOfNums (r :: t))[0] = UInt8.ofNat r.toNat := byte_eq hs rfl
    rw [e, ofNat_toNat _ (by omega)]
    omega

set_option maxHeartbeats 4000000 in
theorem starts_any (K : KOK s ks W n m) (hz : zs.length = n + m) (hL : LiesO w ao zs) (fuel : Nat) (R : Res) (hS : Starts (pw W) n (Lft s (3 + n + m)) zs fuel R) (a1 : Option Addr) (c1 : Nat) (hl : R.σ.length = zs.length) (hL1 : LiesO w a1 R.σ) :
    Calls Try.prog 12 #[.agg #[.string s, .string ks, .int .i64 W, .int .i64 n], .agg #[.int .i64 R.tag, .int .i64 R.steps, .string (strOfNums R.sn), .slice a1 zs.length c1], .slice ao zs.length cin, .int .i64 fuel] w fun e w' => e = .returned (.bool true) ∧ Below w.heap.size w w' := by
  have hks : 3 + n + m = 3 + ks.size := by have := K.kinds; omega
  rw [hks] at hS
  have hn8 := K.n8
  have hm16 := K.m16
  have hzl : zs.length ≤ 100 := by omega
  have hBo := hide (fun w0 => Body_any s ks W n K.size K.long w0)
  have hg := gb_alloc (gb_alloc (gb_refl w none) (.cells #[.string s, .string ks, .int .i64 W, .int .i64 n] 24)) (.cells #[.int .i64 R.tag, .int .i64 R.steps, .string (strOfNums R.sn), .slice a1 zs.length c1] 29)
  have HL := hide (hL.grown hg)
  have HL1 := hide (hL1.grown hg)
  have hsame := hide (fun w0 (h1 : LiesO w0 a1 R.σ) (h2 : LiesO w0 ao zs) => by
    have h := sameInts_gen a1 ao c1 cin R.σ zs hl.symm (by omega) w0 h1 h2
    rw [hl] at h; exact h)
  have hshow := hide (fun w0 (h : LiesO w0 ao zs) (c : Cm) (a b : List UInt8) (hd : Does (pw W) n c (Lft s (3 + ks.size)) a b) (seen : ByteArray) h' => shows_any (cin := cin) (w := w0) K hz h hd seen h')
  rcases hS with ⟨hB, rfl⟩ | ⟨hB, rfl, rfl⟩ | ⟨hf, hst, c, a, b, hd, hsn⟩
  · have hem0 : (strOfNums []).toList.isEmpty = true := keep_empty rfl
    dsimp only at *
    generalize strOfNums [] = str at *
    have HB := hide hB
    have hA0 := hide ((At.new (w.alloc (.cells #[.string s, .string ks, .int .i64 W, .int .i64 n] 24)) 29 #[.int .i64 1, .int .i64 0, .string str, .slice a1 zs.length c1]))
    clear hB hg hl hz hL hL1 hshow
    go_enter Try.func12, Try.ntmps12
    go_wp2_with fail
    refine (unhide hBo _).mono ?_
    rintro e w1 ⟨bb, rfl, hbb, hB1⟩
    have hA1 := (unhide hA0).below hB1 (by simp)
    have hw1 : w.heap.size + 2 ≤ w1.heap.size := by have := hB1.size; simp at this; omega
    have HL2 := hide ((unhide HL).grown (below_gb hB1))
    have HL3 := hide ((unhide HL1).grown (below_gb hB1))
    rw [unhide HB] at hbb
    have hem := keep_empty hbb
    obtain ⟨r0, r1, r2, r3⟩ := hA1.four
    simp at r0 r1 r2 r3
    clear hbb hA1
    go_wp2_with fail
    refine (unhide hsame _ (unhide HL3) (unhide HL2)).mono ?_
    rintro e w2 ⟨bv, rfl, hbv, hB2⟩
    have hbv : bv = true := by simpa using hbv
    subst hbv
    have hA2 := ((unhide hA0).below hB1 (by simp)).below hB2 (by simp; omega)
    obtain ⟨q0, q1, q2, q3⟩ := hA2.four
    simp at q0 q1 q2 q3
    clear r0 r1 r2 r3 hA2
    go_wp2_with fail
    go_ret
    exact ⟨rfl, (((Below.refl w.heap.size w).alloc (Nat.le_refl _) _).alloc (by simp) _).trans ((hB1.mono (by simp; omega)).trans (hB2.mono (by omega)))⟩
  · have hem0 : (strOfNums []).toList.isEmpty = true := keep_empty rfl
    dsimp only at *
    generalize strOfNums [] = str at *
    have HB := hide hB
    have hA0 := hide ((At.new (w.alloc (.cells #[.string s, .string ks, .int .i64 W, .int .i64 n] 24)) 29 #[.int .i64 3, .int .i64 0, .string str, .slice a1 zs.length c1]))
    clear hB hg hl hz hL hL1 hshow
    go_enter Try.func12, Try.ntmps12
    go_wp2_with fail
    refine (unhide hBo _).mono ?_
    rintro e w1 ⟨bb, rfl, hbb, hB1⟩
    have hA1 := (unhide hA0).below hB1 (by simp)
    have hw1 : w.heap.size + 2 ≤ w1.heap.size := by have := hB1.size; simp at this; omega
    have HL2 := hide ((unhide HL).grown (below_gb hB1))
    have HL3 := hide ((unhide HL1).grown (below_gb hB1))
    have hem : bb.toList.isEmpty = false := keep_full (by
      rw [size_list, hbb]
      exact List.length_pos_iff.2 (unhide HB))
    obtain ⟨r0, r1, r2, r3⟩ := hA1.four
    simp at r0 r1 r2 r3
    clear hbb hA1
    go_wp2_with fail
    refine (unhide hsame _ (unhide HL3) (unhide HL2)).mono ?_
    rintro e w2 ⟨bv, rfl, hbv, hB2⟩
    have hbv : bv = true := by simpa using hbv
    subst hbv
    have hA2 := ((unhide hA0).below hB1 (by simp)).below hB2 (by simp; omega)
    obtain ⟨q0, q1, q2, q3⟩ := hA2.four
    simp at q0 q1 q2 q3
    clear r0 r1 r2 r3 hA2
    go_wp2_with fail
    go_ret
    exact ⟨rfl, (((Below.refl w.heap.size w).alloc (Nat.le_refl _) _).alloc (by simp) _).trans ((hB1.mono (by simp; omega)).trans (hB2.mono (by omega)))⟩
  · have hfs := seen_first (shB_bd zs c) hsn
    have hpos := hd.pos
    obtain ⟨tag, steps, sn, σ⟩ := R
    dsimp only at *
    generalize strOfNums sn = str at *
    have Hfs := hide hfs
    have hA0 := hide ((At.new (w.alloc (.cells #[.string s, .string ks, .int .i64 W, .int .i64 n] 24)) 29 #[.int .i64 tag, .int .i64 steps, .string str, .slice a1 zs.length c1]))
    have hA00 := hide ((At.new w 24 #[.string s, .string ks, .int .i64 W, .int .i64 n]).alloc (.cells #[.int .i64 tag, .int .i64 steps, .string str, .slice a1 zs.length c1] 29))
    have hf2 : ((fuel : Int) == 0) = false := by simp; omega
    have hst2 : decide ((0 : Int) < (steps : Int)) = true := by simp; omega
    have Hd := hide hd
    clear hg hl hz hL hL1 hsame hfs hsn hd
    go_enter Try.func12, Try.ntmps12
    go_wp2_with fail
    refine (unhide hBo _).mono ?_
    rintro e w1 ⟨bb, rfl, hbb, hB1⟩
    have hA1 := (unhide hA0).below hB1 (by simp)
    have hA11 := (unhide hA00).below hB1 (by simp; omega)
    have hw1 : w.heap.size + 2 ≤ w1.heap.size := by have := hB1.size; simp at this; omega
    have HL2 := hide ((unhide HL).grown (below_gb hB1))
    have hem : bb.toList.isEmpty = false := keep_full (by
      rw [size_list, hbb]; exact hpos)
    obtain ⟨r0, r1, r2, r3⟩ := hA1.four
    obtain ⟨k0, k1, k2, k3⟩ := hA11.four
    simp at r0 r1 r2 r3
    clear hbb hA1 hA11
    go_wp2_with fail
    refine (unhide hshow _ (unhide HL2) c a b (unhide Hd) str (unhide Hfs)).mono ?_
    rintro e w2 ⟨rfl, hB2⟩
    have hA2 := ((unhide hA0).below hB1 (by simp)).below hB2 (by simp; omega)
    obtain ⟨q0, q1, q2, q3⟩ := hA2.four
    simp at q0 q1 q2 q3
    clear r0 r1 r2 r3 hA2
    go_wp2_with fail
    go_ret
    exact ⟨rfl, (((Below.refl w.heap.size w).alloc (Nat.le_refl _) _).alloc (by simp) _).trans ((hB1.mono (by simp; omega)).trans (hB2.mono (by omega)))⟩
end
end Go.Proofs.Ytfolokhilkffcaa
