/-
  readHead.
-/
import Derived.Test.YtfolokhilkffcaaCmd
namespace Go.Proofs.Ytfolokhilkffcaa
open Go.RowKit

/-- 2 to the power k. -/
def pw : Nat → Int
  | 0 => 1
  | k + 1 => pw k * 2
theorem pw_bd (k : Nat) (h : k ≤ 8) : 1 ≤ pw k ∧ pw k ≤ 256 := by
  have : ∀ k, k < 9 → 1 ≤ pw k ∧ pw k ≤ 256 := by decide
  exact this k (by omega)
theorem pw_bd7 (k : Nat) (h : k < 8) : pw k ≤ 128 := by
  have : ∀ k, k < 8 → pw k ≤ 128 := by decide
  exact this k h

/-- What readHead makes of the place and the mark: place, mark, width, variables, words. -/
def hdr (s : ByteArray) : Nat × Bool × Nat × Nat × Nat :=
  let t := tb s 0 false 49 56
  let n := cnt s t.2.1 8 t.1
  let u := tk s (t.1 + n) (t.2.1 || n == 0) 47
  let m := cnt s u.2 16 u.1
  let v := tk s (u.1 + m) u.2 58
  (v.1, v.2, 1 + t.2.2.toNat, n, m)

section
variable {w : World} {b : Nat} {s : ByteArray} {p : Nat} {bad : Bool} {hw hv hn hm : Int} {cv : Value}
theorem Rd.setW (h : Rd w b s p bad hw hv hn hm cv) (q : Int) : Rd (w.setCell ⟨b, 3, none⟩ (.int .i64 q)) b s p bad q hv hn hm cv := by
  have := At.set h 3 (.int .i64 q); simpa [Rd] using this
theorem Rd.setV (h : Rd w b s p bad hw hv hn hm cv) (q : Int) : Rd (w.setCell ⟨b, 4, none⟩ (.int .i64 q)) b s p bad hw q hn hm cv := by
  have := At.set h 4 (.int .i64 q); simpa [Rd] using this
theorem Rd.setN (h : Rd w b s p bad hw hv hn hm cv) (q : Int) : Rd (w.setCell ⟨b, 5, none⟩ (.int .i64 q)) b s p bad hw hv q hm cv := by
  have := At.set h 5 (.int .i64 q); simpa [Rd] using this
theorem Rd.setM (h : Rd w b s p bad hw hv hn hm cv) (q : Int) : Rd (w.setCell ⟨b, 6, none⟩ (.int .i64 q)) b s p bad hw hv hn q cv := by
  have := At.set h 6 (.int .i64 q); simpa [Rd] using this
theorem Rd.setC (h : Rd w b s p bad hw hv hn hm cv) (q : Value) : Rd (w.setCell ⟨b, 7, none⟩ q) b s p bad hw hv hn hm q := by
  have := At.set h 7 q; simpa [Rd] using this

theorem tb_wid (s : ByteArray) (p : Nat) (bad : Bool) : 0 ≤ (tb s p bad 49 56).2.2 ∧ (tb s p bad 49 56).2.2 ≤ 7 := by
  unfold tb
  split
  · dsimp only; omega
  · dsimp only; omega

set_option maxHeartbeats 2000000 in
theorem readHead_any (hR : Rd w b s 0 false hw hv hn hm cv) (hs : s.size ≤ maxLen) :
    Calls Try.prog 32 #[.pointer (some ⟨b, 0, none⟩)] w fun e w' => e = .returned (.tuple #[]) ∧ Rd w' b s (hdr s).1 (hdr s).2.1 (hdr s).2.2.1 (pw (hdr s).2.2.1) (hdr s).2.2.2.1 (hdr s).2.2.2.2 cv ∧ w.grownBy w' (some b) := by
  unfold hdr
  dsimp only
  have hb := tb_wid s 0 false
  generalize hq : tb s 0 false 49 56 = t at *
  have Ht := hide hq
  clear hq
  obtain ⟨p1, b1, z⟩ := t
  dsimp only at *
  obtain ⟨hz1, hz2⟩ := hb
  obtain ⟨W, hW⟩ : ∃ W : Nat, W = 1 + z.toNat := ⟨_, rfl⟩
  have hzW : 1 + z = (W : Int) := by omega
  have hW8 : W ≤ 8 := by omega
  rw [← hW]
  have HzW := hide hzW
  clear hW hzW
  have hnle := cnt_le s b1 8 p1
  generalize hq : cnt s b1 8 p1 = n at *
  have Hn := hide hq
  clear hq
  generalize hq : tk s (p1 + n) (b1 || n == 0) 47 = u at *
  have Hu := hide hq
  clear hq
  obtain ⟨p3, b3⟩ := u
  dsimp only
  have hmle := cnt_le s b3 16 p3
  generalize hq : cnt s b3 16 p3 = m at *
  have Hm := hide hq
  clear hq
  generalize hq : tk s (p3 + m) b3 58 = v at *
  have Hv := hide hq
  clear hq
  go_enter Try.func32, Try.ntmps32
  go_wp2_with fail
  refine (takeBetween_any hR hs 49 56 (by omega) (by omega) (by omega) (by omega)).mono ?_
  rintro e w1 ⟨rfl, hR1, hg1⟩
  rw [unhide Ht] at hR1 ⊢
  dsimp only at *
  have f3 := fun j => hR1.frozen j
  have c3 := hR1.cell 3
  have c4 := hR1.cell 4
  simp at c3 c4
  go_wp2_with fail
  rw [unhide HzW]
  have hR1' := Rd.setV (Rd.setW hR1 W) 1
  have hg1' := gb_set (gb_set hg1 (a := ⟨b, 3, none⟩) (.int .i64 W) (.inl rfl)) (a := ⟨b, 4, none⟩) (.int .i64 1) (.inl rfl)
  clear c3 c4 f3
  generalize (w1.setCell ⟨b, 3, none⟩ (.int .i64 W)).setCell ⟨b, 4, none⟩ (.int .i64 1) = wA at *
  go_loopw [2] (fun i wr => ∃ k : Nat, i = .int .i64 k ∧ k ≤ W ∧ Rd wr b s p1 b1 W (pw k) hn hm cv ∧ w.grownBy wr (some b)) (fun i _ => W - (intOf i).toNat)
  case atStart => exact ⟨0, rfl, Nat.zero_le _, hR1', hg1'⟩
  case round =>
    obtain ⟨k, rfl, hk, hRk, hgk⟩ := hrel
    have c3 := hRk.cell 3
    have c4 := hRk.cell 4
    have f4 := fun j => hRk.frozen j
    simp at c3 c4
    by_cases hlt : k < W
    · have hp := pw_bd k (by omega)
      have hp7 := pw_bd7 k (by omega)
      have e : pw (k + 1) = pw k * 2 := rfl
      have He := hide e
      clear e
      generalize pw k = v at *
      go_wp2_with fail
      go_roundw
      case rel => exact ⟨k + 1, by go_num, by omega, by rw [unhide He]; exact Rd.setV hRk _, gb_set hgk _ (.inl rfl)⟩
      case measure => simp [intOf]; omega
    · obtain rfl : k = W := by omega
      go_wp2_with fail
      refine (takeLetters_any hRk hs 8 (by omega)).mono ?_
      rintro e w2 ⟨rfl, hR2, hg2⟩
      rw [unhide Hn] at hR2 ⊢
      have c5 := hR2.cell 5
      have c2 := hR2.cell 2
      have f2 := fun j => hR2.frozen j
      simp at c5 c2
      clear c3 c4 f4
      by_cases hn0 : n = 0
      · subst hn0
        go_wp2_with fail
        refine (take_any (Rd.setBad (Rd.setN hR2 0)) hs 47).mono ?_
        rintro e w3 ⟨rfl, hR3, hg3⟩
        rw [show tk s (p1 + 0) true 47 = (p3, b3) from by have := unhide Hu; simpa using this] at hR3
        dsimp only at hR3
        clear c5 c2 f2
        go_wp2_with fail
        refine (takeLetters_any hR3 hs 16 (by omega)).mono ?_
        rintro e w4 ⟨rfl, hR4, hg4⟩
        rw [unhide Hm] at hR4 ⊢
        have c6 := hR4.cell 6
        have f6 := hR4.frozen 6
        simp at c6
        go_wp2_with fail
        refine (take_any (Rd.setM hR4 m) hs 58).mono ?_
        rintro e w5 ⟨rfl, hR5, hg5⟩
        rw [unhide Hv] at hR5
        go_wp2_with fail
        go_end0
        exact ⟨rfl, hR5, gb_trans (gb_set (gb_trans (gb_trans (gb_set (gb_set (gb_trans hgk hg2) _ (.inl rfl)) _ (.inl rfl)) hg3) hg4) _ (.inl rfl)) hg5⟩
      · have hn1 : ((n : Int) == 0) = false := by simp; omega
        have hn2 : (n == 0) = false := by simp; omega
        have Hn2 := hide hn2
        clear hn2
        go_wp2_with fail
        refine (take_any (Rd.setN hR2 n) hs 47).mono ?_
        rintro e w3 ⟨rfl, hR3, hg3⟩
        rw [show tk s (p1 + n) b1 47 = (p3, b3) from by have := unhide Hu; rw [unhide Hn2, Bool.or_false] at this; exact this] at hR3
        dsimp only at hR3
        clear c5 c2 f2
        go_wp2_with fail
        refine (takeLetters_any hR3 hs 16 (by omega)).mono ?_
        rintro e w4 ⟨rfl, hR4, hg4⟩
        rw [unhide Hm] at hR4 ⊢
        have c6 := hR4.cell 6
        have f6 := hR4.frozen 6
        simp at c6
        go_wp2_with fail
        refine (take_any (Rd.setM hR4 m) hs 58).mono ?_
        rintro e w5 ⟨rfl, hR5, hg5⟩
        rw [unhide Hv] at hR5
        go_wp2_with fail
        go_end0
        exact ⟨rfl, hR5, gb_trans (gb_set (gb_trans (gb_trans (gb_set (gb_trans hgk hg2) _ (.inl rfl)) hg3) hg4) _ (.inl rfl)) hg5⟩
end
end Go.Proofs.Ytfolokhilkffcaa
