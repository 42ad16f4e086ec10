import Derived.Test.YtnkbfdbbcaffmabX03Cmd
import Derived.Deep.RegionHeld3
import Derived.BigRegion
/-
  seeWord, seeDivision.
-/
namespace Go.Proofs.Ytnkbfdbbcaffmab
open Go.RowKit

/-- What is seen of a word's number. -/
def shn (view x : Int) : Int := if 2 ≤ view then hlv (view - 2).toNat x else x
def swB (view m x : Int) : List Int := [109] ++ [hxd (shn view x / 16)] ++ [hxd (shn view x % 16)] ++ (if m ≤ x then [111] else [])
def sdB (view x y : Int) : List Int := (if y = 0 then [120] else [118]) ++ (if view = 1 then [hxd (btc 8 x)] ++ [hxd (btc 8 y)] else [])

section
variable {w : World} {b gs : Nat} {W V n m view : Int} {σ : List Int} {sv : Value} {sn : List Int} {steps : ByteArray × Value} {tr : Bool}

theorem shn_bd (view x : Int) (h0 : 0 ≤ x) (h1 : x ≤ 255) : 0 ≤ shn view x ∧ shn view x ≤ 255 := by
  unfold shn
  split
  · have := hlv_bd (view - 2).toNat x h0; omega
  · omega

set_option maxHeartbeats 2000000 in
theorem seeWord_any (hM0 : Mac w b gs W V n m view σ sv steps tr) (hS0 : Sn w b sv sn) (hl : sn.length ≤ 90000) (x : Int) (h0 : 0 ≤ x) (h1 : x ≤ 255) (_hv0 : 0 ≤ view) (_hv1 : view ≤ 8) :
    Calls Try.prog 112 #[.pointer (some ⟨b, 0, none⟩), .int .i64 x] w fun e w' => e = .returned (.tuple #[]) ∧ ∃ sv', Mac w' b gs W V n m view σ sv' steps (if m ≤ x then true else tr) ∧ Sn w' b sv' (sn ++ swB view m x) ∧ Fr gs b w w' := by
  obtain ⟨m0, m1, m2, m3, m4, m5, m6, m7, m8, mt, mf⟩ := hM0.nine
  have hsb := shn_bd view x h0 h1
  have hfin : swB view m x = [109] ++ [hxd (shn view x / 16)] ++ [hxd (shn view x % 16)] ++ (if m ≤ x then [111] else []) := rfl
  by_cases hline : 2 ≤ view
  · obtain ⟨t, ht⟩ : ∃ t : Nat, view - 2 = (t : Int) := ⟨(view - 2).toNat, by omega⟩
    have hh : hlv t x = shn view x := by
      unfold shn; rw [if_pos hline, ht]; rfl
    have Ht := hide ht
    have Hh := hide hh
    have htl : t ≤ 6 := by omega
    clear ht hh
    generalize shn view x = z at *
    by_cases htrap : m ≤ x
    · rw [if_pos htrap] at hfin ⊢
      have hfin2 : sn ++ swB view m x = sn ++ [109] ++ [hxd (z / 16)] ++ [hxd (z % 16)] ++ [111] := by rw [hfin]; simp
      have Hfin := hide hfin2
      clear hfin hfin2
      go_enter Try.func112, Try.ntmps112
      go_wp2_with fail
      rw [unhide Ht]
      refine (halve_any x t h0 h1 (by omega) _).mono ?_
      rintro e w' ⟨rfl, rfl⟩
      rw [unhide Hh]
      go_wp2_with fail
      refine (see_any hM0 hS0 (by omega) 109).mono ?_
      rintro e w1 ⟨rfl, sv1, hM1, hS1, hF1⟩
      clear m0 m1 m2 m3 m4 m5 m6 m7 m8 mt mf
      obtain ⟨m0, m1, m2, m3, m4, m5, m6, m7, m8, mt, mf⟩ := hM1.nine
      go_wp2_with fail
      refine (digit_any _ (by omega) (by omega) _).mono ?_
      rintro e w' ⟨rfl, rfl⟩
      go_wp2_with fail
      refine (see_any hM1 hS1 (by rw [List.length_append]; simp; omega) _).mono ?_
      rintro e w2 ⟨rfl, sv2, hM2, hS2, hF2⟩
      clear m0 m1 m2 m3 m4 m5 m6 m7 m8 mt mf
      obtain ⟨m0, m1, m2, m3, m4, m5, m6, m7, m8, mt, mf⟩ := hM2.nine
      go_wp2_with fail
      refine (digit_any _ (by omega) (by omega) _).mono ?_
      rintro e w' ⟨rfl, rfl⟩
      go_wp2_with fail
      refine (see_any hM2 hS2 (by rw [List.length_append, List.length_append]; simp; omega) _).mono ?_
      rintro e w3 ⟨rfl, sv3, hM3, hS3, hF3⟩
      clear m0 m1 m2 m3 m4 m5 m6 m7 m8 mt mf
      obtain ⟨m0, m1, m2, m3, m4, m5, m6, m7, m8, mt, mf⟩ := hM3.nine
      go_wp2_with fail
      refine (see_any hM3 hS3 (by rw [List.length_append, List.length_append, List.length_append]; simp; omega) 111).mono ?_
      rintro e w4 ⟨rfl, sv4, hM4, hS4, hF4⟩
      clear m0 m1 m2 m3 m4 m5 m6 m7 m8 mt mf
      obtain ⟨m0, m1, m2, m3, m4, m5, m6, m7, m8, mt, mf⟩ := hM4.nine
      go_wp2_with fail
      go_end0
      exact ⟨rfl, _, hM4.setTrap, by rw [unhide Hfin]; exact hS4.set _ (Nat.le_refl _), ((hF1.trans hF2).trans (hF3.trans hF4)).set _ (Nat.le_of_lt hM0.2.2) (.inr (.inl rfl))⟩
    · rw [if_neg htrap] at hfin ⊢
      have hfin2 : sn ++ swB view m x = sn ++ [109] ++ [hxd (z / 16)] ++ [hxd (z % 16)] := by rw [hfin]; simp
      have Hfin := hide hfin2
      clear hfin hfin2
      go_enter Try.func112, Try.ntmps112
      go_wp2_with fail
      rw [unhide Ht]
      refine (halve_any x t h0 h1 (by omega) _).mono ?_
      rintro e w' ⟨rfl, rfl⟩
      rw [unhide Hh]
      go_wp2_with fail
      refine (see_any hM0 hS0 (by omega) 109).mono ?_
      rintro e w1 ⟨rfl, sv1, hM1, hS1, hF1⟩
      clear m0 m1 m2 m3 m4 m5 m6 m7 m8 mt mf
      obtain ⟨m0, m1, m2, m3, m4, m5, m6, m7, m8, mt, mf⟩ := hM1.nine
      go_wp2_with fail
      refine (digit_any _ (by omega) (by omega) _).mono ?_
      rintro e w' ⟨rfl, rfl⟩
      go_wp2_with fail
      refine (see_any hM1 hS1 (by rw [List.length_append]; simp; omega) _).mono ?_
      rintro e w2 ⟨rfl, sv2, hM2, hS2, hF2⟩
      clear m0 m1 m2 m3 m4 m5 m6 m7 m8 mt mf
      obtain ⟨m0, m1, m2, m3, m4, m5, m6, m7, m8, mt, mf⟩ := hM2.nine
      go_wp2_with fail
      refine (digit_any _ (by omega) (by omega) _).mono ?_
      rintro e w' ⟨rfl, rfl⟩
      go_wp2_with fail
      refine (see_any hM2 hS2 (by rw [List.length_append, List.length_append]; simp; omega) _).mono ?_
      rintro e w3 ⟨rfl, sv3, hM3, hS3, hF3⟩
      clear m0 m1 m2 m3 m4 m5 m6 m7 m8 mt mf
      obtain ⟨m0, m1, m2, m3, m4, m5, m6, m7, m8, mt, mf⟩ := hM3.nine
      go_wp2_with fail
      go_end0
      exact ⟨rfl, _, hM3, by rw [unhide Hfin]; exact hS3, (hF1.trans hF2).trans hF3⟩
  · have hz : shn view x = x := by unfold shn; rw [if_neg hline]
    rw [hz] at hfin
    clear hsb hz
    by_cases htrap : m ≤ x
    · rw [if_pos htrap] at hfin ⊢
      have hfin2 : sn ++ swB view m x = sn ++ [109] ++ [hxd (x / 16)] ++ [hxd (x % 16)] ++ [111] := by rw [hfin]; simp
      have Hfin := hide hfin2
      clear hfin hfin2
      go_enter Try.func112, Try.ntmps112
      go_wp2_with fail
      refine (see_any hM0 hS0 (by omega) 109).mono ?_
      rintro e w1 ⟨rfl, sv1, hM1, hS1, hF1⟩
      clear m0 m1 m2 m3 m4 m5 m6 m7 m8 mt mf
      obtain ⟨m0, m1, m2, m3, m4, m5, m6, m7, m8, mt, mf⟩ := hM1.nine
      go_wp2_with fail
      refine (digit_any _ (by omega) (by omega) _).mono ?_
      rintro e w' ⟨rfl, rfl⟩
      go_wp2_with fail
      refine (see_any hM1 hS1 (by rw [List.length_append]; simp; omega) _).mono ?_
      rintro e w2 ⟨rfl, sv2, hM2, hS2, hF2⟩
      clear m0 m1 m2 m3 m4 m5 m6 m7 m8 mt mf
      obtain ⟨m0, m1, m2, m3, m4, m5, m6, m7, m8, mt, mf⟩ := hM2.nine
      go_wp2_with fail
      refine (digit_any _ (by omega) (by omega) _).mono ?_
      rintro e w' ⟨rfl, rfl⟩
      go_wp2_with fail
      refine (see_any hM2 hS2 (by rw [List.length_append, List.length_append]; simp; omega) _).mono ?_
      rintro e w3 ⟨rfl, sv3, hM3, hS3, hF3⟩
      clear m0 m1 m2 m3 m4 m5 m6 m7 m8 mt mf
      obtain ⟨m0, m1, m2, m3, m4, m5, m6, m7, m8, mt, mf⟩ := hM3.nine
      go_wp2_with fail
      refine (see_any hM3 hS3 (by rw [List.length_append, List.length_append, List.length_append]; simp; omega) 111).mono ?_
      rintro e w4 ⟨rfl, sv4, hM4, hS4, hF4⟩
      clear m0 m1 m2 m3 m4 m5 m6 m7 m8 mt mf
      obtain ⟨m0, m1, m2, m3, m4, m5, m6, m7, m8, mt, mf⟩ := hM4.nine
      go_wp2_with fail
      go_end0
      exact ⟨rfl, _, hM4.setTrap, by rw [unhide Hfin]; exact hS4.set _ (Nat.le_refl _), ((hF1.trans hF2).trans (hF3.trans hF4)).set _ (Nat.le_of_lt hM0.2.2) (.inr (.inl rfl))⟩
    · rw [if_neg htrap] at hfin ⊢
      have hfin2 : sn ++ swB view m x = sn ++ [109] ++ [hxd (x / 16)] ++ [hxd (x % 16)] := by rw [hfin]; simp
      have Hfin := hide hfin2
      clear hfin hfin2
      go_enter Try.func112, Try.ntmps112
      go_wp2_with fail
      refine (see_any hM0 hS0 (by omega) 109).mono ?_
      rintro e w1 ⟨rfl, sv1, hM1, hS1, hF1⟩
      clear m0 m1 m2 m3 m4 m5 m6 m7 m8 mt mf
      obtain ⟨m0, m1, m2, m3, m4, m5, m6, m7, m8, mt, mf⟩ := hM1.nine
      go_wp2_with fail
      refine (digit_any _ (by omega) (by omega) _).mono ?_
      rintro e w' ⟨rfl, rfl⟩
      go_wp2_with fail
      refine (see_any hM1 hS1 (by rw [List.length_append]; simp; omega) _).mono ?_
      rintro e w2 ⟨rfl, sv2, hM2, hS2, hF2⟩
      clear m0 m1 m2 m3 m4 m5 m6 m7 m8 mt mf
      obtain ⟨m0, m1, m2, m3, m4, m5, m6, m7, m8, mt, mf⟩ := hM2.nine
      go_wp2_with fail
      refine (digit_any _ (by omega) (by omega) _).mono ?_
      rintro e w' ⟨rfl, rfl⟩
      go_wp2_with fail
      refine (see_any hM2 hS2 (by rw [List.length_append, List.length_append]; simp; omega) _).mono ?_
      rintro e w3 ⟨rfl, sv3, hM3, hS3, hF3⟩
      clear m0 m1 m2 m3 m4 m5 m6 m7 m8 mt mf
      obtain ⟨m0, m1, m2, m3, m4, m5, m6, m7, m8, mt, mf⟩ := hM3.nine
      go_wp2_with fail
      go_end0
      exact ⟨rfl, _, hM3, by rw [unhide Hfin]; exact hS3, (hF1.trans hF2).trans hF3⟩

set_option maxHeartbeats 2000000 in
theorem seeDivision_any (hM0 : Mac w b gs W V n m view σ sv steps tr) (hS0 : Sn w b sv sn) (hl : sn.length ≤ 90000) (x y : Int) (h0 : 0 ≤ x) (h1 : x ≤ 255) (h2 : 0 ≤ y) (h3 : y ≤ 255) :
    Calls Try.prog 110 #[.pointer (some ⟨b, 0, none⟩), .int .i64 x, .int .i64 y] w fun e w' => e = .returned (.tuple #[]) ∧ ∃ sv', Mac w' b gs W V n m view σ sv' steps (if y = 0 then true else tr) ∧ Sn w' b sv' (sn ++ sdB view x y) ∧ Fr gs b w w' := by
  obtain ⟨m0, m1, m2, m3, m4, m5, m6, m7, m8, mt, mf⟩ := hM0.nine
  have hbx := btc_bd 8 x
  have hby := btc_bd 8 y
  have hfin : sdB view x y = (if y = 0 then [120] else [118]) ++ (if view = 1 then [hxd (btc 8 x)] ++ [hxd (btc 8 y)] else []) := rfl
  generalize hqx : btc 8 x = bx at *
  generalize hqy : btc 8 y = b2 at *
  have Hx := hide hqx
  have Hy := hide hqy
  clear hqx hqy
  by_cases hz : y = 0
  · rw [if_pos hz] at hfin ⊢
    have hyb : (y != 0) = false := by simpa using hz
    by_cases ht : view = 1
    · rw [if_pos ht] at hfin
      have hfin2 : sn ++ sdB view x y = sn ++ [120] ++ [hxd bx] ++ [hxd b2] := by rw [hfin]; simp
      have Hfin := hide hfin2
      have hvb : (view == 1) = true := by simpa using ht
      clear hfin hfin2 hz ht
      go_enter Try.func110, Try.ntmps110
      go_wp2_with fail
      refine (see_any hM0 hS0 (by omega) _).mono ?_
      rintro e w1 ⟨rfl, sv1, hM1, hS1, hF1⟩
      clear m0 m1 m2 m3 m4 m5 m6 m7 m8 mt mf
      obtain ⟨m0, m1, m2, m3, m4, m5, m6, m7, m8, mt, mf⟩ := hM1.nine
      have hM1' := hM1.setTrap
      have hS1' := hS1.set (a := ⟨b, 9, none⟩) (.bool true) (Nat.le_refl _)
      have hF1' := hF1.set (a := ⟨b, 9, none⟩) (.bool true) (Nat.le_of_lt hM0.2.2) (.inr (.inl rfl))
      go_wp2_with fail
      refine (mbits_any x (by omega) (by omega) _).mono ?_
      rintro e w' ⟨rfl, rfl⟩
      rw [unhide Hx]
      go_wp2_with fail
      refine (digit_any _ (by omega) (by omega) _).mono ?_
      rintro e w' ⟨rfl, rfl⟩
      go_wp2_with fail
      refine (see_any hM1' hS1' (by rw [List.length_append]; simp; omega) _).mono ?_
      rintro e w2 ⟨rfl, sv2, hM2, hS2, hF2⟩
      clear m0 m1 m2 m3 m4 m5 m6 m7 m8 mt mf
      obtain ⟨m0, m1, m2, m3, m4, m5, m6, m7, m8, mt, mf⟩ := hM2.nine
      go_wp2_with fail
      refine (mbits_any y (by omega) (by omega) _).mono ?_
      rintro e w' ⟨rfl, rfl⟩
      rw [unhide Hy]
      go_wp2_with fail
      refine (digit_any _ (by omega) (by omega) _).mono ?_
      rintro e w' ⟨rfl, rfl⟩
      go_wp2_with fail
      refine (see_any hM2 hS2 (by rw [List.length_append, List.length_append]; simp; omega) _).mono ?_
      rintro e w3 ⟨rfl, sv3, hM3, hS3, hF3⟩
      clear m0 m1 m2 m3 m4 m5 m6 m7 m8 mt mf
      obtain ⟨m0, m1, m2, m3, m4, m5, m6, m7, m8, mt, mf⟩ := hM3.nine
      go_wp2_with fail
      go_end0
      exact ⟨rfl, _, hM3, by rw [unhide Hfin]; exact hS3, (hF1'.trans hF2).trans hF3⟩
    · rw [if_neg ht] at hfin
      have hfin2 : sn ++ sdB view x y = sn ++ [120] := by rw [hfin]; simp
      have Hfin := hide hfin2
      have hvb : (view == 1) = false := by simpa using ht
      clear hfin hfin2 hz ht
      go_enter Try.func110, Try.ntmps110
      go_wp2_with fail
      refine (see_any hM0 hS0 (by omega) _).mono ?_
      rintro e w1 ⟨rfl, sv1, hM1, hS1, hF1⟩
      clear m0 m1 m2 m3 m4 m5 m6 m7 m8 mt mf
      obtain ⟨m0, m1, m2, m3, m4, m5, m6, m7, m8, mt, mf⟩ := hM1.nine
      have hM1' := hM1.setTrap
      have hS1' := hS1.set (a := ⟨b, 9, none⟩) (.bool true) (Nat.le_refl _)
      have hF1' := hF1.set (a := ⟨b, 9, none⟩) (.bool true) (Nat.le_of_lt hM0.2.2) (.inr (.inl rfl))
      go_wp2_with fail
      go_end0
      exact ⟨rfl, _, hM1', by rw [unhide Hfin]; exact hS1', hF1'⟩
  · rw [if_neg hz] at hfin ⊢
    have hyb : (y != 0) = true := by simpa using hz
    by_cases ht : view = 1
    · rw [if_pos ht] at hfin
      have hfin2 : sn ++ sdB view x y = sn ++ [118] ++ [hxd bx] ++ [hxd b2] := by rw [hfin]; simp
      have Hfin := hide hfin2
      have hvb : (view == 1) = true := by simpa using ht
      clear hfin hfin2 hz ht
      go_enter Try.func110, Try.ntmps110
      go_wp2_with fail
      refine (see_any hM0 hS0 (by omega) _).mono ?_
      rintro e w1 ⟨rfl, sv1, hM1, hS1, hF1⟩
      clear m0 m1 m2 m3 m4 m5 m6 m7 m8 mt mf
      obtain ⟨m0, m1, m2, m3, m4, m5, m6, m7, m8, mt, mf⟩ := hM1.nine
      go_wp2_with fail
      refine (mbits_any x (by omega) (by omega) _).mono ?_
      rintro e w' ⟨rfl, rfl⟩
      rw [unhide Hx]
      go_wp2_with fail
      refine (digit_any _ (by omega) (by omega) _).mono ?_
      rintro e w' ⟨rfl, rfl⟩
      go_wp2_with fail
      refine (see_any hM1 hS1 (by rw [List.length_append]; simp; omega) _).mono ?_
      rintro e w2 ⟨rfl, sv2, hM2, hS2, hF2⟩
      clear m0 m1 m2 m3 m4 m5 m6 m7 m8 mt mf
      obtain ⟨m0, m1, m2, m3, m4, m5, m6, m7, m8, mt, mf⟩ := hM2.nine
      go_wp2_with fail
      refine (mbits_any y (by omega) (by omega) _).mono ?_
      rintro e w' ⟨rfl, rfl⟩
      rw [unhide Hy]
      go_wp2_with fail
      refine (digit_any _ (by omega) (by omega) _).mono ?_
      rintro e w' ⟨rfl, rfl⟩
      go_wp2_with fail
      refine (see_any hM2 hS2 (by rw [List.length_append, List.length_append]; simp; omega) _).mono ?_
      rintro e w3 ⟨rfl, sv3, hM3, hS3, hF3⟩
      clear m0 m1 m2 m3 m4 m5 m6 m7 m8 mt mf
      obtain ⟨m0, m1, m2, m3, m4, m5, m6, m7, m8, mt, mf⟩ := hM3.nine
      go_wp2_with fail
      go_end0
      exact ⟨rfl, _, hM3, by rw [unhide Hfin]; exact hS3, (hF1.trans hF2).trans hF3⟩
    · rw [if_neg ht] at hfin
      have hfin2 : sn ++ sdB view x y = sn ++ [118] := by rw [hfin]; simp
      have Hfin := hide hfin2
      have hvb : (view == 1) = false := by simpa using ht
      clear hfin hfin2 hz ht
      go_enter Try.func110, Try.ntmps110
      go_wp2_with fail
      refine (see_any hM0 hS0 (by omega) _).mono ?_
      rintro e w1 ⟨rfl, sv1, hM1, hS1, hF1⟩
      clear m0 m1 m2 m3 m4 m5 m6 m7 m8 mt mf
      obtain ⟨m0, m1, m2, m3, m4, m5, m6, m7, m8, mt, mf⟩ := hM1.nine
      go_wp2_with fail
      go_end0
      exact ⟨rfl, _, hM1, by rw [unhide Hfin]; exact hS1, hF1⟩
end
end Go.Proofs.Ytnkbfdbbcaffmab
/-
  readHead.
-/
namespace Go.Proofs.Ytnkbfdbbcaffmab
open Go.RowKit

/-- 2 to the power k. -/
def pw : Nat → Int
  | 0 => 1
  | k + 1 => pw k * 2
theorem pw_bd (k : Nat) (h : k ≤ 8) : 1 ≤ pw k ∧ pw k ≤ 256 := by
  have : ∀ k, k < 9 → 1 ≤ pw k ∧ pw k ≤ 256 := by decide
  exact this k (by omega)
theorem pw_bd7 (k : Nat) (h : k < 8) : pw k ≤ 128 := by
  have : ∀ k, k < 8 → pw k ≤ 128 := by decide
  exact this k h

/-- What readHead makes of the place and the mark: place, mark, width, variables, words. -/
def hdr (s : ByteArray) : Nat × Bool × Nat × Nat × Nat :=
  let t := tb s 0 false 49 56
  let n := cnt s t.2.1 8 t.1
  let u := tk s (t.1 + n) (t.2.1 || n == 0) 47
  let m := cnt s u.2 16 u.1
  let v := tk s (u.1 + m) u.2 58
  (v.1, v.2, 1 + t.2.2.toNat, n, m)

/-- A place that only goes forward, inside the text, and stands still where the mark is set. -/
def Fwd (s : ByteArray) (p : Nat) (bad : Bool) (q : Nat) (bad' : Bool) : Prop := p ≤ q ∧ q ≤ s.size ∧ (bad = true → q = p ∧ bad' = true)

theorem Fwd.trans {s : ByteArray} {p q r : Nat} {a b c : Bool} (h : Fwd s p a q b) (k : Fwd s q b r c) : Fwd s p a r c :=
  ⟨Nat.le_trans h.1 k.1, k.2.1, fun e => by
    obtain ⟨h1, h2⟩ := h.2.2 e
    obtain ⟨h3, h4⟩ := k.2.2 h2
    exact ⟨h3.trans h1, h4⟩⟩
theorem Fwd.refl {s : ByteArray} {p : Nat} {a : Bool} (h : p ≤ s.size) : Fwd s p a p a := ⟨Nat.le_refl _, h, fun e => ⟨rfl, e⟩⟩

theorem tk_fwd (s : ByteArray) (p : Nat) (bad : Bool) (c : Int) (h : p ≤ s.size) : Fwd s p bad (tk s p bad c).1 (tk s p bad c).2 := by
  unfold tk
  cases bad with
  | true => simp [Fwd, h]
  | false =>
    simp only [Bool.false_eq_true, if_false]
    split
    · exact ⟨by simp, by simp; omega, by simp⟩
    · exact ⟨by simp, by simpa using h, by simp⟩

theorem tb_fwd (s : ByteArray) (p : Nat) (bad : Bool) (lo hi : Int) (h : p ≤ s.size) : Fwd s p bad (tb s p bad lo hi).1 (tb s p bad lo hi).2.1 := by
  unfold tb
  split
  · exact tk_fwd s p bad _ h
  · exact ⟨Nat.le_refl _, h, fun _ => ⟨rfl, rfl⟩⟩

theorem cnt_fwd (s : ByteArray) (bad : Bool) : ∀ f p, p ≤ s.size → p + cnt s bad f p ≤ s.size ∧ (bad = true → cnt s bad f p = 0)
  | 0, p, h => ⟨by simpa [cnt] using h, fun _ => rfl⟩
  | f + 1, p, h => by
    unfold cnt
    split
    · rename_i hk
      have hp := tk_pk s p bad (by omega)
      have := cnt_fwd s bad f (p + 1) hp.2.2
      exact ⟨by omega, fun e => by rw [hp.2.1] at e; cases e⟩
    · exact ⟨by omega, fun _ => rfl⟩
theorem hdr_le (s : ByteArray) : (hdr s).1 ≤ s.size := by
  unfold hdr
  dsimp only
  have h1 := tb_fwd s 0 false 49 56 (Nat.zero_le _)
  have h2 := cnt_fwd s (tb s 0 false 49 56).2.1 8 _ h1.2.1
  have h3 := tk_fwd s _ ((tb s 0 false 49 56).2.1 || cnt s (tb s 0 false 49 56).2.1 8 (tb s 0 false 49 56).1 == 0) 47 h2.1
  have h4 := cnt_fwd s (tk s ((tb s 0 false 49 56).1 + cnt s (tb s 0 false 49 56).2.1 8 (tb s 0 false 49 56).1) ((tb s 0 false 49 56).2.1 || cnt s (tb s 0 false 49 56).2.1 8 (tb s 0 false 49 56).1 == 0) 47).2 16 _ h3.2.1
  exact (tk_fwd s _ _ 58 h4.1).2.1

section
variable {w : World} {b : Nat} {s : ByteArray} {p : Nat} {bad : Bool} {ht : ByteArray} {hw hv hn hm : Int} {cv : Value}
theorem Rd.setW (h : Rd w b s p bad ht hw hv hn hm cv) (q : Int) : Rd (w.setCell ⟨b, 4, none⟩ (.int .i64 q)) b s p bad ht q hv hn hm cv := by
  have := At.set h 4 (.int .i64 q); simpa [Rd] using this
theorem Rd.setV (h : Rd w b s p bad ht hw hv hn hm cv) (q : Int) : Rd (w.setCell ⟨b, 5, none⟩ (.int .i64 q)) b s p bad ht hw q hn hm cv := by
  have := At.set h 5 (.int .i64 q); simpa [Rd] using this
theorem Rd.setN (h : Rd w b s p bad ht hw hv hn hm cv) (q : Int) : Rd (w.setCell ⟨b, 6, none⟩ (.int .i64 q)) b s p bad ht hw hv q hm cv := by
  have := At.set h 6 (.int .i64 q); simpa [Rd] using this
theorem Rd.setM (h : Rd w b s p bad ht hw hv hn hm cv) (q : Int) : Rd (w.setCell ⟨b, 7, none⟩ (.int .i64 q)) b s p bad ht hw hv hn q cv := by
  have := At.set h 7 (.int .i64 q); simpa [Rd] using this
theorem Rd.setT (h : Rd w b s p bad ht hw hv hn hm cv) (q : ByteArray) : Rd (w.setCell ⟨b, 3, none⟩ (.string q)) b s p bad q hw hv hn hm cv := by
  have := At.set h 3 (.string q); simpa [Rd] using this
theorem Rd.setC (h : Rd w b s p bad ht hw hv hn hm cv) (q : Value) : Rd (w.setCell ⟨b, 8, none⟩ q) b s p bad ht hw hv hn hm q := by
  have := At.set h 8 q; simpa [Rd] using this

theorem tb_wid (s : ByteArray) (p : Nat) (bad : Bool) : 0 ≤ (tb s p bad 49 56).2.2 ∧ (tb s p bad 49 56).2.2 ≤ 7 := by
  unfold tb
  split
  · dsimp only; omega
  · dsimp only; omega

theorem text_two (h : Rd w b s p bad ht hw hv hn hm cv) (q : ByteArray) : (w.setCell ⟨b, 3, none⟩ (.string q)).drew.cell? ⟨b, 0, none⟩ = some (.string s) ∧ (w.setCell ⟨b, 3, none⟩ (.string q)).drew.cell? ⟨b, 1, none⟩ = some (.int .i64 p) := by
  have hR := Rd.setT h q
  have z0 := hR.cell 0
  have z1 := hR.cell 1
  simp at z0 z1
  rw [World.cell?_drew, World.cell?_drew]
  exact ⟨z0, z1⟩

set_option maxHeartbeats 2000000 in
theorem readHead_any (hR : Rd w b s 0 false ht hw hv hn hm cv) (hs : s.size ≤ maxLen) :
    Calls Try.prog 34 #[.pointer (some ⟨b, 0, none⟩)] w fun e w' => e = .returned (.tuple #[]) ∧ Rd w' b s (hdr s).1 (hdr s).2.1 (s.extract 0 (hdr s).1) (hdr s).2.2.1 (pw (hdr s).2.2.1) (hdr s).2.2.2.1 (hdr s).2.2.2.2 cv ∧ w.grownBy w' (some b) := by
  have hle := hdr_le s
  unfold hdr at hle ⊢
  dsimp only at hle ⊢
  have hb := tb_wid s 0 false
  generalize hq : tb s 0 false 49 56 = t at *
  have Ht := hide hq
  clear hq
  obtain ⟨p1, b1, z⟩ := t
  dsimp only at *
  obtain ⟨hz1, hz2⟩ := hb
  obtain ⟨W, hW⟩ : ∃ W : Nat, W = 1 + z.toNat := ⟨_, rfl⟩
  have hzW : 1 + z = (W : Int) := by omega
  have hW8 : W ≤ 8 := by omega
  rw [← hW]
  have HzW := hide hzW
  clear hW hzW
  have hnle := cnt_le s b1 8 p1
  generalize hq : cnt s b1 8 p1 = n at *
  have Hn := hide hq
  clear hq
  generalize hq : tk s (p1 + n) (b1 || n == 0) 47 = u at *
  have Hu := hide hq
  clear hq
  obtain ⟨p3, b3⟩ := u
  dsimp only
  have hmle := cnt_le s b3 16 p3
  generalize hq : cnt s b3 16 p3 = m at *
  have Hm := hide hq
  clear hq
  generalize hq : tk s (p3 + m) b3 58 = v at *
  have Hv := hide hq
  clear hq
  go_enter Try.func34, Try.ntmps34
  go_wp2_with fail
  refine (takeBetween_any hR hs 49 56 (by omega) (by omega) (by omega) (by omega)).mono ?_
  rintro e w1 ⟨rfl, hR1, hg1⟩
  rw [unhide Ht] at hR1 ⊢
  dsimp only at *
  have f3 := fun j => hR1.frozen j
  have c3 := hR1.cell 4
  have c4 := hR1.cell 5
  simp at c3 c4
  go_wp2_with fail
  rw [unhide HzW]
  have hR1' := Rd.setV (Rd.setW hR1 W) 1
  have hg1' := gb_set (gb_set hg1 (a := ⟨b, 4, none⟩) (.int .i64 W) (.inl rfl)) (a := ⟨b, 5, none⟩) (.int .i64 1) (.inl rfl)
  clear c3 c4 f3
  generalize (w1.setCell ⟨b, 4, none⟩ (.int .i64 W)).setCell ⟨b, 5, none⟩ (.int .i64 1) = wA at *
  go_loopw [2] (fun i wr => ∃ k : Nat, i = .int .i64 k ∧ k ≤ W ∧ Rd wr b s p1 b1 ht W (pw k) hn hm cv ∧ w.grownBy wr (some b)) (fun i _ => W - (intOf i).toNat)
  case atStart => exact ⟨0, rfl, Nat.zero_le _, hR1', hg1'⟩
  case round =>
    obtain ⟨k, rfl, hk, hRk, hgk⟩ := hrel
    have c3 := hRk.cell 4
    have c4 := hRk.cell 5
    have f4 := fun j => hRk.frozen j
    simp at c3 c4
    by_cases hlt : k < W
    · have hp := pw_bd k (by omega)
      have hp7 := pw_bd7 k (by omega)
      have e : pw (k + 1) = pw k * 2 := rfl
      have He := hide e
      clear e
      generalize pw k = v at *
      go_wp2_with fail
      go_roundw
      case rel => exact ⟨k + 1, by go_num, by omega, by rw [unhide He]; exact Rd.setV hRk _, gb_set hgk _ (.inl rfl)⟩
      case measure => simp [intOf]; omega
    · obtain rfl : k = W := by omega
      go_wp2_with fail
      refine (takeLetters_any hRk hs 8 (by omega)).mono ?_
      rintro e w2 ⟨rfl, hR2, hg2⟩
      rw [unhide Hn] at hR2 ⊢
      have c5 := hR2.cell 6
      have c2 := hR2.cell 2
      have f2 := fun j => hR2.frozen j
      simp at c5 c2
      clear c3 c4 f4
      by_cases hn0 : n = 0
      · subst hn0
        go_wp2_with fail
        refine (take_any (Rd.setBad (Rd.setN hR2 0)) hs 47).mono ?_
        rintro e w3 ⟨rfl, hR3, hg3⟩
        rw [show tk s (p1 + 0) true 47 = (p3, b3) from by have := unhide Hu; simpa using this] at hR3
        dsimp only at hR3
        clear c5 c2 f2
        go_wp2_with fail
        refine (takeLetters_any hR3 hs 16 (by omega)).mono ?_
        rintro e w4 ⟨rfl, hR4, hg4⟩
        rw [unhide Hm] at hR4 ⊢
        have c6 := hR4.cell 7
        have f6 := hR4.frozen 7
        simp at c6
        go_wp2_with fail
        refine (take_any (Rd.setM hR4 m) hs 58).mono ?_
        rintro e w5 ⟨rfl, hR5, hg5⟩
        rw [unhide Hv] at hR5
        have z0 := hR5.cell 0
        have z1 := hR5.cell 1
        have z3 := hR5.cell 3
        have zf := fun j => hR5.frozen j
        simp at z0 z1 z3
        clear c6 f6
        have zle : (v.1 : Int) ≤ (s.size : Int) := by omega
        have zs0 := And.intro z0 z1
        have zs1 := text_two hR5 (s.extract 0 v.1)
        go_wp2_with fail
        go_region_held3 (fun w' => w'.cell? ⟨b, 0, none⟩ = some (.string s) ∧ w'.cell? ⟨b, 1, none⟩ = some (.int .i64 v.1)) (first | assumption | go_keep) (fail)
        go_wp2_with fail
        go_end0
        exact ⟨rfl, Rd.drewN (Rd.setT hR5 _) 1, gb_drewN (gb_set (gb_trans (gb_set (gb_trans (gb_trans (gb_set (gb_set (gb_trans hgk hg2) _ (.inl rfl)) _ (.inl rfl)) hg3) hg4) _ (.inl rfl)) hg5) _ (.inl rfl)) 1⟩
      · have hn1 : ((n : Int) == 0) = false := by simp; omega
        have hn2 : (n == 0) = false := by simp; omega
        have Hn2 := hide hn2
        clear hn2
        go_wp2_with fail
        refine (take_any (Rd.setN hR2 n) hs 47).mono ?_
        rintro e w3 ⟨rfl, hR3, hg3⟩
        rw [show tk s (p1 + n) b1 47 = (p3, b3) from by have := unhide Hu; rw [unhide Hn2, Bool.or_false] at this; exact this] at hR3
        dsimp only at hR3
        clear c5 c2 f2
        go_wp2_with fail
        refine (takeLetters_any hR3 hs 16 (by omega)).mono ?_
        rintro e w4 ⟨rfl, hR4, hg4⟩
        rw [unhide Hm] at hR4 ⊢
        have c6 := hR4.cell 7
        have f6 := hR4.frozen 7
        simp at c6
        go_wp2_with fail
        refine (take_any (Rd.setM hR4 m) hs 58).mono ?_
        rintro e w5 ⟨rfl, hR5, hg5⟩
        rw [unhide Hv] at hR5
        have z0 := hR5.cell 0
        have z1 := hR5.cell 1
        have z3 := hR5.cell 3
        have zf := fun j => hR5.frozen j
        simp at z0 z1 z3
        clear c6 f6
        have zle : (v.1 : Int) ≤ (s.size : Int) := by omega
        have zs0 := And.intro z0 z1
        have zs1 := text_two hR5 (s.extract 0 v.1)
        go_wp2_with fail
        go_region_held3 (fun w' => w'.cell? ⟨b, 0, none⟩ = some (.string s) ∧ w'.cell? ⟨b, 1, none⟩ = some (.int .i64 v.1)) (first | assumption | go_keep) (fail)
        go_wp2_with fail
        go_end0
        exact ⟨rfl, Rd.drewN (Rd.setT hR5 _) 1, gb_drewN (gb_set (gb_trans (gb_set (gb_trans (gb_trans (gb_set (gb_trans hgk hg2) _ (.inl rfl)) hg3) hg4) _ (.inl rfl)) hg5) _ (.inl rfl)) 1⟩
end
end Go.Proofs.Ytnkbfdbbcaffmab
