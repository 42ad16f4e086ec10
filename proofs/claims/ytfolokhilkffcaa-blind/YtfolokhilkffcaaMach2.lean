/-
  seeWord, seeDivision.
-/
import Derived.Test.YtfolokhilkffcaaMach
namespace Go.Proofs.Ytfolokhilkffcaa
open Go.RowKit

/-- What is seen of a word's number. -/
def shn (view x : Int) : Int := if 2 ≤ view then hlv (view - 2).toNat x else x
def swB (view m x : Int) : List Int := [109] ++ [hxd (shn view x / 16)] ++ [hxd (shn view x % 16)] ++ (if m ≤ x then [111] else [])
def sdB (view x y : Int) : List Int := (if y = 0 then [120] else [118]) ++ (if view = 1 then [hxd (btc 8 x)] ++ [hxd (btc 8 y)] else [])

section
variable {w : World} {b gs : Nat} {W V n m view : Int} {σ : List Int} {sv : Value} {sn : List Int} {steps : Int} {tr : Bool}

theorem shn_bd (view x : Int) (h0 : 0 ≤ x) (h1 : x ≤ 255) : 0 ≤ shn view x ∧ shn view x ≤ 255 := by
  unfold shn
  split
  · have := hlv_bd (view - 2).toNat x h0; omega
  · omega

set_option maxHeartbeats 2000000 in
theorem seeWord_any (hM0 : Mac w b gs W V n m view σ sv steps tr) (hS0 : Sn w b sv sn) (hl : sn.length ≤ 90000) (x : Int) (h0 : 0 ≤ x) (h1 : x ≤ 255) (_hv0 : 0 ≤ view) (_hv1 : view ≤ 8) :
    Calls Try.prog 57 #[.pointer (some ⟨b, 0, none⟩), .int .i64 x] w fun e w' => e = .returned (.tuple #[]) ∧ ∃ sv', Mac w' b gs W V n m view σ sv' steps (if m ≤ x then true else tr) ∧ Sn w' b sv' (sn ++ swB view m x) ∧ Fr gs b w w' := by
  obtain ⟨m0, m1, m2, m3, m4, m5, m6, m7, m8, mf⟩ := hM0.nine
  have hsb := shn_bd view x h0 h1
  have hfin : swB view m x = [109] ++ [hxd (shn view x / 16)] ++ [hxd (shn view x % 16)] ++ (if m ≤ x then [111] else []) := rfl
  by_cases hline : 2 ≤ view
  · obtain ⟨t, ht⟩ : ∃ t : Nat, view - 2 = (t : Int) := ⟨(view - 2).toNat, by omega⟩
    have hh : hlv t x = shn view x := by
      unfold shn; rw [if_pos hline, ht]; rfl
    have Ht := hide ht
    have Hh := hide hh
    have htl : t ≤ 6 := by omega
    clear ht hh
    generalize shn view x = z at *
    by_cases htrap : m ≤ x
    · rw [if_pos htrap] at hfin ⊢
      have hfin2 : sn ++ swB view m x = sn ++ [109] ++ [hxd (z / 16)] ++ [hxd (z % 16)] ++ [111] := by rw [hfin]; simp
      have Hfin := hide hfin2
      clear hfin hfin2
      go_enter Try.func57, Try.ntmps57
      go_wp2_with fail
      rw [unhide Ht]
      refine (halve_any x t h0 h1 (by omega) _).mono ?_
      rintro e w' ⟨rfl, rfl⟩
      rw [unhide Hh]
      go_wp2_with fail
      refine (see_any hM0 hS0 (by omega) 109).mono ?_
      rintro e w1 ⟨rfl, sv1, hM1, hS1, hF1⟩
      clear m0 m1 m2 m3 m4 m5 m6 m7 m8 mf
      obtain ⟨m0, m1, m2, m3, m4, m5, m6, m7, m8, mf⟩ := hM1.nine
      go_wp2_with fail
      refine (digit_any _ (by omega) (by omega) _).mono ?_
      rintro e w' ⟨rfl, rfl⟩
      go_wp2_with fail
      refine (see_any hM1 hS1 (by rw [List.length_append]; simp; omega) _).mono ?_
      rintro e w2 ⟨rfl, sv2, hM2, hS2, hF2⟩
      clear m0 m1 m2 m3 m4 m5 m6 m7 m8 mf
      obtain ⟨m0, m1, m2, m3, m4, m5, m6, m7, m8, mf⟩ := hM2.nine
      go_wp2_with fail
      refine (digit_any _ (by omega) (by omega) _).mono ?_
      rintro e w' ⟨rfl, rfl⟩
      go_wp2_with fail
      refine (see_any hM2 hS2 (by rw [List.length_append, List.length_append]; simp; omega) _).mono ?_
      rintro e w3 ⟨rfl, sv3, hM3, hS3, hF3⟩
      clear m0 m1 m2 m3 m4 m5 m6 m7 m8 mf
      obtain ⟨m0, m1, m2, m3, m4, m5, m6, m7, m8, mf⟩ := hM3.nine
      go_wp2_with fail
      refine (see_any hM3 hS3 (by rw [List.length_append, List.length_append, List.length_append]; simp; omega) 111).mono ?_
      rintro e w4 ⟨rfl, sv4, hM4, hS4, hF4⟩
      clear m0 m1 m2 m3 m4 m5 m6 m7 m8 mf
      obtain ⟨m0, m1, m2, m3, m4, m5, m6, m7, m8, mf⟩ := hM4.nine
      go_wp2_with fail
      go_end0
      exact ⟨rfl, _, hM4.setTrap, by rw [unhide Hfin]; exact hS4.set _ (Nat.le_refl _), ((hF1.trans hF2).trans (hF3.trans hF4)).set _ (Nat.le_of_lt hM0.2.2) (.inr (.inl rfl))⟩
    · rw [if_neg htrap] at hfin ⊢
      have hfin2 : sn ++ swB view m x = sn ++ [109] ++ [hxd (z / 16)] ++ [hxd (z % 16)] := by rw [hfin]; simp
      have Hfin := hide hfin2
      clear hfin hfin2
      go_enter Try.func57, Try.ntmps57
      go_wp2_with fail
      rw [unhide Ht]
      refine (halve_any x t h0 h1 (by omega) _).mono ?_
      rintro e w' ⟨rfl, rfl⟩
      rw [unhide Hh]
      go_wp2_with fail
      refine (see_any hM0 hS0 (by omega) 109).mono ?_
      rintro e w1 ⟨rfl, sv1, hM1, hS1, hF1⟩
      clear m0 m1 m2 m3 m4 m5 m6 m7 m8 mf
      obtain ⟨m0, m1, m2, m3, m4, m5, m6, m7, m8, mf⟩ := hM1.nine
      go_wp2_with fail
      refine (digit_any _ (by omega) (by omega) _).mono ?_
      rintro e w' ⟨rfl, rfl⟩
      go_wp2_with fail
      refine (see_any hM1 hS1 (by rw [List.length_append]; simp; omega) _).mono ?_
      rintro e w2 ⟨rfl, sv2, hM2, hS2, hF2⟩
      clear m0 m1 m2 m3 m4 m5 m6 m7 m8 mf
      obtain ⟨m0, m1, m2, m3, m4, m5, m6, m7, m8, mf⟩ := hM2.nine
      go_wp2_with fail
      refine (digit_any _ (by omega) (by omega) _).mono ?_
      rintro e w' ⟨rfl, rfl⟩
      go_wp2_with fail
      refine (see_any hM2 hS2 (by rw [List.length_append, List.length_append]; simp; omega) _).mono ?_
      rintro e w3 ⟨rfl, sv3, hM3, hS3, hF3⟩
      clear m0 m1 m2 m3 m4 m5 m6 m7 m8 mf
      obtain ⟨m0, m1, m2, m3, m4, m5, m6, m7, m8, mf⟩ := hM3.nine
      go_wp2_with fail
      go_end0
      exact ⟨rfl, _, hM3, by rw [unhide Hfin]; exact hS3, (hF1.trans hF2).trans hF3⟩
  · have hz : shn view x = x := by unfold shn; rw [if_neg hline]
    rw [hz] at hfin
    clear hsb hz
    by_cases htrap : m ≤ x
    · rw [if_pos htrap] at hfin ⊢
      have hfin2 : sn ++ swB view m x = sn ++ [109] ++ [hxd (x / 16)] ++ [hxd (x % 16)] ++ [111] := by rw [hfin]; simp
      have Hfin := hide hfin2
      clear hfin hfin2
      go_enter Try.func57, Try.ntmps57
      go_wp2_with fail
      refine (see_any hM0 hS0 (by omega) 109).mono ?_
      rintro e w1 ⟨rfl, sv1, hM1, hS1, hF1⟩
      clear m0 m1 m2 m3 m4 m5 m6 m7 m8 mf
      obtain ⟨m0, m1, m2, m3, m4, m5, m6, m7, m8, mf⟩ := hM1.nine
      go_wp2_with fail
      refine (digit_any _ (by omega) (by omega) _).mono ?_
      rintro e w' ⟨rfl, rfl⟩
      go_wp2_with fail
      refine (see_any hM1 hS1 (by rw [List.length_append]; simp; omega) _).mono ?_
      rintro e w2 ⟨rfl, sv2, hM2, hS2, hF2⟩
      clear m0 m1 m2 m3 m4 m5 m6 m7 m8 mf
      obtain ⟨m0, m1, m2, m3, m4, m5, m6, m7, m8, mf⟩ := hM2.nine
      go_wp2_with fail
      refine (digit_any _ (by omega) (by omega) _).mono ?_
      rintro e w' ⟨rfl, rfl⟩
      go_wp2_with fail
      refine (see_any hM2 hS2 (by rw [List.length_append, List.length_append]; simp; omega) _).mono ?_
      rintro e w3 ⟨rfl, sv3, hM3, hS3, hF3⟩
      clear m0 m1 m2 m3 m4 m5 m6 m7 m8 mf
      obtain ⟨m0, m1, m2, m3, m4, m5, m6, m7, m8, mf⟩ := hM3.nine
      go_wp2_with fail
      refine (see_any hM3 hS3 (by rw [List.length_append, List.length_append, List.length_append]; simp; omega) 111).mono ?_
      rintro e w4 ⟨rfl, sv4, hM4, hS4, hF4⟩
      clear m0 m1 m2 m3 m4 m5 m6 m7 m8 mf
      obtain ⟨m0, m1, m2, m3, m4, m5, m6, m7, m8, mf⟩ := hM4.nine
      go_wp2_with fail
      go_end0
      exact ⟨rfl, _, hM4.setTrap, by rw [unhide Hfin]; exact hS4.set _ (Nat.le_refl _), ((hF1.trans hF2).trans (hF3.trans hF4)).set _ (Nat.le_of_lt hM0.2.2) (.inr (.inl rfl))⟩
    · rw [if_neg htrap] at hfin ⊢
      have hfin2 : sn ++ swB view m x = sn ++ [109] ++ [hxd (x / 16)] ++ [hxd (x % 16)] := by rw [hfin]; simp
      have Hfin := hide hfin2
      clear hfin hfin2
      go_enter Try.func57, Try.ntmps57
      go_wp2_with fail
      refine (see_any hM0 hS0 (by omega) 109).mono ?_
      rintro e w1 ⟨rfl, sv1, hM1, hS1, hF1⟩
      clear m0 m1 m2 m3 m4 m5 m6 m7 m8 mf
      obtain ⟨m0, m1, m2, m3, m4, m5, m6, m7, m8, mf⟩ := hM1.nine
      go_wp2_with fail
      refine (digit_any _ (by omega) (by omega) _).mono ?_
      rintro e w' ⟨rfl, rfl⟩
      go_wp2_with fail
      refine (see_any hM1 hS1 (by rw [List.length_append]; simp; omega) _).mono ?_
      rintro e w2 ⟨rfl, sv2, hM2, hS2, hF2⟩
      clear m0 m1 m2 m3 m4 m5 m6 m7 m8 mf
      obtain ⟨m0, m1, m2, m3, m4, m5, m6, m7, m8, mf⟩ := hM2.nine
      go_wp2_with fail
      refine (digit_any _ (by omega) (by omega) _).mono ?_
      rintro e w' ⟨rfl, rfl⟩
      go_wp2_with fail
      refine (see_any hM2 hS2 (by rw [List.length_append, List.length_append]; simp; omega) _).mono ?_
      rintro e w3 ⟨rfl, sv3, hM3, hS3, hF3⟩
      clear m0 m1 m2 m3 m4 m5 m6 m7 m8 mf
      obtain ⟨m0, m1, m2, m3, m4, m5, m6, m7, m8, mf⟩ := hM3.nine
      go_wp2_with fail
      go_end0
      exact ⟨rfl, _, hM3, by rw [unhide Hfin]; exact hS3, (hF1.trans hF2).trans hF3⟩

set_option maxHeartbeats 2000000 in
theorem seeDivision_any (hM0 : Mac w b gs W V n m view σ sv steps tr) (hS0 : Sn w b sv sn) (hl : sn.length ≤ 90000) (x y : Int) (h0 : 0 ≤ x) (h1 : x ≤ 255) (h2 : 0 ≤ y) (h3 : y ≤ 255) :
    Calls Try.prog 55 #[.pointer (some ⟨b, 0, none⟩), .int .i64 x, .int .i64 y] w fun e w' => e = .returned (.tuple #[]) ∧ ∃ sv', Mac w' b gs W V n m view σ sv' steps (if y = 0 then true else tr) ∧ Sn w' b sv' (sn ++ sdB view x y) ∧ Fr gs b w w' := by
  obtain ⟨m0, m1, m2, m3, m4, m5, m6, m7, m8, mf⟩ := hM0.nine
  have hbx := btc_bd 8 x
  have hby := btc_bd 8 y
  have hfin : sdB view x y = (if y = 0 then [120] else [118]) ++ (if view = 1 then [hxd (btc 8 x)] ++ [hxd (btc 8 y)] else []) := rfl
  generalize hqx : btc 8 x = bx at *
  generalize hqy : btc 8 y = b2 at *
  have Hx := hide hqx
  have Hy := hide hqy
  clear hqx hqy
  by_cases hz : y = 0
  · rw [if_pos hz] at hfin ⊢
    have hyb : (y != 0) = false := by simpa using hz
    by_cases ht : view = 1
    · rw [if_pos ht] at hfin
      have hfin2 : sn ++ sdB view x y = sn ++ [120] ++ [hxd bx] ++ [hxd b2] := by rw [hfin]; simp
      have Hfin := hide hfin2
      have hvb : (view == 1) = true := by simpa using ht
      clear hfin hfin2 hz ht
      go_enter Try.func55, Try.ntmps55
      go_wp2_with fail
      refine (see_any hM0 hS0 (by omega) _).mono ?_
      rintro e w1 ⟨rfl, sv1, hM1, hS1, hF1⟩
      clear m0 m1 m2 m3 m4 m5 m6 m7 m8 mf
      obtain ⟨m0, m1, m2, m3, m4, m5, m6, m7, m8, mf⟩ := hM1.nine
      have hM1' := hM1.setTrap
      have hS1' := hS1.set (a := ⟨b, 8, none⟩) (.bool true) (Nat.le_refl _)
      have hF1' := hF1.set (a := ⟨b, 8, none⟩) (.bool true) (Nat.le_of_lt hM0.2.2) (.inr (.inl rfl))
      go_wp2_with fail
      refine (mbits_any x (by omega) (by omega) _).mono ?_
      rintro e w' ⟨rfl, rfl⟩
      rw [unhide Hx]
      go_wp2_with fail
      refine (digit_any _ (by omega) (by omega) _).mono ?_
      rintro e w' ⟨rfl, rfl⟩
      go_wp2_with fail
      refine (see_any hM1' hS1' (by rw [List.length_append]; simp; omega) _).mono ?_
      rintro e w2 ⟨rfl, sv2, hM2, hS2, hF2⟩
      clear m0 m1 m2 m3 m4 m5 m6 m7 m8 mf
      obtain ⟨m0, m1, m2, m3, m4, m5, m6, m7, m8, mf⟩ := hM2.nine
      go_wp2_with fail
      refine (mbits_any y (by omega) (by omega) _).mono ?_
      rintro e w' ⟨rfl, rfl⟩
      rw [unhide Hy]
      go_wp2_with fail
      refine (digit_any _ (by omega) (by omega) _).mono ?_
      rintro e w' ⟨rfl, rfl⟩
      go_wp2_with fail
      refine (see_any hM2 hS2 (by rw [List.length_append, List.length_append]; simp; omega) _).mono ?_
      rintro e w3 ⟨rfl, sv3, hM3, hS3, hF3⟩
      clear m0 m1 m2 m3 m4 m5 m6 m7 m8 mf
      obtain ⟨m0, m1, m2, m3, m4, m5, m6, m7, m8, mf⟩ := hM3.nine
      go_wp2_with fail
      go_end0
      exact ⟨rfl, _, hM3, by rw [unhide Hfin]; exact hS3, (hF1'.trans hF2).trans hF3⟩
    · rw [if_neg ht] at hfin
      have hfin2 : sn ++ sdB view x y = sn ++ [120] := by rw [hfin]; simp
      have Hfin := hide hfin2
      have hvb : (view == 1) = false := by simpa using ht
      clear hfin hfin2 hz ht
      go_enter Try.func55, Try.ntmps55
      go_wp2_with fail
      refine (see_any hM0 hS0 (by omega) _).mono ?_
      rintro e w1 ⟨rfl, sv1, hM1, hS1, hF1⟩
      clear m0 m1 m2 m3 m4 m5 m6 m7 m8 mf
      obtain ⟨m0, m1, m2, m3, m4, m5, m6, m7, m8, mf⟩ := hM1.nine
      have hM1' := hM1.setTrap
      have hS1' := hS1.set (a := ⟨b, 8, none⟩) (.bool true) (Nat.le_refl _)
      have hF1' := hF1.set (a := ⟨b, 8, none⟩) (.bool true) (Nat.le_of_lt hM0.2.2) (.inr (.inl rfl))
      go_wp2_with fail
      go_end0
      exact ⟨rfl, _, hM1', by rw [unhide Hfin]; exact hS1', hF1'⟩
  · rw [if_neg hz] at hfin ⊢
    have hyb : (y != 0) = true := by simpa using hz
    by_cases ht : view = 1
    · rw [if_pos ht] at hfin
      have hfin2 : sn ++ sdB view x y = sn ++ [118] ++ [hxd bx] ++ [hxd b2] := by rw [hfin]; simp
      have Hfin := hide hfin2
      have hvb : (view == 1) = true := by simpa using ht
      clear hfin hfin2 hz ht
      go_enter Try.func55, Try.ntmps55
      go_wp2_with fail
      refine (see_any hM0 hS0 (by omega) _).mono ?_
      rintro e w1 ⟨rfl, sv1, hM1, hS1, hF1⟩
      clear m0 m1 m2 m3 m4 m5 m6 m7 m8 mf
      obtain ⟨m0, m1, m2, m3, m4, m5, m6, m7, m8, mf⟩ := hM1.nine
      go_wp2_with fail
      refine (mbits_any x (by omega) (by omega) _).mono ?_
      rintro e w' ⟨rfl, rfl⟩
      rw [unhide Hx]
      go_wp2_with fail
      refine (digit_any _ (by omega) (by omega) _).mono ?_
      rintro e w' ⟨rfl, rfl⟩
      go_wp2_with fail
      refine (see_any hM1 hS1 (by rw [List.length_append]; simp; omega) _).mono ?_
      rintro e w2 ⟨rfl, sv2, hM2, hS2, hF2⟩
      clear m0 m1 m2 m3 m4 m5 m6 m7 m8 mf
      obtain ⟨m0, m1, m2, m3, m4, m5, m6, m7, m8, mf⟩ := hM2.nine
      go_wp2_with fail
      refine (mbits_any y (by omega) (by omega) _).mono ?_
      rintro e w' ⟨rfl, rfl⟩
      rw [unhide Hy]
      go_wp2_with fail
      refine (digit_any _ (by omega) (by omega) _).mono ?_
      rintro e w' ⟨rfl, rfl⟩
      go_wp2_with fail
      refine (see_any hM2 hS2 (by rw [List.length_append, List.length_append]; simp; omega) _).mono ?_
      rintro e w3 ⟨rfl, sv3, hM3, hS3, hF3⟩
      clear m0 m1 m2 m3 m4 m5 m6 m7 m8 mf
      obtain ⟨m0, m1, m2, m3, m4, m5, m6, m7, m8, mf⟩ := hM3.nine
      go_wp2_with fail
      go_end0
      exact ⟨rfl, _, hM3, by rw [unhide Hfin]; exact hS3, (hF1.trans hF2).trans hF3⟩
    · rw [if_neg ht] at hfin
      have hfin2 : sn ++ sdB view x y = sn ++ [118] := by rw [hfin]; simp
      have Hfin := hide hfin2
      have hvb : (view == 1) = false := by simpa using ht
      clear hfin hfin2 hz ht
      go_enter Try.func55, Try.ntmps55
      go_wp2_with fail
      refine (see_any hM0 hS0 (by omega) _).mono ?_
      rintro e w1 ⟨rfl, sv1, hM1, hS1, hF1⟩
      clear m0 m1 m2 m3 m4 m5 m6 m7 m8 mf
      obtain ⟨m0, m1, m2, m3, m4, m5, m6, m7, m8, mf⟩ := hM1.nine
      go_wp2_with fail
      go_end0
      exact ⟨rfl, _, hM1, by rw [unhide Hfin]; exact hS1, hF1⟩
end
end Go.Proofs.Ytfolokhilkffcaa
