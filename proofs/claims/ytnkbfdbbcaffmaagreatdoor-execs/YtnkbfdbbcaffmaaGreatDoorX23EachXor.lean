import Derived.Test.YtnkbfdbbcaffmaaGreatDoorX13Ari3
import Derived.Test.YtnkbfdbbcaffmaaGreatDoorX21Doc0
import Derived.Test.YtnkbfdbbcaffmaaGreatDoorX22EachAnd
/-
  Bit by bit, walked: 94.
-/
namespace Go.Proofs.YtnkbfdbbcaffmaaGreatDoor
open Go.RowKit

set_option maxHeartbeats 16000000 in
theorem each_94 (f : Int) (hf : f = 94) (a b : Nat) (ha : a ≤ 255) (hb : b ≤ 255) (w : World) :
    Calls Tryz.prog 172 #[.int .u8 f, .int .i64 a, .int .i64 b] w fun e w' => e = .returned (.int .i64 (eachN (bitG f) 8 a b)) ∧ w' = w := by
  generalize hr : eachN (bitG f) 8 a b = r
  have Hr := hide hr
  clear hr
  go_enter Tryz.func172, Tryz.ntmps172
  go_wp2_with fail
  go_loop [1, 2, 7, 8] (fun xs ys os ws => ∃ (k x y o v : Nat), xs = .int .i64 x ∧ ys = .int .i64 y ∧ os = .int .i64 o ∧ ws = .int .i64 v ∧ k ≤ 8 ∧ x ≤ 255 ∧ y ≤ 255 ∧ v ≤ 256 ∧ o < v ∧ Hid (v = 2 ^ k) ∧ Hid (x < 2 ^ (8 - k) ∧ y < 2 ^ (8 - k)) ∧ Hid (r = o + v * eachN (bitG f) (8 - k) x y)) (fun xs ys _ _ => (intOf xs).toNat + (intOf ys).toNat)
  case atStart => exact ⟨0, a, b, 0, 1, rfl, rfl, rfl, rfl, by omega, ha, hb, by omega, by omega, rfl, ⟨by simp; omega, by simp; omega⟩, by rw [← unhide Hr]; simp [Hid]⟩
  case round =>
    obtain ⟨k, x, y, o, v, rfl, rfl, rfl, rfl, hk, hx, hy, hv, hov, HV, HB, HK⟩ := hrel
    by_cases hpos : 0 < x ∨ 0 < y
    · have hk8 : k < 8 := by
        have h := unhide HB
        by_cases e : k = 8
        · rw [e] at h; simp at h; omega
        · omega
      have hv128 : v ≤ 128 := by
        have h := unhide HV
        have : (2 : Nat) ^ k ≤ 2 ^ 7 := Nat.pow_le_pow_right (by omega) (by omega)
        omega
      have hV2 : Hid (2 * v = 2 ^ (k + 1)) := by rw [unhide HV, Nat.pow_succ, Hid]; omega
      have hB2 : Hid (x / 2 < 2 ^ (8 - (k + 1)) ∧ y / 2 < 2 ^ (8 - (k + 1))) := by
        have h := unhide HB
        rw [show 8 - k = (8 - (k + 1)) + 1 from by omega, Nat.pow_succ] at h
        exact ⟨by omega, by omega⟩
      have hK2 : r = o + v * ((if bitG f (x % 2 + y % 2) = true then 1 else 0) + 2 * eachN (bitG f) (8 - (k + 1)) (x / 2) (y / 2)) := by
        have h := unhide HK
        rw [show 8 - k = (8 - (k + 1)) + 1 from by omega, eachN] at h
        exact h
      have HK2 := hide hK2
      clear hK2
      generalize hE : eachN (bitG f) (8 - (k + 1)) (x / 2) (y / 2) = E at *
      have HE := hide hE
      clear hE
      have hfin0 : Hid (bitG f (x % 2 + y % 2) = false → r = o + 2 * v * E) := by
        intro h
        rw [unhide HK2, h]
        simp [Nat.mul_comm, Nat.mul_left_comm]
      have hfin1 : Hid (bitG f (x % 2 + y % 2) = true → r = o + v + 2 * v * E) := by
        intro h
        rw [unhide HK2, h, if_pos rfl, Nat.mul_add, Nat.mul_one, ← Nat.mul_assoc, Nat.mul_comm v 2, Nat.add_assoc]
      have hx2 : (x : Int) % 2 = 0 ∨ (x : Int) % 2 = 1 := by omega
      have hy2 : (y : Int) % 2 = 0 ∨ (y : Int) % 2 = 1 := by omega
      have hg : 0 < x ∨ (x ≤ 0 ∧ 0 < y) := by omega
      have hpos' := hide hpos
      clear hpos
      subst hf
      all_goals
        rcases hx2 with hx2 | hx2
        all_goals
          rcases hy2 with hy2 | hy2
          all_goals
            have hxm : x % 2 = ((x : Int) % 2).toNat := by omega
            have hym : y % 2 = ((y : Int) % 2).toNat := by omega
            rw [hx2] at hxm
            rw [hy2] at hym
            have h0 := unhide hfin0
            have h1 := unhide hfin1
            rw [hxm, hym] at h0 h1
            have H0 := hide h0
            have H1 := hide h1
            clear h0 h1 hxm hym
            rcases hg with hg | ⟨hg1, hg2⟩
            all_goals
              go_wp2_with fail
              go_round
              case rel => first | exact ⟨k + 1, x / 2, y / 2, o + v, 2 * v, by go_num, by go_num, by go_num, by go_num, by omega, by omega, by omega, by omega, by omega, hV2, hB2, by rw [unhide HE]; exact unhide H1 rfl⟩ | exact ⟨k + 1, x / 2, y / 2, o, 2 * v, by go_num, by go_num, by go_num, by go_num, by omega, by omega, by omega, by omega, by omega, hV2, hB2, by rw [unhide HE]; exact unhide H0 rfl⟩
              case measure => have := unhide hpos'; simp [intOf]; omega
    · have hx0 : x = 0 := by omega
      have hy0 : y = 0 := by omega
      subst hx0 hy0
      have hs : (o : Int) = (r : Int) := by
        have h := unhide HK
        rw [each_nil _ (bitG_nil f)] at h
        rw [h]; simp
      have Hs := hide hs
      clear hs
      go_wp2_with fail
      go_ret
      exact ⟨ret_int (unhide Hs), rfl⟩
end Go.Proofs.YtnkbfdbbcaffmaaGreatDoor
/-
  touch. calc.
-/
namespace Go.Proofs.YtnkbfdbbcaffmaaGreatDoor
open Go.RowKit

section
variable {w w' : World} {b : Nat} {N : Int} {n m : Nat} {st : Int} {ks : KX} {view : Int} {tag steps : Int} {todo : ByteArray} {σ sn : List Int}

theorem PlS.thirteen (h : PlS w b N n m st ks view σ sn tag steps todo) :
    w.cell? ⟨b, 0, none⟩ = some (.int .i64 N) ∧ w.cell? ⟨b, 1, none⟩ = some (.int .i64 n) ∧ w.cell? ⟨b, 2, none⟩ = some (.int .i64 m) ∧ w.cell? ⟨b, 3, none⟩ = some (.int .i64 st) ∧ w.cell? ⟨b, 5, none⟩ = some (.int .i64 view) ∧ w.cell? ⟨b, 8, none⟩ = some (.int .i64 tag) ∧ w.cell? ⟨b, 9, none⟩ = some (.int .i64 steps) ∧ w.cell? ⟨b, 10, none⟩ = some (.string todo) ∧ (∀ j, w.frozen? ⟨b, j, none⟩ = false) ∧ True ∧ True := by
  obtain ⟨stv, snv, hP, hT, hS, hX⟩ := h
  obtain ⟨m0, m1, m2, m3, m4, m5, m6, m7, m8, m9, mf⟩ := hP.thirteen
  exact ⟨m0, m1, m2, m3, m4, m7, m8, m9, mf, trivial, trivial⟩
theorem PlS.setTag (h : PlS w b N n m st ks view σ sn tag steps todo) (v : Int) : PlS (w.setCell ⟨b, 8, none⟩ (.int .i64 v)) b N n m st ks view σ sn v steps todo := by
  obtain ⟨stv, snv, hP, hT, hS, hX⟩ := h
  exact ⟨stv, snv, hP.setTag v, hT.set _ (Nat.le_refl _), hS.set _ (Nat.le_refl _), hX.set _ (Nat.le_refl _)⟩
theorem PlS.setSteps (h : PlS w b N n m st ks view σ sn tag steps todo) (v : Int) : PlS (w.setCell ⟨b, 9, none⟩ (.int .i64 v)) b N n m st ks view σ sn tag v todo := by
  obtain ⟨stv, snv, hP, hT, hS, hX⟩ := h
  exact ⟨stv, snv, hP.setSteps v, hT.set _ (Nat.le_refl _), hS.set _ (Nat.le_refl _), hX.set _ (Nat.le_refl _)⟩
theorem PlS.setTodo (h : PlS w b N n m st ks view σ sn tag steps todo) (v : ByteArray) : PlS (w.setCell ⟨b, 10, none⟩ (.string v)) b N n m st ks view σ sn tag steps v := by
  obtain ⟨stv, snv, hP, hT, hS, hX⟩ := h
  exact ⟨stv, snv, hP.setTodo v, hT.set _ (Nat.le_refl _), hS.set _ (Nat.le_refl _), hX.set _ (Nat.le_refl _)⟩

theorem hex_at : ∀ (k : Nat) (h : k < 16), (((({ data := #[48, 49, 50, 51, 52, 53, 54, 55, 56, 57, 97, 98, 99, 100, 101, 102] } : ByteArray)[k]'h).toNat : Nat) : Int) = hxd k := by decide
theorem hex_hi (z : Int) (h0 : 0 ≤ z) (h1 : z ≤ 255) {h : (z / 16 % 16).toNat < 16} : (((({ data := #[48, 49, 50, 51, 52, 53, 54, 55, 56, 57, 97, 98, 99, 100, 101, 102] } : ByteArray)[(z / 16 % 16).toNat]'h).toNat : Nat) : Int) = hxd (z / 16) := by
  rw [hex_at]; congr 1; omega
theorem hex_lo (z : Int) {h : (z % 16).toNat < 16} : (((({ data := #[48, 49, 50, 51, 52, 53, 54, 55, 56, 57, 97, 98, 99, 100, 101, 102] } : ByteArray)[(z % 16).toNat]'h).toNat : Nat) : Int) = hxd (z % 16) := by
  rw [hex_at]; congr 1; omega

set_option maxHeartbeats 2000000 in
theorem touch_any (hP0 : PlS w b N n m st ks view σ sn tag steps todo) (hl : sn.length ≤ 90000) (x : Int) (h0 : 0 ≤ x) (h1 : x ≤ 255) (_hv0 : 0 ≤ view) (_hv1 : view ≤ 8) (hn : n ≤ 100) :
    Calls Tryz.prog 113 #[.pointer (some ⟨b, 0, none⟩), .int .i64 x] w fun e w' => e = .returned (.int .i64 (if (m : Int) ≤ x then -1 else n + x)) ∧ PlS w' b N n m st ks view σ (sn ++ swB view m x) (if (m : Int) ≤ x then 2 else tag) steps todo ∧ Below b w w' := by
  obtain ⟨m0, m1, m2, m3, m4, m5, m6, m7, m8, m9, mf⟩ := hP0.thirteen
  have hsb := shn_bd view x h0 h1
  have hfin : swB view m x = [109] ++ [hxd (shn view x / 16)] ++ [hxd (shn view x % 16)] ++ (if (m : Int) ≤ x then [111] else []) := rfl
  by_cases hline : 2 ≤ view
  · obtain ⟨t, ht⟩ : ∃ t : Nat, view - 2 = (t : Int) := ⟨(view - 2).toNat, by omega⟩
    have hh : hlv t x = shn view x := by
      unfold shn; rw [if_pos hline, ht]; rfl
    have Ht := hide ht
    have Hh := hide hh
    have htl : t ≤ 6 := by omega
    clear ht hh
    generalize shn view x = z at *
    by_cases htrap : (m : Int) ≤ x
    · rw [if_pos htrap] at hfin ⊢
      rw [if_pos htrap]
      have hfin2 : sn ++ swB view m x = sn ++ [109] ++ [hxd (z / 16)] ++ [hxd (z % 16)] ++ [111] := by rw [hfin]; simp
      have Hfin := hide hfin2
      clear hfin hfin2
      go_enter Tryz.func113, Tryz.ntmps113
      go_wp2_with fail
      rw [unhide Ht]
      refine (half_any x t h0 h1 (by omega) _).mono ?_
      rintro e w' ⟨rfl, rfl⟩
      rw [unhide Hh]
      go_wp2_with fail
      refine (told_any hP0 (by omega) 109).mono ?_
      rintro e w1 ⟨rfl, hP1, hB1⟩
      clear m0 m1 m2 m3 m4 m5 m6 m7 m8 m9 mf
      obtain ⟨m0, m1, m2, m3, m4, m5, m6, m7, m8, m9, mf⟩ := hP1.thirteen
      go_wp2_with fail
      rw [hex_hi z (by omega) (by omega)]
      refine (told_any hP1 (by rw [List.length_append]; simp; omega) _).mono ?_
      rintro e w2 ⟨rfl, hP2, hB2⟩
      clear m0 m1 m2 m3 m4 m5 m6 m7 m8 m9 mf
      obtain ⟨m0, m1, m2, m3, m4, m5, m6, m7, m8, m9, mf⟩ := hP2.thirteen
      go_wp2_with fail
      rw [hex_lo z]
      refine (told_any hP2 (by rw [List.length_append, List.length_append]; simp; omega) _).mono ?_
      rintro e w3 ⟨rfl, hP3, hB3⟩
      clear m0 m1 m2 m3 m4 m5 m6 m7 m8 m9 mf
      obtain ⟨m0, m1, m2, m3, m4, m5, m6, m7, m8, m9, mf⟩ := hP3.thirteen
      go_wp2_with fail
      refine (told_any hP3 (by rw [List.length_append, List.length_append, List.length_append]; simp; omega) 111).mono ?_
      rintro e w4 ⟨rfl, hP4, hB4⟩
      clear m0 m1 m2 m3 m4 m5 m6 m7 m8 m9 mf
      obtain ⟨m0, m1, m2, m3, m4, m5, m6, m7, m8, m9, mf⟩ := hP4.thirteen
      go_wp2_with fail
      go_ret
      exact ⟨rfl, by rw [unhide Hfin]; exact hP4.setTag 2, (((hB1.trans hB2).trans (hB3.trans hB4))).setCell (Nat.le_refl _) _⟩
    · rw [if_neg htrap] at hfin ⊢
      rw [if_neg htrap]
      have hfin2 : sn ++ swB view m x = sn ++ [109] ++ [hxd (z / 16)] ++ [hxd (z % 16)] := by rw [hfin]; simp
      have Hfin := hide hfin2
      clear hfin hfin2
      go_enter Tryz.func113, Tryz.ntmps113
      go_wp2_with fail
      rw [unhide Ht]
      refine (half_any x t h0 h1 (by omega) _).mono ?_
      rintro e w' ⟨rfl, rfl⟩
      rw [unhide Hh]
      go_wp2_with fail
      refine (told_any hP0 (by omega) 109).mono ?_
      rintro e w1 ⟨rfl, hP1, hB1⟩
      clear m0 m1 m2 m3 m4 m5 m6 m7 m8 m9 mf
      obtain ⟨m0, m1, m2, m3, m4, m5, m6, m7, m8, m9, mf⟩ := hP1.thirteen
      go_wp2_with fail
      rw [hex_hi z (by omega) (by omega)]
      refine (told_any hP1 (by rw [List.length_append]; simp; omega) _).mono ?_
      rintro e w2 ⟨rfl, hP2, hB2⟩
      clear m0 m1 m2 m3 m4 m5 m6 m7 m8 m9 mf
      obtain ⟨m0, m1, m2, m3, m4, m5, m6, m7, m8, m9, mf⟩ := hP2.thirteen
      go_wp2_with fail
      rw [hex_lo z]
      refine (told_any hP2 (by rw [List.length_append, List.length_append]; simp; omega) _).mono ?_
      rintro e w3 ⟨rfl, hP3, hB3⟩
      clear m0 m1 m2 m3 m4 m5 m6 m7 m8 m9 mf
      obtain ⟨m0, m1, m2, m3, m4, m5, m6, m7, m8, m9, mf⟩ := hP3.thirteen
      go_wp2_with fail
      go_ret
      exact ⟨rfl, by rw [unhide Hfin]; exact hP3, (hB1.trans hB2).trans hB3⟩
  · have hz : shn view x = x := by unfold shn; rw [if_neg hline]
    rw [hz] at hfin
    clear hsb hz
    by_cases htrap : (m : Int) ≤ x
    · rw [if_pos htrap] at hfin ⊢
      rw [if_pos htrap]
      have hfin2 : sn ++ swB view m x = sn ++ [109] ++ [hxd (x / 16)] ++ [hxd (x % 16)] ++ [111] := by rw [hfin]; simp
      have Hfin := hide hfin2
      clear hfin hfin2
      go_enter Tryz.func113, Tryz.ntmps113
      go_wp2_with fail
      refine (told_any hP0 (by omega) 109).mono ?_
      rintro e w1 ⟨rfl, hP1, hB1⟩
      clear m0 m1 m2 m3 m4 m5 m6 m7 m8 m9 mf
      obtain ⟨m0, m1, m2, m3, m4, m5, m6, m7, m8, m9, mf⟩ := hP1.thirteen
      go_wp2_with fail
      rw [hex_hi x (by omega) (by omega)]
      refine (told_any hP1 (by rw [List.length_append]; simp; omega) _).mono ?_
      rintro e w2 ⟨rfl, hP2, hB2⟩
      clear m0 m1 m2 m3 m4 m5 m6 m7 m8 m9 mf
      obtain ⟨m0, m1, m2, m3, m4, m5, m6, m7, m8, m9, mf⟩ := hP2.thirteen
      go_wp2_with fail
      rw [hex_lo x]
      refine (told_any hP2 (by rw [List.length_append, List.length_append]; simp; omega) _).mono ?_
      rintro e w3 ⟨rfl, hP3, hB3⟩
      clear m0 m1 m2 m3 m4 m5 m6 m7 m8 m9 mf
      obtain ⟨m0, m1, m2, m3, m4, m5, m6, m7, m8, m9, mf⟩ := hP3.thirteen
      go_wp2_with fail
      refine (told_any hP3 (by rw [List.length_append, List.length_append, List.length_append]; simp; omega) 111).mono ?_
      rintro e w4 ⟨rfl, hP4, hB4⟩
      clear m0 m1 m2 m3 m4 m5 m6 m7 m8 m9 mf
      obtain ⟨m0, m1, m2, m3, m4, m5, m6, m7, m8, m9, mf⟩ := hP4.thirteen
      go_wp2_with fail
      go_ret
      exact ⟨rfl, by rw [unhide Hfin]; exact hP4.setTag 2, (((hB1.trans hB2).trans (hB3.trans hB4))).setCell (Nat.le_refl _) _⟩
    · rw [if_neg htrap] at hfin ⊢
      rw [if_neg htrap]
      have hfin2 : sn ++ swB view m x = sn ++ [109] ++ [hxd (x / 16)] ++ [hxd (x % 16)] := by rw [hfin]; simp
      have Hfin := hide hfin2
      clear hfin hfin2
      go_enter Tryz.func113, Tryz.ntmps113
      go_wp2_with fail
      refine (told_any hP0 (by omega) 109).mono ?_
      rintro e w1 ⟨rfl, hP1, hB1⟩
      clear m0 m1 m2 m3 m4 m5 m6 m7 m8 m9 mf
      obtain ⟨m0, m1, m2, m3, m4, m5, m6, m7, m8, m9, mf⟩ := hP1.thirteen
      go_wp2_with fail
      rw [hex_hi x (by omega) (by omega)]
      refine (told_any hP1 (by rw [List.length_append]; simp; omega) _).mono ?_
      rintro e w2 ⟨rfl, hP2, hB2⟩
      clear m0 m1 m2 m3 m4 m5 m6 m7 m8 m9 mf
      obtain ⟨m0, m1, m2, m3, m4, m5, m6, m7, m8, m9, mf⟩ := hP2.thirteen
      go_wp2_with fail
      rw [hex_lo x]
      refine (told_any hP2 (by rw [List.length_append, List.length_append]; simp; omega) _).mono ?_
      rintro e w3 ⟨rfl, hP3, hB3⟩
      clear m0 m1 m2 m3 m4 m5 m6 m7 m8 m9 mf
      obtain ⟨m0, m1, m2, m3, m4, m5, m6, m7, m8, m9, mf⟩ := hP3.thirteen
      go_wp2_with fail
      go_ret
      exact ⟨rfl, by rw [unhide Hfin]; exact hP3, (hB1.trans hB2).trans hB3⟩
end

set_option maxHeartbeats 1000000 in
theorem calc_up (V : Int) (x : Int) (t : Nat) (h0 : 0 ≤ x) (h1 : x < V) (hV : 1 ≤ V) (hV2 : V ≤ 256) (ht : t ≤ 255) (w : World) :
    Calls Tryz.prog 144 #[.int .u8 85, .int .i64 x, .int .i64 t, .int .i64 V] w fun e w' => e = .returned (.int .i64 (upI V t x)) ∧ w' = w := by
  generalize hr : upI V t x = r
  have Hr := hide hr
  clear hr
  go_enter Tryz.func144, Tryz.ntmps144
  go_wp2_with fail
  go_loop [1, 9] (fun xs i => ∃ (k : Nat) (y : Int), i = .int .i64 k ∧ xs = .int .i64 y ∧ k ≤ t ∧ 0 ≤ y ∧ y < V ∧ Hid (upI V (t - k) y = r)) (fun _ i => t - (intOf i).toNat)
  case atStart => exact ⟨0, x, rfl, rfl, by omega, h0, h1, Hr⟩
  case round =>
    obtain ⟨k, y, rfl, rfl, hk, hy0, hy1, HK⟩ := hrel
    by_cases hlt : k < t
    · have hs : upI V (t - (k + 1)) (2 * y % V) = r := by
        have := unhide HK
        rw [show t - k = (t - (k + 1)) + 1 from by omega, upI, Int.mul_comm] at this
        exact this
      have Hs := hide hs
      clear hs
      have hb1 := Int.emod_nonneg (2 * y) (b := V) (by omega)
      have hb2 := Int.emod_lt_of_pos (2 * y) (b := V) (by omega)
      go_wp2_with fail
      go_round
      case rel => exact ⟨k + 1, 2 * y % V, by go_num, rfl, by omega, hb1, hb2, Hs⟩
      case measure => simp [intOf]; omega
    · have hd : decide ((k : Int) < (t : Int)) = false := by simp; omega
      have hs : y = r := by
        have := unhide HK
        rw [show t - k = 0 from by omega] at this
        exact this
      have Hs := hide hs
      clear hs
      go_wp2_with fail
      go_ret
      exact ⟨ret_int (unhide Hs), rfl⟩

set_option maxHeartbeats 4000000 in
theorem calc_any (W : Nat) (f : Int) (a c : Nat) (h1 : (a : Int) < pw W) (h3 : (c : Int) < pw W) (hW : W ≤ 8) (hd : isDiv f = true → c ≠ 0) (ho : isOp f = true) (w : World) :
    Calls Tryz.prog 144 #[.int .u8 f, .int .i64 a, .int .i64 c, .int .i64 (pw W)] w fun e w' => e = .returned (.int .i64 (opr (pw W) f a c)) ∧ w' = w := by
  have hb := pw_bd W hW
  generalize hr : opr (pw W) f a c = r
  have Hr := hide hr
  clear hr
  generalize hV : pw W = V at *
  have HV := hide hV
  clear hV
  have ha : a < 256 := by omega
  have hc : c < 256 := by omega
  simp [isOp] at ho
  rcases ho with ((((((((((rfl | rfl) | rfl) | rfl) | rfl) | rfl) | rfl) | rfl) | rfl) | rfl) | rfl)
  · go_enter Tryz.func144, Tryz.ntmps144
    go_wp2_with fail
    go_ret
    exact ⟨ret_int (by rw [← unhide Hr]; simp [opr]), rfl⟩
  · go_enter Tryz.func144, Tryz.ntmps144
    go_wp2_with fail
    go_ret
    exact ⟨ret_int (by rw [← unhide Hr]; unfold opr; rw [if_neg (by decide), if_pos rfl]; congr 1; omega), rfl⟩
  · go_enter Tryz.func144, Tryz.ntmps144
    go_wp2_with fail
    refine (each_38 38 rfl a c (by omega) (by omega) _).mono ?_
    rintro e w' ⟨rfl, rfl⟩
    go_wp2_with fail
    go_ret
    exact ⟨ret_int (by rw [← unhide Hr]; have := each_and 8 a c (by omega) (by omega); simp [opr, bitG, this]), rfl⟩
  · go_enter Tryz.func144, Tryz.ntmps144
    go_wp2_with fail
    refine (each_124 124 rfl a c (by omega) (by omega) _).mono ?_
    rintro e w' ⟨rfl, rfl⟩
    go_wp2_with fail
    go_ret
    exact ⟨ret_int (by rw [← unhide Hr]; have := each_or 8 a c (by omega) (by omega); simp [opr, bitG, this]), rfl⟩
  · go_enter Tryz.func144, Tryz.ntmps144
    go_wp2_with fail
    refine (each_94 94 rfl a c (by omega) (by omega) _).mono ?_
    rintro e w' ⟨rfl, rfl⟩
    go_wp2_with fail
    go_ret
    exact ⟨ret_int (by rw [← unhide Hr]; have := each_xor 8 a c (by omega) (by omega); simp [opr, bitG, this]), rfl⟩
  · by_cases hlt : (a : Int) < (c : Int)
    · go_enter Tryz.func144, Tryz.ntmps144
      go_wp2_with fail
      go_ret
      exact ⟨ret_int (by rw [← unhide Hr]; simp [opr]; omega), rfl⟩
    · have hl2 : decide ((a : Int) < (c : Int)) = false := by simpa using hlt
      go_enter Tryz.func144, Tryz.ntmps144
      go_wp2_with fail
      go_ret
      exact ⟨ret_int (by rw [← unhide Hr]; simp [opr]; omega), rfl⟩
  · by_cases hlt : (a : Int) = (c : Int)
    · have hl2 : ((a : Int) == (c : Int)) = true := by simpa using hlt
      have hl3 := hide hlt
      clear hlt
      go_enter Tryz.func144, Tryz.ntmps144
      go_wp2_with fail
      go_ret
      exact ⟨ret_int (by rw [← unhide Hr]; have hl := unhide hl3; simp [opr]; omega), rfl⟩
    · have hl2 : ((a : Int) == (c : Int)) = false := by simpa using hlt
      have hl3 := hide hlt
      clear hlt
      go_enter Tryz.func144, Tryz.ntmps144
      go_wp2_with fail
      go_ret
      exact ⟨ret_int (by rw [← unhide Hr]; have hl := unhide hl3; simp [opr]; omega), rfl⟩
  · refine (calc_up V a c (by omega) h1 (by omega) (by omega) (by omega) w).mono ?_
    rintro e w' ⟨rfl, rfl⟩
    exact ⟨ret_int (by rw [← unhide Hr]; simp [opr]), rfl⟩
  · go_enter Tryz.func144, Tryz.ntmps144
    go_wp2_with fail
    refine (half_any a c (by omega) (by omega) (by omega) _).mono ?_
    rintro e w' ⟨rfl, rfl⟩
    go_wp2_with fail
    go_ret
    exact ⟨ret_int (by rw [← unhide Hr]; simp [opr]), rfl⟩
  · have hc1 : 1 ≤ c := by have := hd rfl; omega
    go_enter Tryz.func144, Tryz.ntmps144
    go_wp2_with fail
    refine (times_any a c (by omega) (by omega) (by omega) (by omega) _).mono ?_
    rintro e w' ⟨rfl, rfl⟩
    go_wp2_with fail
    go_ret
    exact ⟨ret_int (by rw [← unhide Hr]; simp [opr]), rfl⟩
  · have hc1 : 1 ≤ c := by have := hd rfl; omega
    go_enter Tryz.func144, Tryz.ntmps144
    go_wp2_with fail
    refine (times_any a c (by omega) (by omega) (by omega) (by omega) _).mono ?_
    rintro e w' ⟨rfl, rfl⟩
    go_wp2_with fail
    go_ret
    exact ⟨ret_int (by rw [← unhide Hr]; simp [opr]), rfl⟩
end Go.Proofs.YtnkbfdbbcaffmaaGreatDoor
