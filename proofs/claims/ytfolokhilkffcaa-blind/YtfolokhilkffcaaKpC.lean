/-
  The maker: piece.
-/
import Derived.Test.YtfolokhilkffcaaKpB
namespace Go.Proofs.Ytfolokhilkffcaa
open Go.RowKit

section
variable {w w' : World} {b : Nat} {ao : Option Addr} {cin : Nat} {zs : List Int} {at_ : Nat} {text : ByteArray} {vars : Nat}

/-- What piece leaves. -/
def Pce (w : World) (b : Nat) (ao : Option Addr) (cin : Nat) (zs : List Int) (text : ByteArray) (vars : Nat) (eb : UInt8) (e : Ending) (w' : World) : Prop :=
  e = .returned (.tuple #[]) ∧ ∃ (c : UInt8) (t' : ByteArray) (at' : Nat), stn eb.toNat c.toNat vars = true ∧ t'.data.toList = text.data.toList ++ [c] ∧ Mkr w' b ao cin zs at' t' vars ∧ w.grownBy w' (some b)

theorem ofNat_toNat (k : Nat) (h : k < 256) : (((UInt8.ofNat k).toNat : Nat) : Int) = k := by
  rw [UInt8.toNat_ofNat_of_lt' h]

theorem ops_at : ∀ (k : Nat) (h : k < 11), isOp (((({ data := #[43, 45, 38, 124, 94, 60, 61, 85, 68, 47, 37] } : ByteArray)[k]'h).toNat : Nat) : Int) = true := by decide

set_option maxHeartbeats 2000000 in
theorem piece_o (h : Mkr w b ao cin zs at_ text vars) (hts : text.size ≤ 1000000) :
    Calls Try.prog 29 #[.pointer (some ⟨b, 0, none⟩), .int .u8 111] w (Pce w b ao cin zs text vars 111) := by
  have hp := hide (mpick_any h 11 (by omega) (by omega))
  clear h
  go_enter Try.func29, Try.ntmps29
  go_wp2_with fail
  refine (unhide hp).mono ?_
  rintro e w1 ⟨k, at2, rfl, hk, ht, hM1, hg1⟩
  have hk2 : k < 11 := by omega
  have hk3 : (k : Int) < 11 := by omega
  go_wp2_with fail
  refine (put_any hM1 hts _).mono ?_
  rintro e w2 ⟨t2, ht2, rfl, hM2, hg2⟩
  go_wp2_with fail
  go_end0
  exact ⟨rfl, _, t2, at2, ops_at k hk2, ht2, hM2, gb_trans hg1 hg2⟩

set_option maxHeartbeats 2000000 in
theorem piece_v (h : Mkr w b ao cin zs at_ text vars) (hts : text.size ≤ 1000000) (hv1 : 1 ≤ vars) (hv8 : vars ≤ 8) :
    Calls Try.prog 29 #[.pointer (some ⟨b, 0, none⟩), .int .u8 118] w (Pce w b ao cin zs text vars 118) := by
  obtain ⟨m0, m1, m2, m3, m4, mf⟩ := h.five
  have hp := hide (mpick_any h vars (by omega) (by omega))
  clear h
  go_enter Try.func29, Try.ntmps29
  go_wp2_with fail
  refine (unhide hp).mono ?_
  rintro e w1 ⟨k, at2, rfl, hk, ht, hM1, hg1⟩
  go_wp2_with fail
  have hc : (97 + (k : Int)) = (((UInt8.ofNat (97 + k)).toNat : Nat) : Int) := by rw [ofNat_toNat _ (by omega)]; omega
  rw [hc]
  generalize UInt8.ofNat (97 + k) = cb at *
  have Hc := hide hc
  clear hc
  refine (put_any hM1 hts _).mono ?_
  rintro e w2 ⟨t2, ht2, rfl, hM2, hg2⟩
  go_wp2_with fail
  go_end0
  refine ⟨rfl, _, t2, at2, ?_, ht2, hM2, gb_trans hg1 hg2⟩
  rw [← unhide Hc]
  show (decide (97 ≤ 97 + (k : Int)) && decide (97 + (k : Int) - 97 < (vars : Int))) = true
  rw [decide_eq_true (by omega), decide_eq_true (by omega)]; rfl

set_option maxHeartbeats 2000000 in
theorem piece_x (h : Mkr w b ao cin zs at_ text vars) (hts : text.size ≤ 1000000) (hv1 : 1 ≤ vars) (hv8 : vars ≤ 8) :
    Calls Try.prog 29 #[.pointer (some ⟨b, 0, none⟩), .int .u8 120] w (Pce w b ao cin zs text vars 120) := by
  have hp := hide (mpick_any h 3 (by omega) (by omega))
  clear h
  go_enter Try.func29, Try.ntmps29
  go_wp2_with fail
  refine (unhide hp).mono ?_
  rintro e w1 ⟨k, at2, rfl, hk, ht, hM1, hg1⟩
  by_cases hk2 : k < 2
  · have hd : decide ((k : Int) < 2) = true := by simp; omega
    obtain ⟨m0, m1, m2, m3, m4, mf⟩ := hM1.five
    go_wp2_with fail
    refine (mpick_any hM1 vars (by omega) (by omega)).mono ?_
    rintro e w3 ⟨k3, at3, rfl, hk3, _, hM3, hg3⟩
    go_wp2_with fail
    have hc : (97 + (k3 : Int)) = (((UInt8.ofNat (97 + k3)).toNat : Nat) : Int) := by rw [ofNat_toNat _ (by omega)]; omega
    rw [hc]
    generalize UInt8.ofNat (97 + k3) = cb at *
    have Hc := hide hc
    clear hc
    refine (put_any hM3 hts _).mono ?_
    rintro e w2 ⟨t2, ht2, rfl, hM2, hg2⟩
    go_wp2_with fail
    go_end0
    refine ⟨rfl, _, t2, at3, ?_, ht2, hM2, gb_trans (gb_trans hg1 hg3) hg2⟩
    rw [← unhide Hc]
    show ((decide (97 ≤ 97 + (k3 : Int)) && decide (97 + (k3 : Int) - 97 < (vars : Int))) || isDig (97 + (k3 : Int))) = true
    rw [decide_eq_true (by omega), decide_eq_true (by omega)]; rfl
  · have hd : decide ((k : Int) < 2) = false := by simp; omega
    go_wp2_with fail
    refine (mpick_any hM1 10 (by omega) (by omega)).mono ?_
    rintro e w3 ⟨k3, at3, rfl, hk3, _, hM3, hg3⟩
    go_wp2_with fail
    have hc : (48 + (k3 : Int)) = (((UInt8.ofNat (48 + k3)).toNat : Nat) : Int) := by rw [ofNat_toNat _ (by omega)]; omega
    rw [hc]
    generalize UInt8.ofNat (48 + k3) = cb at *
    have Hc := hide hc
    clear hc
    refine (put_any hM3 hts _).mono ?_
    rintro e w2 ⟨t2, ht2, rfl, hM2, hg2⟩
    go_wp2_with fail
    go_end0
    refine ⟨rfl, _, t2, at3, ?_, ht2, hM2, gb_trans (gb_trans hg1 hg3) hg2⟩
    rw [← unhide Hc]
    show (isName (48 + (k3 : Int)) vars || (decide (48 ≤ 48 + (k3 : Int)) && decide (48 + (k3 : Int) ≤ 57))) = true
    rw [decide_eq_true (show (48 : Int) ≤ 48 + (k3 : Int) by omega), decide_eq_true (show 48 + (k3 : Int) ≤ 57 by omega)]; simp

set_option maxHeartbeats 2000000 in
theorem piece_br (h : Mkr w b ao cin zs at_ text vars) (hts : text.size ≤ 1000000) (eb : UInt8) (he : eb = 40 ∨ eb = 41) :
    Calls Try.prog 29 #[.pointer (some ⟨b, 0, none⟩), .int .u8 eb.toNat] w (Pce w b ao cin zs text vars eb) := by
  rcases he with rfl | rfl
  · go_enter Try.func29, Try.ntmps29
    go_wp2_with fail
    refine (put_any h hts 40).mono ?_
    rintro e w2 ⟨t2, ht2, rfl, hM2, hg2⟩
    go_wp2_with fail
    go_end0
    exact ⟨rfl, 40, t2, at_, rfl, ht2, hM2, hg2⟩
  · go_enter Try.func29, Try.ntmps29
    go_wp2_with fail
    refine (put_any h hts 41).mono ?_
    rintro e w2 ⟨t2, ht2, rfl, hM2, hg2⟩
    go_wp2_with fail
    go_end0
    exact ⟨rfl, 41, t2, at_, rfl, ht2, hM2, hg2⟩

theorem piece_any (h : Mkr w b ao cin zs at_ text vars) (hts : text.size ≤ 1000000) (hv1 : 1 ≤ vars) (hv8 : vars ≤ 8) (eb : UInt8) (he : symB eb) :
    Calls Try.prog 29 #[.pointer (some ⟨b, 0, none⟩), .int .u8 eb.toNat] w (Pce w b ao cin zs text vars eb) := by
  rcases he with rfl | rfl | rfl | he
  · exact piece_v h hts hv1 hv8
  · exact piece_x h hts hv1 hv8
  · exact piece_o h hts
  · exact piece_br h hts eb he
end
end Go.Proofs.Ytfolokhilkffcaa
