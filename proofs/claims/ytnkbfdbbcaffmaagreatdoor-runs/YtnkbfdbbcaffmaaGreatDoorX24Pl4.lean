import Derived.Test.YtnkbfdbbcaffmaaGreatDoorX23EachXor
import Derived.Deep.RegionHeld3
import Derived.BigRegion
/-
  set.
-/
namespace Go.Proofs.YtnkbfdbbcaffmaaGreatDoor
open Go.RowKit

section
variable {w w' : World} {b : Nat} {W : Nat} {n m : Nat} {st : Int} {ks : KX} {view : Int} {tag steps : Int} {todo : ByteArray} {σ sn : List Int}

theorem Pl.drewN {N : Int} {stv snv : Value} (h : Pl w b N n m st ks view stv snv tag steps todo) (k : Nat) : Pl (w.drewN k) b N n m st ks view stv snv tag steps todo := h
theorem Sr.drewN {stv : Value} (h : Sr w b stv σ) (k : Nat) : Sr (w.drewN k) b stv σ := h
theorem pls_put {N : Int} {snv : Value} {g cap : Nat} (hP : Pl w b N n m st ks view (.slice (some ⟨g, 0, none⟩) σ.length cap) snv tag steps todo) (hT : Sr w b (.slice (some ⟨g, 0, none⟩) σ.length cap) σ) (hS : Sn w b snv sn) (hX : Px w b (.slice (some ⟨g, 0, none⟩) σ.length cap) ks) (hg : b < g) (i : Nat) (r : Int) :
    PlS (w.setCell ⟨g, i, none⟩ (.int .i64 r)).drew b N n m st ks view (σ.set i r) sn tag steps todo := by
  refine ⟨.slice (some ⟨g, 0, none⟩) σ.length cap, snv, ?_, ?_, ?_, hX.putS i _⟩
  · exact At.drew (At.other hP _ (by show g ≠ b; omega))
  · exact hT.put i r
  · exact Sn.putS hS hT i _
theorem below_put (b g i : Nat) (r : Value) (hg : b < g) (h : Below b w w') : Below b w (w'.setCell ⟨g, i, none⟩ r).drew := below_drewN (h.setCell (Nat.le_of_lt hg) _) 1

set_option maxHeartbeats 4000000 in
theorem rset_plain (h : PlS w b (pw W) n m st ks view σ sn tag steps todo) (hW : W ≤ 8) (t : ByteArray) (h1 : 1 < t.size) (h2 : 2 < t.size) (h3 : 3 < t.size) (h4 : 4 < t.size) (var xx yy : Nat) (op : Int)
    (hv : (t[1].toNat : Int) = 97 + var) (hvl : var < σ.length) (hx0 : 48 ≤ (t[2].toNat : Int)) (hy0 : 48 ≤ (t[4].toNat : Int)) (hxc : 97 ≤ (t[2].toNat : Int) → ((t[2].toNat : Int) - 97).toNat < σ.length) (hyc : 97 ≤ (t[4].toNat : Int) → ((t[4].toNat : Int) - 97).toNat < σ.length)
    (hxx : vb (pw W) σ t[2].toNat = xx) (hyy : vb (pw W) σ t[4].toNat = yy) (hx1 : (xx : Int) < pw W) (hy1 : (yy : Int) < pw W) (hop : (t[3].toNat : Int) = op) (ho : isOp op = true) (hnd : isDiv op = false) :
    Calls Tryz.prog 112 #[.pointer (some ⟨b, 0, none⟩), .string t] w fun e w' => e = .returned (.tuple #[]) ∧ PlS w' b (pw W) n m st ks view (σ.set var (opr (pw W) op xx yy)) sn tag steps todo ∧ Below b w w' := by
  have hpb := pw_bd W hW
  have Hc := hide (fun w0 => calc_any W op xx yy hx1 hy1 hW (fun e => by rw [hnd] at e; cases e) ho w0)
  have b1 := t[1].toNat_lt
  have b2 := t[2].toNat_lt
  have b4 := t[4].toNat_lt
  have HX := hide (fun w0 (h0 : PlS w0 b (pw W) n m st ks view σ sn tag steps todo) => rvalue_any h0 t[2].toNat hx0 (by omega) (by omega) (by omega) hxc)
  have HY := hide (fun w0 (h0 : PlS w0 b (pw W) n m st ks view σ sn tag steps todo) => rvalue_any h0 t[4].toNat hy0 (by omega) (by omega) (by omega) hyc)
  rw [hxx] at HX
  rw [hyy] at HY
  clear hxx hyy hxc hyc hx0 hy0 b2 b4
  have n47 : (op == 47) = false := by
    cases e : op == 47 with
    | false => rfl
    | true => simp [isDiv] at hnd; simp at e; omega
  have n37 : (op == 37) = false := by
    cases e : op == 37 with
    | false => rfl
    | true => simp [isDiv] at hnd; simp at e; omega
  clear ho hnd
  generalize hr : opr (pw W) op xx yy = r at *
  have Hr := hide hr
  clear hr
  generalize hV : pw W = V at *
  have HV := hide hV
  clear hV
  have HP := hide h
  obtain ⟨stv, snv, hP, hT, hS, hX⟩ := h
  obtain ⟨g, cap, rfl, hg⟩ := hT.form (by rintro rfl; simp at hvl)
  obtain ⟨m0, m1, m2, m3, m4, m5, m6, m7, m8, m9, mf⟩ := hP.thirteen
  generalize hv1 : (t[1].toNat : Int) = c1 at *
  have hw1 : IntKind.i64.wrap c1 = c1 := by rw [IntKind.wrap_i64]; omega
  have hw2 : c1 - 97 = (var : Int) := by omega
  have hw3 : IntKind.i64.wrap (var : Int) = (var : Int) := by rw [IntKind.wrap_i64]; omega
  clear hv
  go_enter Tryz.func112, Tryz.ntmps112
  go_wp2_with fail
  refine (unhide HX _ (unhide HP)).mono ?_
  rintro e w' ⟨rfl, rfl⟩
  go_wp2_with fail
  refine (unhide HY _ (unhide HP)).mono ?_
  rintro e w' ⟨rfl, rfl⟩
  go_wp2_with fail
  have cS := hT.cell var hvl
  have fS := hT.fz var
  have hvi : (var : Int) < (σ.length : Int) := by omega
  go_region_held3 (fun w' => w'.cell? ⟨b, 0, none⟩ = some (.int .i64 V) ∧ w'.cell? ⟨b, 6, none⟩ = some (.slice (some ⟨g, 0, none⟩) σ.length cap)) (first | assumption | go_keep)
    ((go_at_call 144; refine (unhide Hc _).mono ?_; rintro e w4 ⟨rfl, rfl⟩; have hP4 := Pl.drewN hP 1; have hT4 := Sr.drewN hT 1; have hcS4 := hT4.cell var hvl; have hfS4 := hT4.fz var; obtain ⟨q0, q1, q2, q3, q4, q5, q6, q7, q8, q9, qf⟩ := hP4.thirteen; have hS4 := And.intro q0 q5; have hP5 := At.other hP4 (a := ⟨g, var, none⟩) (.int .i64 r) (by show g ≠ b; omega); obtain ⟨t0, t1, t2, t3, t4, t5, t6, t7, t8, t9, tf⟩ := Pl.thirteen hP5; have hS5 := And.intro t0 t5))
  all_goals
    go_wp2_with fail
    go_end0
    exact ⟨rfl, pls_put hP hT hS hX hg var r, below_put b g var _ hg (Below.refl b _)⟩

set_option maxHeartbeats 4000000 in
theorem rset_div (h : PlS w b (pw W) n m st ks view σ sn tag steps todo) (hW : W ≤ 8) (t : ByteArray) (h1 : 1 < t.size) (h2 : 2 < t.size) (h3 : 3 < t.size) (h4 : 4 < t.size) (var xx yy : Nat) (op : Int)
    (hv : (t[1].toNat : Int) = 97 + var) (hvl : var < σ.length) (hx0 : 48 ≤ (t[2].toNat : Int)) (hy0 : 48 ≤ (t[4].toNat : Int)) (hxc : 97 ≤ (t[2].toNat : Int) → ((t[2].toNat : Int) - 97).toNat < σ.length) (hyc : 97 ≤ (t[4].toNat : Int) → ((t[4].toNat : Int) - 97).toNat < σ.length)
    (hxx : vb (pw W) σ t[2].toNat = xx) (hyy : vb (pw W) σ t[4].toNat = yy) (hx1 : (xx : Int) < pw W) (hy1 : (yy : Int) < pw W) (hop : (t[3].toNat : Int) = op) (ho : isOp op = true) (hnd : isDiv op = true) (hnz : yy ≠ 0) (hsl : sn.length ≤ 90000) :
    Calls Tryz.prog 112 #[.pointer (some ⟨b, 0, none⟩), .string t] w fun e w' => e = .returned (.tuple #[]) ∧ PlS w' b (pw W) n m st ks view (σ.set var (opr (pw W) op xx yy)) (sn ++ sdB view xx yy) tag steps todo ∧ Below b w w' := by
  have hpb := pw_bd W hW
  have Hc := hide (fun w0 => calc_any W op xx yy hx1 hy1 hW (fun _ => hnz) ho w0)
  have b1 := t[1].toNat_lt
  have b2 := t[2].toNat_lt
  have b4 := t[4].toNat_lt
  have HX := hide (fun w0 (h0 : PlS w0 b (pw W) n m st ks view σ sn tag steps todo) => rvalue_any h0 t[2].toNat hx0 (by omega) (by omega) (by omega) hxc)
  have HY := hide (fun w0 (h0 : PlS w0 b (pw W) n m st ks view σ sn tag steps todo) => rvalue_any h0 t[4].toNat hy0 (by omega) (by omega) (by omega) hyc)
  rw [hxx] at HX
  rw [hyy] at HY
  clear hxx hyy hxc hyc hx0 hy0 b2 b4
  have hbx := btc_bd 8 (xx : Int)
  have hby := btc_bd 8 (yy : Int)
  have hfin : sdB view xx yy = (if (yy : Int) = 0 then [120] else [118]) ++ (if view = 1 then [hxd (btc 8 xx)] ++ [hxd (btc 8 yy)] else []) := rfl
  have hbxe : hxd (btc 8 xx) = 48 + btc 8 xx := by unfold hxd; rw [if_pos (by omega)]
  have hbye : hxd (btc 8 yy) = 48 + btc 8 yy := by unfold hxd; rw [if_pos (by omega)]
  rw [hbxe, hbye] at hfin
  clear hbxe hbye
  generalize hqx : btc 8 (xx : Int) = bx at *
  generalize hqy : btc 8 (yy : Int) = b2 at *
  have Hx := hide hqx
  have Hy := hide hqy
  clear hqx hqy
  rw [if_neg (by omega)] at hfin
  have hyb : ((yy : Int) == 0) = false := by simpa using hnz
  have hwx : IntKind.u8.wrap (48 + bx) = 48 + bx := by rw [IntKind.wrap_u8]; omega
  have hwy : IntKind.u8.wrap (48 + b2) = 48 + b2 := by rw [IntKind.wrap_u8]; omega
  generalize hr : opr (pw W) op xx yy = r at *
  have Hr := hide hr
  clear hr
  generalize hV : pw W = V at *
  have HV := hide hV
  clear hV
  have HP := hide h
  have hP0 := h
  obtain ⟨m0, m1, m2, m3, m4, m5, m6, m7, m8, m9, mf⟩ := h.thirteen
  generalize hv1 : (t[1].toNat : Int) = c1 at *
  have hw1 : IntKind.i64.wrap c1 = c1 := by rw [IntKind.wrap_i64]; omega
  have hw2 : c1 - 97 = (var : Int) := by omega
  have hw3 : IntKind.i64.wrap (var : Int) = (var : Int) := by rw [IntKind.wrap_i64]; omega
  clear hv
  clear hnz h
  clear ho
  simp [isDiv] at hnd
  rcases hnd with rfl | rfl
  · by_cases ht : view = 1
    · rw [if_pos ht] at hfin
      have hfin2 : sn ++ sdB view xx yy = sn ++ [118] ++ [48 + bx] ++ [48 + b2] := by rw [hfin]; simp
      have Hfin := hide hfin2
      have hvb : (view == 1) = true := by simpa using ht
      clear hfin hfin2 ht
      go_enter Tryz.func112, Tryz.ntmps112
      go_wp2_with fail
      refine (unhide HX _ (unhide HP)).mono ?_
      rintro e w' ⟨rfl, rfl⟩
      go_wp2_with fail
      refine (unhide HY _ (unhide HP)).mono ?_
      rintro e w' ⟨rfl, rfl⟩
      go_wp2_with fail
      refine (told_any hP0 (by omega) 118).mono ?_
      rintro e w1 ⟨rfl, hP1, hB1⟩
      clear m0 m1 m2 m3 m4 m5 m6 m7 m8 m9 mf
      obtain ⟨m0, m1, m2, m3, m4, m5, m6, m7, m8, m9, mf⟩ := hP1.thirteen
      go_wp2_with fail
      refine (rbits_any xx (by omega) (by omega) _).mono ?_
      rintro e w' ⟨rfl, rfl⟩
      rw [unhide Hx]
      go_wp2_with fail
      refine (rbits_any yy (by omega) (by omega) _).mono ?_
      rintro e w' ⟨rfl, rfl⟩
      rw [unhide Hy]
      go_wp2_with fail
      refine (told_any hP1 (by rw [List.length_append]; simp; omega) _).mono ?_
      rintro e w2 ⟨rfl, hP2, hB2⟩
      clear m0 m1 m2 m3 m4 m5 m6 m7 m8 m9 mf
      obtain ⟨m0, m1, m2, m3, m4, m5, m6, m7, m8, m9, mf⟩ := hP2.thirteen
      go_wp2_with fail
      refine (told_any hP2 (by rw [List.length_append, List.length_append]; simp; omega) _).mono ?_
      rintro e w3 ⟨rfl, hP3, hB3⟩
      clear m0 m1 m2 m3 m4 m5 m6 m7 m8 m9 mf
      obtain ⟨m0, m1, m2, m3, m4, m5, m6, m7, m8, m9, mf⟩ := hP3.thirteen
      go_wp2_with fail
      have hPL := hP3
      obtain ⟨stv, snv, hP, hT, hS, hX⟩ := hPL
      obtain ⟨g, cap, rfl, hg⟩ := hT.form (by rintro rfl; simp at hvl)
      clear m0 m1 m2 m3 m4 m5 m6 m7 m8 m9 mf
      obtain ⟨m0, m1, m2, m3, m4, m5, m6, m7, m8, m9, mf⟩ := hP.thirteen
      have cS := hT.cell var hvl
      have fS := hT.fz var
      have hvi : (var : Int) < (σ.length : Int) := by omega
      go_region_held3 (fun w' => w'.cell? ⟨b, 0, none⟩ = some (.int .i64 V) ∧ w'.cell? ⟨b, 6, none⟩ = some (.slice (some ⟨g, 0, none⟩) σ.length cap)) (first | assumption | go_keep)
        ((go_at_call 144; refine (unhide Hc _).mono ?_; rintro e w4 ⟨rfl, rfl⟩; have hP4 := Pl.drewN hP 1; have hT4 := Sr.drewN hT 1; have hcS4 := hT4.cell var hvl; have hfS4 := hT4.fz var; obtain ⟨q0, q1, q2, q3, q4, q5, q6, q7, q8, q9, qf⟩ := hP4.thirteen; have hS4 := And.intro q0 q5; have hP5 := At.other hP4 (a := ⟨g, var, none⟩) (.int .i64 r) (by show g ≠ b; omega); obtain ⟨t0, t1, t2, t3, t4, t5, t6, t7, t8, t9, tf⟩ := Pl.thirteen hP5; have hS5 := And.intro t0 t5))
      all_goals
        go_wp2_with fail
        go_end0
        exact ⟨rfl, by rw [unhide Hfin]; exact pls_put hP hT hS hX hg var r, below_put b g var _ hg ((hB1.trans hB2).trans hB3)⟩
    · rw [if_neg ht] at hfin
      have hfin2 : sn ++ sdB view xx yy = sn ++ [118] := by rw [hfin]; simp
      have Hfin := hide hfin2
      have hvb : (view == 1) = false := by simpa using ht
      clear hfin hfin2 ht
      go_enter Tryz.func112, Tryz.ntmps112
      go_wp2_with fail
      refine (unhide HX _ (unhide HP)).mono ?_
      rintro e w' ⟨rfl, rfl⟩
      go_wp2_with fail
      refine (unhide HY _ (unhide HP)).mono ?_
      rintro e w' ⟨rfl, rfl⟩
      go_wp2_with fail
      refine (told_any hP0 (by omega) 118).mono ?_
      rintro e w1 ⟨rfl, hP1, hB1⟩
      clear m0 m1 m2 m3 m4 m5 m6 m7 m8 m9 mf
      obtain ⟨m0, m1, m2, m3, m4, m5, m6, m7, m8, m9, mf⟩ := hP1.thirteen
      go_wp2_with fail
      have hPL := hP1
      obtain ⟨stv, snv, hP, hT, hS, hX⟩ := hPL
      obtain ⟨g, cap, rfl, hg⟩ := hT.form (by rintro rfl; simp at hvl)
      clear m0 m1 m2 m3 m4 m5 m6 m7 m8 m9 mf
      obtain ⟨m0, m1, m2, m3, m4, m5, m6, m7, m8, m9, mf⟩ := hP.thirteen
      have cS := hT.cell var hvl
      have fS := hT.fz var
      have hvi : (var : Int) < (σ.length : Int) := by omega
      go_region_held3 (fun w' => w'.cell? ⟨b, 0, none⟩ = some (.int .i64 V) ∧ w'.cell? ⟨b, 6, none⟩ = some (.slice (some ⟨g, 0, none⟩) σ.length cap)) (first | assumption | go_keep)
        ((go_at_call 144; refine (unhide Hc _).mono ?_; rintro e w4 ⟨rfl, rfl⟩; have hP4 := Pl.drewN hP 1; have hT4 := Sr.drewN hT 1; have hcS4 := hT4.cell var hvl; have hfS4 := hT4.fz var; obtain ⟨q0, q1, q2, q3, q4, q5, q6, q7, q8, q9, qf⟩ := hP4.thirteen; have hS4 := And.intro q0 q5; have hP5 := At.other hP4 (a := ⟨g, var, none⟩) (.int .i64 r) (by show g ≠ b; omega); obtain ⟨t0, t1, t2, t3, t4, t5, t6, t7, t8, t9, tf⟩ := Pl.thirteen hP5; have hS5 := And.intro t0 t5))
      all_goals
        go_wp2_with fail
        go_end0
        exact ⟨rfl, by rw [unhide Hfin]; exact pls_put hP hT hS hX hg var r, below_put b g var _ hg (hB1)⟩
  · by_cases ht : view = 1
    · rw [if_pos ht] at hfin
      have hfin2 : sn ++ sdB view xx yy = sn ++ [118] ++ [48 + bx] ++ [48 + b2] := by rw [hfin]; simp
      have Hfin := hide hfin2
      have hvb : (view == 1) = true := by simpa using ht
      clear hfin hfin2 ht
      go_enter Tryz.func112, Tryz.ntmps112
      go_wp2_with fail
      refine (unhide HX _ (unhide HP)).mono ?_
      rintro e w' ⟨rfl, rfl⟩
      go_wp2_with fail
      refine (unhide HY _ (unhide HP)).mono ?_
      rintro e w' ⟨rfl, rfl⟩
      go_wp2_with fail
      refine (told_any hP0 (by omega) 118).mono ?_
      rintro e w1 ⟨rfl, hP1, hB1⟩
      clear m0 m1 m2 m3 m4 m5 m6 m7 m8 m9 mf
      obtain ⟨m0, m1, m2, m3, m4, m5, m6, m7, m8, m9, mf⟩ := hP1.thirteen
      go_wp2_with fail
      refine (rbits_any xx (by omega) (by omega) _).mono ?_
      rintro e w' ⟨rfl, rfl⟩
      rw [unhide Hx]
      go_wp2_with fail
      refine (rbits_any yy (by omega) (by omega) _).mono ?_
      rintro e w' ⟨rfl, rfl⟩
      rw [unhide Hy]
      go_wp2_with fail
      refine (told_any hP1 (by rw [List.length_append]; simp; omega) _).mono ?_
      rintro e w2 ⟨rfl, hP2, hB2⟩
      clear m0 m1 m2 m3 m4 m5 m6 m7 m8 m9 mf
      obtain ⟨m0, m1, m2, m3, m4, m5, m6, m7, m8, m9, mf⟩ := hP2.thirteen
      go_wp2_with fail
      refine (told_any hP2 (by rw [List.length_append, List.length_append]; simp; omega) _).mono ?_
      rintro e w3 ⟨rfl, hP3, hB3⟩
      clear m0 m1 m2 m3 m4 m5 m6 m7 m8 m9 mf
      obtain ⟨m0, m1, m2, m3, m4, m5, m6, m7, m8, m9, mf⟩ := hP3.thirteen
      go_wp2_with fail
      have hPL := hP3
      obtain ⟨stv, snv, hP, hT, hS, hX⟩ := hPL
      obtain ⟨g, cap, rfl, hg⟩ := hT.form (by rintro rfl; simp at hvl)
      clear m0 m1 m2 m3 m4 m5 m6 m7 m8 m9 mf
      obtain ⟨m0, m1, m2, m3, m4, m5, m6, m7, m8, m9, mf⟩ := hP.thirteen
      have cS := hT.cell var hvl
      have fS := hT.fz var
      have hvi : (var : Int) < (σ.length : Int) := by omega
      go_region_held3 (fun w' => w'.cell? ⟨b, 0, none⟩ = some (.int .i64 V) ∧ w'.cell? ⟨b, 6, none⟩ = some (.slice (some ⟨g, 0, none⟩) σ.length cap)) (first | assumption | go_keep)
        ((go_at_call 144; refine (unhide Hc _).mono ?_; rintro e w4 ⟨rfl, rfl⟩; have hP4 := Pl.drewN hP 1; have hT4 := Sr.drewN hT 1; have hcS4 := hT4.cell var hvl; have hfS4 := hT4.fz var; obtain ⟨q0, q1, q2, q3, q4, q5, q6, q7, q8, q9, qf⟩ := hP4.thirteen; have hS4 := And.intro q0 q5; have hP5 := At.other hP4 (a := ⟨g, var, none⟩) (.int .i64 r) (by show g ≠ b; omega); obtain ⟨t0, t1, t2, t3, t4, t5, t6, t7, t8, t9, tf⟩ := Pl.thirteen hP5; have hS5 := And.intro t0 t5))
      all_goals
        go_wp2_with fail
        go_end0
        exact ⟨rfl, by rw [unhide Hfin]; exact pls_put hP hT hS hX hg var r, below_put b g var _ hg ((hB1.trans hB2).trans hB3)⟩
    · rw [if_neg ht] at hfin
      have hfin2 : sn ++ sdB view xx yy = sn ++ [118] := by rw [hfin]; simp
      have Hfin := hide hfin2
      have hvb : (view == 1) = false := by simpa using ht
      clear hfin hfin2 ht
      go_enter Tryz.func112, Tryz.ntmps112
      go_wp2_with fail
      refine (unhide HX _ (unhide HP)).mono ?_
      rintro e w' ⟨rfl, rfl⟩
      go_wp2_with fail
      refine (unhide HY _ (unhide HP)).mono ?_
      rintro e w' ⟨rfl, rfl⟩
      go_wp2_with fail
      refine (told_any hP0 (by omega) 118).mono ?_
      rintro e w1 ⟨rfl, hP1, hB1⟩
      clear m0 m1 m2 m3 m4 m5 m6 m7 m8 m9 mf
      obtain ⟨m0, m1, m2, m3, m4, m5, m6, m7, m8, m9, mf⟩ := hP1.thirteen
      go_wp2_with fail
      have hPL := hP1
      obtain ⟨stv, snv, hP, hT, hS, hX⟩ := hPL
      obtain ⟨g, cap, rfl, hg⟩ := hT.form (by rintro rfl; simp at hvl)
      clear m0 m1 m2 m3 m4 m5 m6 m7 m8 m9 mf
      obtain ⟨m0, m1, m2, m3, m4, m5, m6, m7, m8, m9, mf⟩ := hP.thirteen
      have cS := hT.cell var hvl
      have fS := hT.fz var
      have hvi : (var : Int) < (σ.length : Int) := by omega
      go_region_held3 (fun w' => w'.cell? ⟨b, 0, none⟩ = some (.int .i64 V) ∧ w'.cell? ⟨b, 6, none⟩ = some (.slice (some ⟨g, 0, none⟩) σ.length cap)) (first | assumption | go_keep)
        ((go_at_call 144; refine (unhide Hc _).mono ?_; rintro e w4 ⟨rfl, rfl⟩; have hP4 := Pl.drewN hP 1; have hT4 := Sr.drewN hT 1; have hcS4 := hT4.cell var hvl; have hfS4 := hT4.fz var; obtain ⟨q0, q1, q2, q3, q4, q5, q6, q7, q8, q9, qf⟩ := hP4.thirteen; have hS4 := And.intro q0 q5; have hP5 := At.other hP4 (a := ⟨g, var, none⟩) (.int .i64 r) (by show g ≠ b; omega); obtain ⟨t0, t1, t2, t3, t4, t5, t6, t7, t8, t9, tf⟩ := Pl.thirteen hP5; have hS5 := And.intro t0 t5))
      all_goals
        go_wp2_with fail
        go_end0
        exact ⟨rfl, by rw [unhide Hfin]; exact pls_put hP hT hS hX hg var r, below_put b g var _ hg (hB1)⟩

set_option maxHeartbeats 4000000 in
theorem rset_trap (h : PlS w b (pw W) n m st ks view σ sn tag steps todo) (hW : W ≤ 8) (t : ByteArray) (h2 : 2 < t.size) (h3 : 3 < t.size) (h4 : 4 < t.size) (xx yy : Nat) (op : Int)
    (hx0 : 48 ≤ (t[2].toNat : Int)) (hy0 : 48 ≤ (t[4].toNat : Int)) (hxc : 97 ≤ (t[2].toNat : Int) → ((t[2].toNat : Int) - 97).toNat < σ.length) (hyc : 97 ≤ (t[4].toNat : Int) → ((t[4].toNat : Int) - 97).toNat < σ.length)
    (hxx : vb (pw W) σ t[2].toNat = xx) (hyy : vb (pw W) σ t[4].toNat = yy) (hx1 : (xx : Int) < pw W) (hy1 : (yy : Int) < pw W) (hop : (t[3].toNat : Int) = op) (hnd : isDiv op = true) (hnz : yy = 0) (hsl : sn.length ≤ 90000) :
    Calls Tryz.prog 112 #[.pointer (some ⟨b, 0, none⟩), .string t] w fun e w' => e = .returned (.tuple #[]) ∧ PlS w' b (pw W) n m st ks view σ (sn ++ sdB view xx yy) 2 steps todo ∧ Below b w w' := by
  have hpb := pw_bd W hW
  have b2 := t[2].toNat_lt
  have b4 := t[4].toNat_lt
  have HX := hide (fun w0 (h0 : PlS w0 b (pw W) n m st ks view σ sn tag steps todo) => rvalue_any h0 t[2].toNat hx0 (by omega) (by omega) (by omega) hxc)
  have HY := hide (fun w0 (h0 : PlS w0 b (pw W) n m st ks view σ sn tag steps todo) => rvalue_any h0 t[4].toNat hy0 (by omega) (by omega) (by omega) hyc)
  rw [hxx] at HX
  rw [hyy] at HY
  clear hxx hyy hxc hyc hx0 hy0 b2 b4
  have hbx := btc_bd 8 (xx : Int)
  have hby := btc_bd 8 (yy : Int)
  have hfin : sdB view xx yy = (if (yy : Int) = 0 then [120] else [118]) ++ (if view = 1 then [hxd (btc 8 xx)] ++ [hxd (btc 8 yy)] else []) := rfl
  have hbxe : hxd (btc 8 xx) = 48 + btc 8 xx := by unfold hxd; rw [if_pos (by omega)]
  have hbye : hxd (btc 8 yy) = 48 + btc 8 yy := by unfold hxd; rw [if_pos (by omega)]
  rw [hbxe, hbye] at hfin
  clear hbxe hbye
  generalize hqx : btc 8 (xx : Int) = bx at *
  generalize hqy : btc 8 (yy : Int) = b2 at *
  have Hx := hide hqx
  have Hy := hide hqy
  clear hqx hqy
  rw [if_pos (by omega)] at hfin
  have hyb : ((yy : Int) == 0) = true := by simpa using hnz
  have hwx : IntKind.u8.wrap (48 + bx) = 48 + bx := by rw [IntKind.wrap_u8]; omega
  have hwy : IntKind.u8.wrap (48 + b2) = 48 + b2 := by rw [IntKind.wrap_u8]; omega
  generalize hV : pw W = V at *
  have HV := hide hV
  clear hV
  have HP := hide h
  have hP0 := h
  obtain ⟨m0, m1, m2, m3, m4, m5, m6, m7, m8, m9, mf⟩ := h.thirteen
  clear hnz h
  simp [isDiv] at hnd
  rcases hnd with rfl | rfl
  · by_cases ht : view = 1
    · rw [if_pos ht] at hfin
      have hfin2 : sn ++ sdB view xx yy = sn ++ [120] ++ [48 + bx] ++ [48 + b2] := by rw [hfin]; simp
      have Hfin := hide hfin2
      have hvb : (view == 1) = true := by simpa using ht
      clear hfin hfin2 ht
      go_enter Tryz.func112, Tryz.ntmps112
      go_wp2_with fail
      refine (unhide HX _ (unhide HP)).mono ?_
      rintro e w' ⟨rfl, rfl⟩
      go_wp2_with fail
      refine (unhide HY _ (unhide HP)).mono ?_
      rintro e w' ⟨rfl, rfl⟩
      go_wp2_with fail
      refine (told_any hP0 (by omega) 120).mono ?_
      rintro e w1 ⟨rfl, hP1, hB1⟩
      clear m0 m1 m2 m3 m4 m5 m6 m7 m8 m9 mf
      obtain ⟨m0, m1, m2, m3, m4, m5, m6, m7, m8, m9, mf⟩ := hP1.thirteen
      have hP1t := hP1.setTag 2
      have hB1t : Below b _ (w1.setCell ⟨b, 8, none⟩ (.int .i64 2)) := hB1.setCell (Nat.le_refl _) _
      clear m0 m1 m2 m3 m4 m5 m6 m7 m8 m9 mf
      obtain ⟨m0, m1, m2, m3, m4, m5, m6, m7, m8, m9, mf⟩ := hP1.thirteen
      go_wp2_with fail
      refine (rbits_any xx (by omega) (by omega) _).mono ?_
      rintro e w' ⟨rfl, rfl⟩
      rw [unhide Hx]
      go_wp2_with fail
      refine (rbits_any yy (by omega) (by omega) _).mono ?_
      rintro e w' ⟨rfl, rfl⟩
      rw [unhide Hy]
      go_wp2_with fail
      refine (told_any hP1t (by rw [List.length_append]; simp; omega) _).mono ?_
      rintro e w2 ⟨rfl, hP2, hB2⟩
      clear m0 m1 m2 m3 m4 m5 m6 m7 m8 m9 mf
      obtain ⟨m0, m1, m2, m3, m4, m5, m6, m7, m8, m9, mf⟩ := hP2.thirteen
      go_wp2_with fail
      refine (told_any hP2 (by rw [List.length_append, List.length_append]; simp; omega) _).mono ?_
      rintro e w3 ⟨rfl, hP3, hB3⟩
      clear m0 m1 m2 m3 m4 m5 m6 m7 m8 m9 mf
      obtain ⟨m0, m1, m2, m3, m4, m5, m6, m7, m8, m9, mf⟩ := hP3.thirteen
      go_wp2_with fail
      refine bodyPost_ret (results_none rfl _ _ _) rfl ?_
      exact ⟨rfl, by rw [unhide Hfin]; exact hP3, (hB1t.trans hB2).trans hB3⟩
    · rw [if_neg ht] at hfin
      have hfin2 : sn ++ sdB view xx yy = sn ++ [120] := by rw [hfin]; simp
      have Hfin := hide hfin2
      have hvb : (view == 1) = false := by simpa using ht
      clear hfin hfin2 ht
      go_enter Tryz.func112, Tryz.ntmps112
      go_wp2_with fail
      refine (unhide HX _ (unhide HP)).mono ?_
      rintro e w' ⟨rfl, rfl⟩
      go_wp2_with fail
      refine (unhide HY _ (unhide HP)).mono ?_
      rintro e w' ⟨rfl, rfl⟩
      go_wp2_with fail
      refine (told_any hP0 (by omega) 120).mono ?_
      rintro e w1 ⟨rfl, hP1, hB1⟩
      clear m0 m1 m2 m3 m4 m5 m6 m7 m8 m9 mf
      obtain ⟨m0, m1, m2, m3, m4, m5, m6, m7, m8, m9, mf⟩ := hP1.thirteen
      have hP1t := hP1.setTag 2
      have hB1t : Below b _ (w1.setCell ⟨b, 8, none⟩ (.int .i64 2)) := hB1.setCell (Nat.le_refl _) _
      clear m0 m1 m2 m3 m4 m5 m6 m7 m8 m9 mf
      obtain ⟨m0, m1, m2, m3, m4, m5, m6, m7, m8, m9, mf⟩ := hP1.thirteen
      go_wp2_with fail
      refine bodyPost_ret (results_none rfl _ _ _) rfl ?_
      exact ⟨rfl, by rw [unhide Hfin]; exact hP1t, hB1t⟩
  · by_cases ht : view = 1
    · rw [if_pos ht] at hfin
      have hfin2 : sn ++ sdB view xx yy = sn ++ [120] ++ [48 + bx] ++ [48 + b2] := by rw [hfin]; simp
      have Hfin := hide hfin2
      have hvb : (view == 1) = true := by simpa using ht
      clear hfin hfin2 ht
      go_enter Tryz.func112, Tryz.ntmps112
      go_wp2_with fail
      refine (unhide HX _ (unhide HP)).mono ?_
      rintro e w' ⟨rfl, rfl⟩
      go_wp2_with fail
      refine (unhide HY _ (unhide HP)).mono ?_
      rintro e w' ⟨rfl, rfl⟩
      go_wp2_with fail
      refine (told_any hP0 (by omega) 120).mono ?_
      rintro e w1 ⟨rfl, hP1, hB1⟩
      clear m0 m1 m2 m3 m4 m5 m6 m7 m8 m9 mf
      obtain ⟨m0, m1, m2, m3, m4, m5, m6, m7, m8, m9, mf⟩ := hP1.thirteen
      have hP1t := hP1.setTag 2
      have hB1t : Below b _ (w1.setCell ⟨b, 8, none⟩ (.int .i64 2)) := hB1.setCell (Nat.le_refl _) _
      clear m0 m1 m2 m3 m4 m5 m6 m7 m8 m9 mf
      obtain ⟨m0, m1, m2, m3, m4, m5, m6, m7, m8, m9, mf⟩ := hP1.thirteen
      go_wp2_with fail
      refine (rbits_any xx (by omega) (by omega) _).mono ?_
      rintro e w' ⟨rfl, rfl⟩
      rw [unhide Hx]
      go_wp2_with fail
      refine (rbits_any yy (by omega) (by omega) _).mono ?_
      rintro e w' ⟨rfl, rfl⟩
      rw [unhide Hy]
      go_wp2_with fail
      refine (told_any hP1t (by rw [List.length_append]; simp; omega) _).mono ?_
      rintro e w2 ⟨rfl, hP2, hB2⟩
      clear m0 m1 m2 m3 m4 m5 m6 m7 m8 m9 mf
      obtain ⟨m0, m1, m2, m3, m4, m5, m6, m7, m8, m9, mf⟩ := hP2.thirteen
      go_wp2_with fail
      refine (told_any hP2 (by rw [List.length_append, List.length_append]; simp; omega) _).mono ?_
      rintro e w3 ⟨rfl, hP3, hB3⟩
      clear m0 m1 m2 m3 m4 m5 m6 m7 m8 m9 mf
      obtain ⟨m0, m1, m2, m3, m4, m5, m6, m7, m8, m9, mf⟩ := hP3.thirteen
      go_wp2_with fail
      refine bodyPost_ret (results_none rfl _ _ _) rfl ?_
      exact ⟨rfl, by rw [unhide Hfin]; exact hP3, (hB1t.trans hB2).trans hB3⟩
    · rw [if_neg ht] at hfin
      have hfin2 : sn ++ sdB view xx yy = sn ++ [120] := by rw [hfin]; simp
      have Hfin := hide hfin2
      have hvb : (view == 1) = false := by simpa using ht
      clear hfin hfin2 ht
      go_enter Tryz.func112, Tryz.ntmps112
      go_wp2_with fail
      refine (unhide HX _ (unhide HP)).mono ?_
      rintro e w' ⟨rfl, rfl⟩
      go_wp2_with fail
      refine (unhide HY _ (unhide HP)).mono ?_
      rintro e w' ⟨rfl, rfl⟩
      go_wp2_with fail
      refine (told_any hP0 (by omega) 120).mono ?_
      rintro e w1 ⟨rfl, hP1, hB1⟩
      clear m0 m1 m2 m3 m4 m5 m6 m7 m8 m9 mf
      obtain ⟨m0, m1, m2, m3, m4, m5, m6, m7, m8, m9, mf⟩ := hP1.thirteen
      have hP1t := hP1.setTag 2
      have hB1t : Below b _ (w1.setCell ⟨b, 8, none⟩ (.int .i64 2)) := hB1.setCell (Nat.le_refl _) _
      clear m0 m1 m2 m3 m4 m5 m6 m7 m8 m9 mf
      obtain ⟨m0, m1, m2, m3, m4, m5, m6, m7, m8, m9, mf⟩ := hP1.thirteen
      go_wp2_with fail
      refine bodyPost_ret (results_none rfl _ _ _) rfl ?_
      exact ⟨rfl, by rw [unhide Hfin]; exact hP1t, hB1t⟩
end
end Go.Proofs.YtnkbfdbbcaffmaaGreatDoor
/-
  plain.
-/
namespace Go.Proofs.YtnkbfdbbcaffmaaGreatDoor
open Go.RowKit

section
variable {w w' : World} {b : Nat} {W : Nat} {n m : Nat} {st : Int} {ks : KX} {view : Int} {tag steps : Int} {todo : ByteArray} {σ sn : List Int}

set_option maxHeartbeats 1000000 in
theorem plain_set {Q : World → Prop} (t : ByteArray) (h0 : 0 < t.size) (ht : (t[0].toNat : Int) = 61)
    (hc : Calls Tryz.prog 112 #[.pointer (some ⟨b, 0, none⟩), .string t] w fun e w' => e = .returned (.tuple #[]) ∧ Q w') :
    Calls Tryz.prog 91 #[.pointer (some ⟨b, 0, none⟩), .string t] w fun e w' => e = .returned (.tuple #[]) ∧ Q w' := by
  have HC := hide hc
  clear hc
  go_enter Tryz.func91, Tryz.ntmps91
  go_wp2_with fail
  refine (unhide HC).mono ?_
  rintro e w' ⟨rfl, hQ⟩
  go_wp2_with fail
  go_end0
  exact ⟨rfl, hQ⟩

set_option maxHeartbeats 2000000 in
theorem plain_load (h : PlS w b (pw W) n m st ks view σ sn tag steps todo) (hW : W ≤ 8) (t : ByteArray) (h0 : 0 < t.size) (h1 : 1 < t.size) (h2 : 2 < t.size) (ht : (t[0].toNat : Int) = 108) (var xx : Nat)
    (hv : (t[1].toNat : Int) = 97 + var) (hvn : var < n) (hx0 : 48 ≤ (t[2].toNat : Int)) (hxc : 97 ≤ (t[2].toNat : Int) → ((t[2].toNat : Int) - 97).toNat < σ.length)
    (hxx : vb (pw W) σ t[2].toNat = xx) (hx1 : (xx : Int) < pw W) (hsl : sn.length ≤ 90000) (hv0 : 0 ≤ view) (hv1 : view ≤ 8) (hnm : n + m = σ.length) (hlen : σ.length ≤ 100) :
    Calls Tryz.prog 91 #[.pointer (some ⟨b, 0, none⟩), .string t] w fun e w' => e = .returned (.tuple #[]) ∧ PlS w' b (pw W) n m st ks view (if (m : Int) ≤ xx then σ else σ.set var (σ.getD (n + xx) 0)) (sn ++ swB view m xx) (if (m : Int) ≤ xx then 2 else tag) steps todo ∧ Below b w w' := by
  have hpb := pw_bd W hW
  have b1 := t[1].toNat_lt
  have b2 := t[2].toNat_lt
  have HX := hide (rvalue_any h t[2].toNat hx0 (by omega) (by omega) (by omega) hxc)
  rw [hxx] at HX
  have HT := hide (touch_any h hsl xx (by omega) (by omega) hv0 hv1 (by omega))
  have hn : n ≤ 100 := by omega
  have hvl : var < σ.length := by omega
  generalize hr : σ.getD (n + xx) 0 = r
  have Hr := hide hr
  clear hr
  have hnx : ¬ (m : Int) ≤ xx → n + xx < σ.length := by omega
  have HN := hide hnx
  clear hxx hxc hx0 b2 hnx
  generalize hV : pw W = V at *
  have HV := hide hV
  clear hV hnm
  generalize hc1 : (t[1].toNat : Int) = c1 at *
  have hw1 : IntKind.i64.wrap c1 = c1 := by rw [IntKind.wrap_i64]; omega
  have hw2 : c1 - 97 = (var : Int) := by omega
  have hw3 : IntKind.i64.wrap (var : Int) = (var : Int) := by rw [IntKind.wrap_i64]; omega
  clear hv
  by_cases hm : (m : Int) ≤ xx
  · rw [if_pos hm] at HT ⊢
    rw [if_pos hm] at HT ⊢
    clear h
    go_enter Tryz.func91, Tryz.ntmps91
    go_wp2_with fail
    refine (unhide HX).mono ?_
    rintro e w' ⟨rfl, rfl⟩
    go_wp2_with fail
    refine (unhide HT).mono ?_
    rintro e w2 ⟨rfl, hP2, hB2⟩
    go_wp2_with fail
    go_end0
    exact ⟨rfl, hP2, hB2⟩
  · rw [if_neg hm] at HT ⊢
    rw [if_neg hm] at HT ⊢
    clear h
    have hnx := unhide HN hm
    clear hm
    go_enter Tryz.func91, Tryz.ntmps91
    go_wp2_with fail
    refine (unhide HX).mono ?_
    rintro e w' ⟨rfl, rfl⟩
    go_wp2_with fail
    refine (unhide HT).mono ?_
    rintro e w2 ⟨rfl, hP2, hB2⟩
    obtain ⟨stv, snv, hP, hT, hS, hX⟩ := hP2
    obtain ⟨g, cap, rfl, hg⟩ := hT.form (by rintro rfl; simp at hvl)
    obtain ⟨m0, m1, m2, m3, m4, m5, m6, m7, m8, m9, mf⟩ := hP.thirteen
    have cS := hT.cell var hvl
    have fS := hT.fz var
    have cW := hT.cell (n + xx) hnx
    rw [unhide Hr] at cW
    have hvi : (var : Int) < (σ.length : Int) := by omega
    have hwl : (n : Int) + (xx : Int) < (σ.length : Int) := by omega
    have hwr : IntKind.i64.wrap ((n : Int) + (xx : Int)) = (n : Int) + (xx : Int) := by rw [IntKind.wrap_i64]; omega
    have hp0 : (0 : Int) ≤ (n : Int) + (xx : Int) := by omega
    have hp2 : ((n : Int) + (xx : Int)).toNat = n + xx := by omega
    have cW5 : ∀ r', (w2.setCell ⟨g, var, none⟩ (.int .i64 r')).cell? ⟨g, n + xx, none⟩ = some (.int .i64 r) := fun r' => by
      have h := (hT.put var r')
      have h' : Sr (w2.setCell ⟨g, var, none⟩ (.int .i64 r')) b (.slice (some ⟨g, 0, none⟩) (σ.set var r').length cap) (σ.set var r') := by rw [List.length_set]; exact h
      have h := h'.cell (n + xx) (by rw [List.length_set]; exact hnx)
      have hne : var ≠ n + xx := by omega
      have e : (σ.set var r').getD (n + xx) 0 = σ.getD (n + xx) 0 := by simp [List.getD, hne]
      rw [e, unhide Hr] at h; exact h
    have hP5 := At.other hP (a := ⟨g, var, none⟩) (.int .i64 r) (by show g ≠ b; omega)
    obtain ⟨t0, t1, t2, t3, t4, t5, t6, t7, t8, t9, tf⟩ := Pl.thirteen hP5
    have hS5' := And.intro t5 (cW5 r)
    have hS3' := And.intro m5 cW
    clear cW5
    go_wp2_with fail
    go_region_held3 (fun w' => w'.cell? ⟨b, 6, none⟩ = some (.slice (some ⟨g, 0, none⟩) σ.length cap) ∧ w'.cell? ⟨g, n + xx, none⟩ = some (.int .i64 r)) (first | assumption | exact hS5' | go_keep) (fail)
    go_wp2_with fail
    go_end0
    exact ⟨rfl, pls_put hP hT hS hX hg var r, below_put b g var _ hg hB2⟩

set_option maxHeartbeats 2000000 in
theorem plain_store (h : PlS w b (pw W) n m st ks view σ sn tag steps todo) (hW : W ≤ 8) (t : ByteArray) (h0 : 0 < t.size) (h1 : 1 < t.size) (h2 : 2 < t.size) (ht : (t[0].toNat : Int) = 115) (xx yy : Nat)
    (hx0 : 48 ≤ (t[1].toNat : Int)) (hxc : 97 ≤ (t[1].toNat : Int) → ((t[1].toNat : Int) - 97).toNat < σ.length) (hy0 : 48 ≤ (t[2].toNat : Int)) (hyc : 97 ≤ (t[2].toNat : Int) → ((t[2].toNat : Int) - 97).toNat < σ.length)
    (hxx : vb (pw W) σ t[1].toNat = xx) (hx1 : (xx : Int) < pw W) (hyy : vb (pw W) σ t[2].toNat = yy) (hsl : sn.length ≤ 90000) (hv0 : 0 ≤ view) (hv1 : view ≤ 8) (hnm : n + m = σ.length) (hlen : σ.length ≤ 100) :
    Calls Tryz.prog 91 #[.pointer (some ⟨b, 0, none⟩), .string t] w fun e w' => e = .returned (.tuple #[]) ∧ PlS w' b (pw W) n m st ks view (if (m : Int) ≤ xx then σ else σ.set (n + xx) yy) (sn ++ swB view m xx) (if (m : Int) ≤ xx then 2 else tag) steps todo ∧ Below b w w' := by
  have hpb := pw_bd W hW
  have b1 := t[1].toNat_lt
  have b2 := t[2].toNat_lt
  have HX := hide (rvalue_any h t[1].toNat hx0 (by omega) (by omega) (by omega) hxc)
  rw [hxx] at HX
  have HY := hide (rvalue_any h t[2].toNat hy0 (by omega) (by omega) (by omega) hyc)
  rw [hyy] at HY
  have HT := hide (touch_any h hsl xx (by omega) (by omega) hv0 hv1 (by omega))
  have hn : n ≤ 100 := by omega
  have hnx : ¬ (m : Int) ≤ xx → n + xx < σ.length := by omega
  have HN := hide hnx
  clear hxx hxc hx0 hyy hyc hy0 b1 b2 hnx
  generalize hV : pw W = V at *
  have HV := hide hV
  clear hV hnm
  by_cases hm : (m : Int) ≤ xx
  · rw [if_pos hm] at HT ⊢
    rw [if_pos hm] at HT ⊢
    clear h
    go_enter Tryz.func91, Tryz.ntmps91
    go_wp2_with fail
    refine (unhide HX).mono ?_
    rintro e w' ⟨rfl, rfl⟩
    go_wp2_with fail
    refine (unhide HY).mono ?_
    rintro e w' ⟨rfl, rfl⟩
    go_wp2_with fail
    refine (unhide HT).mono ?_
    rintro e w2 ⟨rfl, hP2, hB2⟩
    go_wp2_with fail
    go_end0
    exact ⟨rfl, hP2, hB2⟩
  · rw [if_neg hm] at HT ⊢
    rw [if_neg hm] at HT ⊢
    clear h
    have hnx := unhide HN hm
    clear hm
    go_enter Tryz.func91, Tryz.ntmps91
    go_wp2_with fail
    refine (unhide HX).mono ?_
    rintro e w' ⟨rfl, rfl⟩
    go_wp2_with fail
    refine (unhide HY).mono ?_
    rintro e w' ⟨rfl, rfl⟩
    go_wp2_with fail
    refine (unhide HT).mono ?_
    rintro e w2 ⟨rfl, hP2, hB2⟩
    obtain ⟨stv, snv, hP, hT, hS, hX⟩ := hP2
    obtain ⟨g, cap, rfl, hg⟩ := hT.form (by rintro rfl; simp at hnx)
    obtain ⟨m0, m1, m2, m3, m4, m5, m6, m7, m8, m9, mf⟩ := hP.thirteen
    have fS := hT.fz (n + xx)
    have cW := hT.cell (n + xx) hnx
    generalize σ.getD (n + xx) 0 = r at *
    have hwl : (n : Int) + (xx : Int) < (σ.length : Int) := by omega
    have hwr : IntKind.i64.wrap ((n : Int) + (xx : Int)) = (n : Int) + (xx : Int) := by rw [IntKind.wrap_i64]; omega
    have hp0 : (0 : Int) ≤ (n : Int) + (xx : Int) := by omega
    have hp2 : ((n : Int) + (xx : Int)).toNat = n + xx := by omega
    go_wp2_with fail
    go_end0
    exact ⟨rfl, pls_put hP hT hS hX hg (n + xx) yy, hB2.setCell (Nat.le_of_lt hg) _⟩
end
end Go.Proofs.YtnkbfdbbcaffmaaGreatDoor
