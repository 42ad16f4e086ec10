/-
  set.
-/
import Derived.Test.YtfolokhilkffcaaGreatPl3
import Derived.Deep.RegionHeld3
import Derived.BigRegion
namespace Go.Proofs.YtfolokhilkffcaaGreat
open Go.RowKit

section
variable {w w' : World} {b : Nat} {W : Nat} {n m : Nat} {st : Int} {ks : ByteArray} {view : Int} {tag steps : Int} {todo : ByteArray} {σ sn : List Int}

theorem Pl.drewN {N : Int} {stv snv : Value} (h : Pl w b N n m st ks view stv snv tag steps todo) (k : Nat) : Pl (w.drewN k) b N n m st ks view stv snv tag steps todo := h
theorem Sr.drewN {stv : Value} (h : Sr w b stv σ) (k : Nat) : Sr (w.drewN k) b stv σ := h
theorem pls_put {N : Int} {snv : Value} {g cap : Nat} (hP : Pl w b N n m st ks view (.slice (some ⟨g, 0, none⟩) σ.length cap) snv tag steps todo) (hT : Sr w b (.slice (some ⟨g, 0, none⟩) σ.length cap) σ) (hS : Sn w b snv sn) (hg : b < g) (i : Nat) (r : Int) :
    PlS (w.setCell ⟨g, i, none⟩ (.int .i64 r)).drew b N n m st ks view (σ.set i r) sn tag steps todo := by
  refine ⟨.slice (some ⟨g, 0, none⟩) σ.length cap, snv, ?_, ?_, ?_⟩
  · exact At.drew (At.other hP _ (by show g ≠ b; omega))
  · exact hT.put i r
  · exact Sn.putS hS hT i _
theorem below_put (b g i : Nat) (r : Value) (hg : b < g) (h : Below b w w') : Below b w (w'.setCell ⟨g, i, none⟩ r).drew := below_drewN (h.setCell (Nat.le_of_lt hg) _) 1

set_option maxHeartbeats 4000000 in
theorem rset_plain (h : PlS w b (pw W) n m st ks view σ sn tag steps todo) (hW : W ≤ 8) (t : ByteArray) (h1 : 1 < t.size) (h2 : 2 < t.size) (h3 : 3 < t.size) (h4 : 4 < t.size) (var xx yy : Nat) (op : Int)
    (hv : (t[1].toNat : Int) = 97 + var) (hvl : var < σ.length) (hx0 : 48 ≤ (t[2].toNat : Int)) (hy0 : 48 ≤ (t[4].toNat : Int)) (hxc : 97 ≤ (t[2].toNat : Int) → ((t[2].toNat : Int) - 97).toNat < σ.length) (hyc : 97 ≤ (t[4].toNat : Int) → ((t[4].toNat : Int) - 97).toNat < σ.length)
    (hxx : vb (pw W) σ t[2].toNat = xx) (hyy : vb (pw W) σ t[4].toNat = yy) (hx1 : (xx : Int) < pw W) (hy1 : (yy : Int) < pw W) (hop : (t[3].toNat : Int) = op) (ho : isOp op = true) (hnd : isDiv op = false) :
    Calls Tryz.prog 86 #[.pointer (some ⟨b, 0, none⟩), .string t] w fun e w' => e = .returned (.tuple #[]) ∧ PlS w' b (pw W) n m st ks view (σ.set var (opr (pw W) op xx yy)) sn tag steps todo ∧ Below b w w' := by
  have hpb := pw_bd W hW
  have Hc := hide (fun w0 => calc_any W op xx yy hx1 hy1 hW (fun e => by rw [hnd] at e; cases e) ho w0)
  have b1 := t[1].toNat_lt
  have b2 := t[2].toNat_lt
  have b4 := t[4].toNat_lt
  have HX := hide (fun w0 (h0 : PlS w0 b (pw W) n m st ks view σ sn tag steps todo) => rvalue_any h0 t[2].toNat hx0 (by omega) (by omega) (by omega) hxc)
  have HY := hide (fun w0 (h0 : PlS w0 b (pw W) n m st ks view σ sn tag steps todo) => rvalue_any h0 t[4].toNat hy0 (by omega) (by omega) (by omega) hyc)
  rw [hxx] at HX
  rw [hyy] at HY
  clear hxx hyy hxc hyc hx0 hy0 b2 b4
  have n47 : (op == 47) = false := by
    cases e : op == 47 with
    | false => rfl
    | true => simp [isDiv] at hnd; simp at e; omega
  have n37 : (op == 37) = false := by
    cases e : op == 37 with
    | false => rfl
    | true => simp [isDiv] at hnd; simp at e; omega
  clear ho hnd
  generalize hr : opr (pw W) op xx yy = r at *
  have Hr := hide hr
  clear hr
  generalize hV : pw W = V at *
  have HV := hide hV
  clear hV
  have HP := hide h
  obtain ⟨stv, snv, hP, hT, hS⟩ := h
  obtain ⟨g, cap, rfl, hg⟩ := hT.form (by rintro rfl; simp at hvl)
  obtain ⟨m0, m1, m2, m3, m4, m5, m6, m7, m8, m9, mf⟩ := hP.thirteen
  generalize hv1 : (t[1].toNat : Int) = c1 at *
  have hw1 : IntKind.i64.wrap c1 = c1 := by rw [IntKind.wrap_i64]; omega
  have hw2 : c1 - 97 = (var : Int) := by omega
  have hw3 : IntKind.i64.wrap (var : Int) = (var : Int) := by rw [IntKind.wrap_i64]; omega
  clear hv
  go_enter Tryz.func86, Tryz.ntmps86
  go_wp2_with fail
  refine (unhide HX _ (unhide HP)).mono ?_
  rintro e w' ⟨rfl, rfl⟩
  go_wp2_with fail
  refine (unhide HY _ (unhide HP)).mono ?_
  rintro e w' ⟨rfl, rfl⟩
  go_wp2_with fail
  have cS := hT.cell var hvl
  have fS := hT.fz var
  have hvi : (var : Int) < (σ.length : Int) := by omega
  go_region_held3 (fun w' => w'.cell? ⟨b, 0, none⟩ = some (.int .i64 V) ∧ w'.cell? ⟨b, 6, none⟩ = some (.slice (some ⟨g, 0, none⟩) σ.length cap)) (first | assumption | go_keep)
    ((go_at_call 101; refine (unhide Hc _).mono ?_; rintro e w4 ⟨rfl, rfl⟩; have hP4 := Pl.drewN hP 1; have hT4 := Sr.drewN hT 1; have hcS4 := hT4.cell var hvl; have hfS4 := hT4.fz var; obtain ⟨q0, q1, q2, q3, q4, q5, q6, q7, q8, q9, qf⟩ := hP4.thirteen; have hS4 := And.intro q0 q5; have hP5 := At.other hP4 (a := ⟨g, var, none⟩) (.int .i64 r) (by show g ≠ b; omega); obtain ⟨t0, t1, t2, t3, t4, t5, t6, t7, t8, t9, tf⟩ := Pl.thirteen hP5; have hS5 := And.intro t0 t5))
  all_goals
    go_wp2_with fail
    go_end0
    exact ⟨rfl, pls_put hP hT hS hg var r, below_put b g var _ hg (Below.refl b _)⟩

set_option maxHeartbeats 4000000 in
theorem rset_div (h : PlS w b (pw W) n m st ks view σ sn tag steps todo) (hW : W ≤ 8) (t : ByteArray) (h1 : 1 < t.size) (h2 : 2 < t.size) (h3 : 3 < t.size) (h4 : 4 < t.size) (var xx yy : Nat) (op : Int)
    (hv : (t[1].toNat : Int) = 97 + var) (hvl : var < σ.length) (hx0 : 48 ≤ (t[2].toNat : Int)) (hy0 : 48 ≤ (t[4].toNat : Int)) (hxc : 97 ≤ (t[2].toNat : Int) → ((t[2].toNat : Int) - 97).toNat < σ.length) (hyc : 97 ≤ (t[4].toNat : Int) → ((t[4].toNat : Int) - 97).toNat < σ.length)
    (hxx : vb (pw W) σ t[2].toNat = xx) (hyy : vb (pw W) σ t[4].toNat = yy) (hx1 : (xx : Int) < pw W) (hy1 : (yy : Int) < pw W) (hop : (t[3].toNat : Int) = op) (ho : isOp op = true) (hnd : isDiv op = true) (hnz : yy ≠ 0) (hsl : sn.length ≤ 90000) :
    Calls Tryz.prog 86 #[.pointer (some ⟨b, 0, none⟩), .string t] w fun e w' => e = .returned (.tuple #[]) ∧ PlS w' b (pw W) n m st ks view (σ.set var (opr (pw W) op xx yy)) (sn ++ sdB view xx yy) tag steps todo ∧ Below b w w' := by
  have hpb := pw_bd W hW
  have Hc := hide (fun w0 => calc_any W op xx yy hx1 hy1 hW (fun _ => hnz) ho w0)
  have b1 := t[1].toNat_lt
  have b2 := t[2].toNat_lt
  have b4 := t[4].toNat_lt
  have HX := hide (fun w0 (h0 : PlS w0 b (pw W) n m st ks view σ sn tag steps todo) => rvalue_any h0 t[2].toNat hx0 (by omega) (by omega) (by omega) hxc)
  have HY := hide (fun w0 (h0 : PlS w0 b (pw W) n m st ks view σ sn tag steps todo) => rvalue_any h0 t[4].toNat hy0 (by omega) (by omega) (by omega) hyc)
  rw [hxx] at HX
  rw [hyy] at HY
  clear hxx hyy hxc hyc hx0 hy0 b2 b4
  have hbx := btc_bd 8 (xx : Int)
  have hby := btc_bd 8 (yy : Int)
  have hfin : sdB view xx yy = (if (yy : Int) = 0 then [120] else [118]) ++ (if view = 1 then [hxd (btc 8 xx)] ++ [hxd (btc 8 yy)] else []) := rfl
  have hbxe : hxd (btc 8 xx) = 48 + btc 8 xx := by unfold hxd; rw [if_pos (by omega)]
  have hbye : hxd (btc 8 yy) = 48 + btc 8 yy := by unfold hxd; rw [if_pos (by omega)]
  rw [hbxe, hbye] at hfin
  clear hbxe hbye
  generalize hqx : btc 8 (xx : Int) = bx at *
  generalize hqy : btc 8 (yy : Int) = b2 at *
  have Hx := hide hqx
  have Hy := hide hqy
  clear hqx hqy
  rw [if_neg (by omega)] at hfin
  have hyb : ((yy : Int) == 0) = false := by simpa using hnz
  have hwx : IntKind.u8.wrap (48 + bx) = 48 + bx := by rw [IntKind.wrap_u8]; omega
  have hwy : IntKind.u8.wrap (48 + b2) = 48 + b2 := by rw [IntKind.wrap_u8]; omega
  generalize hr : opr (pw W) op xx yy = r at *
  have Hr := hide hr
  clear hr
  generalize hV : pw W = V at *
  have HV := hide hV
  clear hV
  have HP := hide h
  have hP0 := h
  obtain ⟨m0, m1, m2, m3, m4, m5, m6, m7, m8, m9, mf⟩ := h.thirteen
  generalize hv1 : (t[1].toNat : Int) = c1 at *
  have hw1 : IntKind.i64.wrap c1 = c1 := by rw [IntKind.wrap_i64]; omega
  have hw2 : c1 - 97 = (var : Int) := by omega
  have hw3 : IntKind.i64.wrap (var : Int) = (var : Int) := by rw [IntKind.wrap_i64]; omega
  clear hv
  clear hnz h
  clear ho
  simp [isDiv] at hnd
  rcases hnd with rfl | rfl
  · by_cases ht : view = 1
    · rw [if_pos ht] at hfin
      have hfin2 : sn ++ sdB view xx yy = sn ++ [118] ++ [48 + bx] ++ [48 + b2] := by rw [hfin]; simp
      have Hfin := hide hfin2
      have hvb : (view == 1) = true := by simpa using ht
      clear hfin hfin2 ht
      go_enter Tryz.func86, Tryz.ntmps86
      go_wp2_with fail
      refine (unhide HX _ (unhide HP)).mono ?_
      rintro e w' ⟨rfl, rfl⟩
      go_wp2_with fail
      refine (unhide HY _ (unhide HP)).mono ?_
      rintro e w' ⟨rfl, rfl⟩
      go_wp2_with fail
      refine (told_any hP0 (by omega) 118).mono ?_
      rintro e w1 ⟨rfl, hP1, hB1⟩
      clear m0 m1 m2 m3 m4 m5 m6 m7 m8 m9 mf
      obtain ⟨m0, m1, m2, m3, m4, m5, m6, m7, m8, m9, mf⟩ := hP1.thirteen
      go_wp2_with fail
      refine (rbits_any xx (by omega) (by omega) _).mono ?_
      rintro e w' ⟨rfl, rfl⟩
      rw [unhide Hx]
      go_wp2_with fail
      refine (rbits_any yy (by omega) (by omega) _).mono ?_
      rintro e w' ⟨rfl, rfl⟩
      rw [unhide Hy]
      go_wp2_with fail
      refine (told_any hP1 (by rw [List.length_append]; simp; omega) _).mono ?_
      rintro e w2 ⟨rfl, hP2, hB2⟩
      clear m0 m1 m2 m3 m4 m5 m6 m7 m8 m9 mf
      obtain ⟨m0, m1, m2, m3, m4, m5, m6, m7, m8, m9, mf⟩ := hP2.thirteen
      go_wp2_with fail
      refine (told_any hP2 (by rw [List.length_append, List.length_append]; simp; omega) _).mono ?_
      rintro e w3 ⟨rfl, hP3, hB3⟩
      clear m0 m1 m2 m3 m4 m5 m6 m7 m8 m9 mf
      obtain ⟨m0, m1, m2, m3, m4, m5, m6, m7, m8, m9, mf⟩ := hP3.thirteen
      go_wp2_with fail
      have hPL := hP3
      obtain ⟨stv, snv, hP, hT, hS⟩ := hPL
      obtain ⟨g, cap, rfl, hg⟩ := hT.form (by rintro rfl; simp at hvl)
      clear m0 m1 m2 m3 m4 m5 m6 m7 m8 m9 mf
      obtain ⟨m0, m1, m2, m3, m4, m5, m6, m7, m8, m9, mf⟩ := hP.thirteen
      have cS := hT.cell var hvl
      have fS := hT.fz var
      have hvi : (var : Int) < (σ.length : Int) := by omega
      go_region_held3 (fun w' => w'.cell? ⟨b, 0, none⟩ = some (.int .i64 V) ∧ w'.cell? ⟨b, 6, none⟩ = some (.slice (some ⟨g, 0, none⟩) σ.length cap)) (first | assumption | go_keep)
        ((go_at_call 101; refine (unhide Hc _).mono ?_; rintro e w4 ⟨rfl, rfl⟩; have hP4 := Pl.drewN hP 1; have hT4 := Sr.drewN hT 1; have hcS4 := hT4.cell var hvl; have hfS4 := hT4.fz var; obtain ⟨q0, q1, q2, q3, q4, q5, q6, q7, q8, q9, qf⟩ := hP4.thirteen; have hS4 := And.intro q0 q5; have hP5 := At.other hP4 (a := ⟨g, var, none⟩) (.int .i64 r) (by show g ≠ b; omega); obtain ⟨t0, t1, t2, t3, t4, t5, t6, t7, t8, t9, tf⟩ := Pl.thirteen hP5; have hS5 := And.intro t0 t5))
      all_goals
        go_wp2_with fail
        go_end0
        exact ⟨rfl, by rw [unhide Hfin]; exact pls_put hP hT hS hg var r, below_put b g var _ hg ((hB1.trans hB2).trans hB3)⟩
    · rw [if_neg ht] at hfin
      have hfin2 : sn ++ sdB view xx yy = sn ++ [118] := by rw [hfin]; simp
      have Hfin := hide hfin2
      have hvb : (view == 1) = false := by simpa using ht
      clear hfin hfin2 ht
      go_enter Tryz.func86, Tryz.ntmps86
      go_wp2_with fail
      refine (unhide HX _ (unhide HP)).mono ?_
      rintro e w' ⟨rfl, rfl⟩
      go_wp2_with fail
      refine (unhide HY _ (unhide HP)).mono ?_
      rintro e w' ⟨rfl, rfl⟩
      go_wp2_with fail
      refine (told_any hP0 (by omega) 118).mono ?_
      rintro e w1 ⟨rfl, hP1, hB1⟩
      clear m0 m1 m2 m3 m4 m5 m6 m7 m8 m9 mf
      obtain ⟨m0, m1, m2, m3, m4, m5, m6, m7, m8, m9, mf⟩ := hP1.thirteen
      go_wp2_with fail
      have hPL := hP1
      obtain ⟨stv, snv, hP, hT, hS⟩ := hPL
      obtain ⟨g, cap, rfl, hg⟩ := hT.form (by rintro rfl; simp at hvl)
      clear m0 m1 m2 m3 m4 m5 m6 m7 m8 m9 mf
      obtain ⟨m0, m1, m2, m3, m4, m5, m6, m7, m8, m9, mf⟩ := hP.thirteen
      have cS := hT.cell var hvl
      have fS := hT.fz var
      have hvi : (var : Int) < (σ.length : Int) := by omega
      go_region_held3 (fun w' => w'.cell? ⟨b, 0, none⟩ = some (.int .i64 V) ∧ w'.cell? ⟨b, 6, none⟩ = some (.slice (some ⟨g, 0, none⟩) σ.length cap)) (first | assumption | go_keep)
        ((go_at_call 101; refine (unhide Hc _).mono ?_; rintro e w4 ⟨rfl, rfl⟩; have hP4 := Pl.drewN hP 1; have hT4 := Sr.drewN hT 1; have hcS4 := hT4.cell var hvl; have hfS4 := hT4.fz var; obtain ⟨q0, q1, q2, q3, q4, q5, q6, q7, q8, q9, qf⟩ := hP4.thirteen; have hS4 := And.intro q0 q5; have hP5 := At.other hP4 (a := ⟨g, var, none⟩) (.int .i64 r) (by show g ≠ b; omega); obtain ⟨t0, t1, t2, t3, t4, t5, t6, t7, t8, t9, tf⟩ := Pl.thirteen hP5; have hS5 := And.intro t0 t5))
      all_goals
        go_wp2_with fail
        go_end0
        exact ⟨rfl, by rw [unhide Hfin]; exact pls_put hP hT hS hg var r, below_put b g var _ hg (hB1)⟩
  · by_cases ht : view = 1
    · rw [if_pos ht] at hfin
      have hfin2 : sn ++ sdB view xx yy = sn ++ [118] ++ [48 + bx] ++ [48 + b2] := by rw [hfin]; simp
      have Hfin := hide hfin2
      have hvb : (view == 1) = true := by simpa using ht
      clear hfin hfin2 ht
      go_enter Tryz.func86, Tryz.ntmps86
      go_wp2_with fail
      refine (unhide HX _ (unhide HP)).mono ?_
      rintro e w' ⟨rfl, rfl⟩
      go_wp2_with fail
      refine (unhide HY _ (unhide HP)).mono ?_
      rintro e w' ⟨rfl, rfl⟩
      go_wp2_with fail
      refine (told_any hP0 (by omega) 118).mono ?_
      rintro e w1 ⟨rfl, hP1, hB1⟩
      clear m0 m1 m2 m3 m4 m5 m6 m7 m8 m9 mf
      obtain ⟨m0, m1, m2, m3, m4, m5, m6, m7, m8, m9, mf⟩ := hP1.thirteen
      go_wp2_with fail
      refine (rbits_any xx (by omega) (by omega) _).mono ?_
      rintro e w' ⟨rfl, rfl⟩
      rw [unhide Hx]
      go_wp2_with fail
      refine (rbits_any yy (by omega) (by omega) _).mono ?_
      rintro e w' ⟨rfl, rfl⟩
      rw [unhide Hy]
      go_wp2_with fail
      refine (told_any hP1 (by rw [List.length_append]; simp; omega) _).mono ?_
      rintro e w2 ⟨rfl, hP2, hB2⟩
      clear m0 m1 m2 m3 m4 m5 m6 m7 m8 m9 mf
      obtain ⟨m0, m1, m2, m3, m4, m5, m6, m7, m8, m9, mf⟩ := hP2.thirteen
      go_wp2_with fail
      refine (told_any hP2 (by rw [List.length_append, List.length_append]; simp; omega) _).mono ?_
      rintro e w3 ⟨rfl, hP3, hB3⟩
      clear m0 m1 m2 m3 m4 m5 m6 m7 m8 m9 mf
      obtain ⟨m0, m1, m2, m3, m4, m5, m6, m7, m8, m9, mf⟩ := hP3.thirteen
      go_wp2_with fail
      have hPL := hP3
      obtain ⟨stv, snv, hP, hT, hS⟩ := hPL
      obtain ⟨g, cap, rfl, hg⟩ := hT.form (by rintro rfl; simp at hvl)
      clear m0 m1 m2 m3 m4 m5 m6 m7 m8 m9 mf
      obtain ⟨m0, m1, m2, m3, m4, m5, m6, m7, m8, m9, mf⟩ := hP.thirteen
      have cS := hT.cell var hvl
      have fS := hT.fz var
      have hvi : (var : Int) < (σ.length : Int) := by omega
      go_region_held3 (fun w' => w'.cell? ⟨b, 0, none⟩ = some (.int .i64 V) ∧ w'.cell? ⟨b, 6, none⟩ = some (.slice (some ⟨g, 0, none⟩) σ.length cap)) (first | assumption | go_keep)
        ((go_at_call 101; refine (unhide Hc _).mono ?_; rintro e w4 ⟨rfl, rfl⟩; have hP4 := Pl.drewN hP 1; have hT4 := Sr.drewN hT 1; have hcS4 := hT4.cell var hvl; have hfS4 := hT4.fz var; obtain ⟨q0, q1, q2, q3, q4, q5, q6, q7, q8, q9, qf⟩ := hP4.thirteen; have hS4 := And.intro q0 q5; have hP5 := At.other hP4 (a := ⟨g, var, none⟩) (.int .i64 r) (by show g ≠ b; omega); obtain ⟨t0, t1, t2, t3, t4, t5, t6, t7, t8, t9, tf⟩ := Pl.thirteen hP5; have hS5 := And.intro t0 t5))
      all_goals
        go_wp2_with fail
        go_end0
        exact ⟨rfl, by rw [unhide Hfin]; exact pls_put hP hT hS hg var r, below_put b g var _ hg ((hB1.trans hB2).trans hB3)⟩
    · rw [if_neg ht] at hfin
      have hfin2 : sn ++ sdB view xx yy = sn ++ [118] := by rw [hfin]; simp
      have Hfin := hide hfin2
      have hvb : (view == 1) = false := by simpa using ht
      clear hfin hfin2 ht
      go_enter Tryz.func86, Tryz.ntmps86
      go_wp2_with fail
      refine (unhide HX _ (unhide HP)).mono ?_
      rintro e w' ⟨rfl, rfl⟩
      go_wp2_with fail
      refine (unhide HY _ (unhide HP)).mono ?_
      rintro e w' ⟨rfl, rfl⟩
      go_wp2_with fail
      refine (told_any hP0 (by omega) 118).mono ?_
      rintro e w1 ⟨rfl, hP1, hB1⟩
      clear m0 m1 m2 m3 m4 m5 m6 m7 m8 m9 mf
      obtain ⟨m0, m1, m2, m3, m4, m5, m6, m7, m8, m9, mf⟩ := hP1.thirteen
      go_wp2_with fail
      have hPL := hP1
      obtain ⟨stv, snv, hP, hT, hS⟩ := hPL
      obtain ⟨g, cap, rfl, hg⟩ := hT.form (by rintro rfl; simp at hvl)
      clear m0 m1 m2 m3 m4 m5 m6 m7 m8 m9 mf
      obtain ⟨m0, m1, m2, m3, m4, m5, m6, m7, m8, m9, mf⟩ := hP.thirteen
      have cS := hT.cell var hvl
      have fS := hT.fz var
      have hvi : (var : Int) < (σ.length : Int) := by omega
      go_region_held3 (fun w' => w'.cell? ⟨b, 0, none⟩ = some (.int .i64 V) ∧ w'.cell? ⟨b, 6, none⟩ = some (.slice (some ⟨g, 0, none⟩) σ.length cap)) (first | assumption | go_keep)
        ((go_at_call 101; refine (unhide Hc _).mono ?_; rintro e w4 ⟨rfl, rfl⟩; have hP4 := Pl.drewN hP 1; have hT4 := Sr.drewN hT 1; have hcS4 := hT4.cell var hvl; have hfS4 := hT4.fz var; obtain ⟨q0, q1, q2, q3, q4, q5, q6, q7, q8, q9, qf⟩ := hP4.thirteen; have hS4 := And.intro q0 q5; have hP5 := At.other hP4 (a := ⟨g, var, none⟩) (.int .i64 r) (by show g ≠ b; omega); obtain ⟨t0, t1, t2, t3, t4, t5, t6, t7, t8, t9, tf⟩ := Pl.thirteen hP5; have hS5 := And.intro t0 t5))
      all_goals
        go_wp2_with fail
        go_end0
        exact ⟨rfl, by rw [unhide Hfin]; exact pls_put hP hT hS hg var r, below_put b g var _ hg (hB1)⟩

set_option maxHeartbeats 4000000 in
theorem rset_trap (h : PlS w b (pw W) n m st ks view σ sn tag steps todo) (hW : W ≤ 8) (t : ByteArray) (h2 : 2 < t.size) (h3 : 3 < t.size) (h4 : 4 < t.size) (xx yy : Nat) (op : Int)
    (hx0 : 48 ≤ (t[2].toNat : Int)) (hy0 : 48 ≤ (t[4].toNat : Int)) (hxc : 97 ≤ (t[2].toNat : Int) → ((t[2].toNat : Int) - 97).toNat < σ.length) (hyc : 97 ≤ (t[4].toNat : Int) → ((t[4].toNat : Int) - 97).toNat < σ.length)
    (hxx : vb (pw W) σ t[2].toNat = xx) (hyy : vb (pw W) σ t[4].toNat = yy) (hx1 : (xx : Int) < pw W) (hy1 : (yy : Int) < pw W) (hop : (t[3].toNat : Int) = op) (hnd : isDiv op = true) (hnz : yy = 0) (hsl : sn.length ≤ 90000) :
    Calls Tryz.prog 86 #[.pointer (some ⟨b, 0, none⟩), .string t] w fun e w' => e = .returned (.tuple #[]) ∧ PlS w' b (pw W) n m st ks view σ (sn ++ sdB view xx yy) 2 steps todo ∧ Below b w w' := by
  have hpb := pw_bd W hW
  have b2 := t[2].toNat_lt
  have b4 := t[4].toNat_lt
  have HX := hide (fun w0 (h0 : PlS w0 b (pw W) n m st ks view σ sn tag steps todo) => rvalue_any h0 t[2].toNat hx0 (by omega) (by omega) (by omega) hxc)
  have HY := hide (fun w0 (h0 : PlS w0 b (pw W) n m st ks view σ sn tag steps todo) => rvalue_any h0 t[4].toNat hy0 (by omega) (by omega) (by omega) hyc)
  rw [hxx] at HX
  rw [hyy] at HY
  clear hxx hyy hxc hyc hx0 hy0 b2 b4
  have hbx := btc_bd 8 (xx : Int)
  have hby := btc_bd 8 (yy : Int)
  have hfin : sdB view xx yy = (if (yy : Int) = 0 then [120] else [118]) ++ (if view = 1 then [hxd (btc 8 xx)] ++ [hxd (btc 8 yy)] else []) := rfl
  have hbxe : hxd (btc 8 xx) = 48 + btc 8 xx := by unfold hxd; rw [if_pos (by omega)]
  have hbye : hxd (btc 8 yy) = 48 + btc 8 yy := by unfold hxd; rw [if_pos (by omega)]
  rw [hbxe, hbye] at hfin
  clear hbxe hbye
  generalize hqx : btc 8 (xx : Int) = bx at *
  generalize hqy : btc 8 (yy : Int) = b2 at *
  have Hx := hide hqx
  have Hy := hide hqy
  clear hqx hqy
  rw [if_pos (by omega)] at hfin
  have hyb : ((yy : Int) == 0) = true := by simpa using hnz
  have hwx : IntKind.u8.wrap (48 + bx) = 48 + bx := by rw [IntKind.wrap_u8]; omega
  have hwy : IntKind.u8.wrap (48 + b2) = 48 + b2 := by rw [IntKind.wrap_u8]; omega
  generalize hV : pw W = V at *
  have HV := hide hV
  clear hV
  have HP := hide h
  have hP0 := h
  obtain ⟨m0, m1, m2, m3, m4, m5, m6, m7, m8, m9, mf⟩ := h.thirteen
  clear hnz h
  simp [isDiv] at hnd
  rcases hnd with rfl | rfl
  · by_cases ht : view = 1
    · rw [if_pos ht] at hfin
      have hfin2 : sn ++ sdB view xx yy = sn ++ [120] ++ [48 + bx] ++ [48 + b2] := by rw [hfin]; simp
      have Hfin := hide hfin2
      have hvb : (view == 1) = true := by simpa using ht
      clear hfin hfin2 ht
      go_enter Tryz.func86, Tryz.ntmps86
      go_wp2_with fail
      refine (unhide HX _ (unhide HP)).mono ?_
      rintro e w' ⟨rfl, rfl⟩
      go_wp2_with fail
      refine (unhide HY _ (unhide HP)).mono ?_
      rintro e w' ⟨rfl, rfl⟩
      go_wp2_with fail
      refine (told_any hP0 (by omega) 120).mono ?_
      rintro e w1 ⟨rfl, hP1, hB1⟩
      clear m0 m1 m2 m3 m4 m5 m6 m7 m8 m9 mf
      obtain ⟨m0, m1, m2, m3, m4, m5, m6, m7, m8, m9, mf⟩ := hP1.thirteen
      have hP1t := hP1.setTag 2
      have hB1t : Below b _ (w1.setCell ⟨b, 8, none⟩ (.int .i64 2)) := hB1.setCell (Nat.le_refl _) _
      clear m0 m1 m2 m3 m4 m5 m6 m7 m8 m9 mf
      obtain ⟨m0, m1, m2, m3, m4, m5, m6, m7, m8, m9, mf⟩ := hP1.thirteen
      go_wp2_with fail
      refine (rbits_any xx (by omega) (by omega) _).mono ?_
      rintro e w' ⟨rfl, rfl⟩
      rw [unhide Hx]
      go_wp2_with fail
      refine (rbits_any yy (by omega) (by omega) _).mono ?_
      rintro e w' ⟨rfl, rfl⟩
      rw [unhide Hy]
      go_wp2_with fail
      refine (told_any hP1t (by rw [List.length_append]; simp; omega) _).mono ?_
      rintro e w2 ⟨rfl, hP2, hB2⟩
      clear m0 m1 m2 m3 m4 m5 m6 m7 m8 m9 mf
      obtain ⟨m0, m1, m2, m3, m4, m5, m6, m7, m8, m9, mf⟩ := hP2.thirteen
      go_wp2_with fail
      refine (told_any hP2 (by rw [List.length_append, List.length_append]; simp; omega) _).mono ?_
      rintro e w3 ⟨rfl, hP3, hB3⟩
      clear m0 m1 m2 m3 m4 m5 m6 m7 m8 m9 mf
      obtain ⟨m0, m1, m2, m3, m4, m5, m6, m7, m8, m9, mf⟩ := hP3.thirteen
      go_wp2_with fail
      refine bodyPost_ret (results_none rfl _ _ _) rfl ?_
      exact ⟨rfl, by rw [unhide Hfin]; exact hP3, (hB1t.trans hB2).trans hB3⟩
    · rw [if_neg ht] at hfin
      have hfin2 : sn ++ sdB view xx yy = sn ++ [120] := by rw [hfin]; simp
      have Hfin := hide hfin2
      have hvb : (view == 1) = false := by simpa using ht
      clear hfin hfin2 ht
      go_enter Tryz.func86, Tryz.ntmps86
      go_wp2_with fail
      refine (unhide HX _ (unhide HP)).mono ?_
      rintro e w' ⟨rfl, rfl⟩
      go_wp2_with fail
      refine (unhide HY _ (unhide HP)).mono ?_
      rintro e w' ⟨rfl, rfl⟩
      go_wp2_with fail
      refine (told_any hP0 (by omega) 120).mono ?_
      rintro e w1 ⟨rfl, hP1, hB1⟩
      clear m0 m1 m2 m3 m4 m5 m6 m7 m8 m9 mf
      obtain ⟨m0, m1, m2, m3, m4, m5, m6, m7, m8, m9, mf⟩ := hP1.thirteen
      have hP1t := hP1.setTag 2
      have hB1t : Below b _ (w1.setCell ⟨b, 8, none⟩ (.int .i64 2)) := hB1.setCell (Nat.le_refl _) _
      clear m0 m1 m2 m3 m4 m5 m6 m7 m8 m9 mf
      obtain ⟨m0, m1, m2, m3, m4, m5, m6, m7, m8, m9, mf⟩ := hP1.thirteen
      go_wp2_with fail
      refine bodyPost_ret (results_none rfl _ _ _) rfl ?_
      exact ⟨rfl, by rw [unhide Hfin]; exact hP1t, hB1t⟩
  · by_cases ht : view = 1
    · rw [if_pos ht] at hfin
      have hfin2 : sn ++ sdB view xx yy = sn ++ [120] ++ [48 + bx] ++ [48 + b2] := by rw [hfin]; simp
      have Hfin := hide hfin2
      have hvb : (view == 1) = true := by simpa using ht
      clear hfin hfin2 ht
      go_enter Tryz.func86, Tryz.ntmps86
      go_wp2_with fail
      refine (unhide HX _ (unhide HP)).mono ?_
      rintro e w' ⟨rfl, rfl⟩
      go_wp2_with fail
      refine (unhide HY _ (unhide HP)).mono ?_
      rintro e w' ⟨rfl, rfl⟩
      go_wp2_with fail
      refine (told_any hP0 (by omega) 120).mono ?_
      rintro e w1 ⟨rfl, hP1, hB1⟩
      clear m0 m1 m2 m3 m4 m5 m6 m7 m8 m9 mf
      obtain ⟨m0, m1, m2, m3, m4, m5, m6, m7, m8, m9, mf⟩ := hP1.thirteen
      have hP1t := hP1.setTag 2
      have hB1t : Below b _ (w1.setCell ⟨b, 8, none⟩ (.int .i64 2)) := hB1.setCell (Nat.le_refl _) _
      clear m0 m1 m2 m3 m4 m5 m6 m7 m8 m9 mf
      obtain ⟨m0, m1, m2, m3, m4, m5, m6, m7, m8, m9, mf⟩ := hP1.thirteen
      go_wp2_with fail
      refine (rbits_any xx (by omega) (by omega) _).mono ?_
      rintro e w' ⟨rfl, rfl⟩
      rw [unhide Hx]
      go_wp2_with fail
      refine (rbits_any yy (by omega) (by omega) _).mono ?_
      rintro e w' ⟨rfl, rfl⟩
      rw [unhide Hy]
      go_wp2_with fail
      refine (told_any hP1t (by rw [List.length_append]; simp; omega) _).mono ?_
      rintro e w2 ⟨rfl, hP2, hB2⟩
      clear m0 m1 m2 m3 m4 m5 m6 m7 m8 m9 mf
      obtain ⟨m0, m1, m2, m3, m4, m5, m6, m7, m8, m9, mf⟩ := hP2.thirteen
      go_wp2_with fail
      refine (told_any hP2 (by rw [List.length_append, List.length_append]; simp; omega) _).mono ?_
      rintro e w3 ⟨rfl, hP3, hB3⟩
      clear m0 m1 m2 m3 m4 m5 m6 m7 m8 m9 mf
      obtain ⟨m0, m1, m2, m3, m4, m5, m6, m7, m8, m9, mf⟩ := hP3.thirteen
      go_wp2_with fail
      refine bodyPost_ret (results_none rfl _ _ _) rfl ?_
      exact ⟨rfl, by rw [unhide Hfin]; exact hP3, (hB1t.trans hB2).trans hB3⟩
    · rw [if_neg ht] at hfin
      have hfin2 : sn ++ sdB view xx yy = sn ++ [120] := by rw [hfin]; simp
      have Hfin := hide hfin2
      have hvb : (view == 1) = false := by simpa using ht
      clear hfin hfin2 ht
      go_enter Tryz.func86, Tryz.ntmps86
      go_wp2_with fail
      refine (unhide HX _ (unhide HP)).mono ?_
      rintro e w' ⟨rfl, rfl⟩
      go_wp2_with fail
      refine (unhide HY _ (unhide HP)).mono ?_
      rintro e w' ⟨rfl, rfl⟩
      go_wp2_with fail
      refine (told_any hP0 (by omega) 120).mono ?_
      rintro e w1 ⟨rfl, hP1, hB1⟩
      clear m0 m1 m2 m3 m4 m5 m6 m7 m8 m9 mf
      obtain ⟨m0, m1, m2, m3, m4, m5, m6, m7, m8, m9, mf⟩ := hP1.thirteen
      have hP1t := hP1.setTag 2
      have hB1t : Below b _ (w1.setCell ⟨b, 8, none⟩ (.int .i64 2)) := hB1.setCell (Nat.le_refl _) _
      clear m0 m1 m2 m3 m4 m5 m6 m7 m8 m9 mf
      obtain ⟨m0, m1, m2, m3, m4, m5, m6, m7, m8, m9, mf⟩ := hP1.thirteen
      go_wp2_with fail
      refine bodyPost_ret (results_none rfl _ _ _) rfl ?_
      exact ⟨rfl, by rw [unhide Hfin]; exact hP1t, hB1t⟩
end
end Go.Proofs.YtfolokhilkffcaaGreat
