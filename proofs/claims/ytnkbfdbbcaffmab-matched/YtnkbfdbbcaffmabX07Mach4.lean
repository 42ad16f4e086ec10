import Derived.Test.YtnkbfdbbcaffmabX06Mach3
/-
  The machine's load, store, test, step.
-/
namespace Go.Proofs.Ytnkbfdbbcaffmab
open Go.RowKit

section
variable {w : World} {b gs : Nat} {W : Nat} {view : Int} {n m : Nat} {σ : List Int} {sv : Value} {sn : List Int} {steps : ByteArray × Value}

set_option maxHeartbeats 4000000 in
theorem mload_trap (hM : Mac w b gs W (pw W) n m view σ sv steps false) (hS : Sn w b sv sn) (hW : W ≤ 8) (hfit : Fits (pw W) σ) (hn : n ≤ σ.length) (hsl : sn.length ≤ 90000) (hv0 : 0 ≤ view) (hv1 : view ≤ 8)
    (k : Int) (var xv yv : Nat) (xn yn : Bool) (op yes no sec beh : Int) (hx : OpOK (pw W) n xn xv) (HXC : (m : Int) ≤ vl σ xn xv) :
    Calls Try.prog 90 #[.pointer (some ⟨b, 0, none⟩), .agg #[.int .u8 k, .int .i64 var, .bool xn, .int .i64 xv, .int .u8 op, .bool yn, .int .i64 yv, .int .i64 yes, .int .i64 no, .int .i64 sec, .int .i64 beh]] w fun e w' => e = .returned (.tuple #[]) ∧ ∃ sv', Mac w' b gs W (pw W) n m view σ sv' steps true ∧ Sn w' b sv' (sn ++ swB view m (vl σ xn xv)) ∧ Fr gs b w w' := by
  have bx := vl_bd hfit hx hn
  have hpb := pw_bd W hW
  have hbl : b < w.heap.size := hM.1.lt
  have hgl := hM.2.2
  have hM1 : ∀ o, Mac (w.alloc o) b gs W (pw W) n m view σ sv steps false := fun o => hM.alloc o
  have hA := At.new w 74 #[.int .u8 k, .int .i64 var, .bool xn, .int .i64 xv, .int .u8 op, .bool yn, .int .i64 yv, .int .i64 yes, .int .i64 no, .int .i64 sec, .int .i64 beh]
  have HA := hide hA
  clear hA
  obtain ⟨xx, hxx⟩ : ∃ xx : Nat, vl σ xn xv = (xx : Int) := ⟨(vl σ xn xv).toNat, by omega⟩
  rw [hxx] at bx HXC
  rw [hxx]
  unfold vl at hxx
  have Hx := hide hxx
  clear hxx
  generalize hV : pw W = V at *
  clear hV
  go_enter Try.func90, Try.ntmps90
  go_wp2_with fail
  refine (mvalue_any (hM1 _) xn xv (fun e => by have := hx.1 e; omega)).mono ?_
  rintro e w2 ⟨rfl, hF2, hg2⟩
  rw [unhide Hx]
  have hA2 := At.grown (unhide HA) hg2 (by simp)
  have hM2 := Mac.grown (hM1 _) hg2
  have hS2 := Sn.grown (Sn.alloc hS _) hg2
  have hF := ((Fr.refl gs b w).alloc (by omega) _).trans hF2
  obtain ⟨d0, d1, d2, d3, d4, d5, d6, d7, d8, d9, d10, df⟩ := At.elv hA2
  obtain ⟨m0, m1, m2, m3, m4, m5, m6, m7, m8, mt, mf⟩ := hM2.nine
  go_wp2_with fail
  refine (seeWord_any hM2 hS2 hsl xx (by omega) (by omega) hv0 hv1).mono ?_
  rintro e w3 ⟨rfl, sv3, hM3, hS3, hF3⟩
  rw [if_pos HXC] at hM3
  have hA3 := hF3.at_ hA2 (by decide) (by have := hM2.2.1.lt; omega) (by omega)
  have hF := hF.trans hF3
  clear d0 d1 d2 d3 d4 d5 d6 d7 d8 d9 d10 df m0 m1 m2 m3 m4 m5 m6 m7 m8 mt mf
  obtain ⟨d0, d1, d2, d3, d4, d5, d6, d7, d8, d9, d10, df⟩ := At.elv hA3
  obtain ⟨m0, m1, m2, m3, m4, m5, m6, m7, m8, mt, mf⟩ := hM3.nine
  go_wp2_with fail
  go_end0
  exact ⟨rfl, _, hM3, hS3, hF⟩

set_option maxHeartbeats 4000000 in
theorem mstore_trap (hM : Mac w b gs W (pw W) n m view σ sv steps false) (hS : Sn w b sv sn) (hW : W ≤ 8) (hfit : Fits (pw W) σ) (hn : n ≤ σ.length) (hsl : sn.length ≤ 90000) (hv0 : 0 ≤ view) (hv1 : view ≤ 8)
    (k : Int) (var xv yv : Nat) (xn yn : Bool) (op yes no sec beh : Int) (hx : OpOK (pw W) n xn xv) (HXC : (m : Int) ≤ vl σ xn xv) :
    Calls Try.prog 91 #[.pointer (some ⟨b, 0, none⟩), .agg #[.int .u8 k, .int .i64 var, .bool xn, .int .i64 xv, .int .u8 op, .bool yn, .int .i64 yv, .int .i64 yes, .int .i64 no, .int .i64 sec, .int .i64 beh]] w fun e w' => e = .returned (.tuple #[]) ∧ ∃ sv', Mac w' b gs W (pw W) n m view σ sv' steps true ∧ Sn w' b sv' (sn ++ swB view m (vl σ xn xv)) ∧ Fr gs b w w' := by
  have bx := vl_bd hfit hx hn
  have hpb := pw_bd W hW
  have hbl : b < w.heap.size := hM.1.lt
  have hgl := hM.2.2
  have hM1 : ∀ o, Mac (w.alloc o) b gs W (pw W) n m view σ sv steps false := fun o => hM.alloc o
  have hA := At.new w 74 #[.int .u8 k, .int .i64 var, .bool xn, .int .i64 xv, .int .u8 op, .bool yn, .int .i64 yv, .int .i64 yes, .int .i64 no, .int .i64 sec, .int .i64 beh]
  have HA := hide hA
  clear hA
  obtain ⟨xx, hxx⟩ : ∃ xx : Nat, vl σ xn xv = (xx : Int) := ⟨(vl σ xn xv).toNat, by omega⟩
  rw [hxx] at bx HXC
  rw [hxx]
  unfold vl at hxx
  have Hx := hide hxx
  clear hxx
  generalize hV : pw W = V at *
  clear hV
  go_enter Try.func91, Try.ntmps91
  go_wp2_with fail
  refine (mvalue_any (hM1 _) xn xv (fun e => by have := hx.1 e; omega)).mono ?_
  rintro e w2 ⟨rfl, hF2, hg2⟩
  rw [unhide Hx]
  have hA2 := At.grown (unhide HA) hg2 (by simp)
  have hM2 := Mac.grown (hM1 _) hg2
  have hS2 := Sn.grown (Sn.alloc hS _) hg2
  have hF := ((Fr.refl gs b w).alloc (by omega) _).trans hF2
  obtain ⟨d0, d1, d2, d3, d4, d5, d6, d7, d8, d9, d10, df⟩ := At.elv hA2
  obtain ⟨m0, m1, m2, m3, m4, m5, m6, m7, m8, mt, mf⟩ := hM2.nine
  go_wp2_with fail
  refine (seeWord_any hM2 hS2 hsl xx (by omega) (by omega) hv0 hv1).mono ?_
  rintro e w3 ⟨rfl, sv3, hM3, hS3, hF3⟩
  rw [if_pos HXC] at hM3
  have hA3 := hF3.at_ hA2 (by decide) (by have := hM2.2.1.lt; omega) (by omega)
  have hF := hF.trans hF3
  clear d0 d1 d2 d3 d4 d5 d6 d7 d8 d9 d10 df m0 m1 m2 m3 m4 m5 m6 m7 m8 mt mf
  obtain ⟨d0, d1, d2, d3, d4, d5, d6, d7, d8, d9, d10, df⟩ := At.elv hA3
  obtain ⟨m0, m1, m2, m3, m4, m5, m6, m7, m8, mt, mf⟩ := hM3.nine
  go_wp2_with fail
  go_end0
  exact ⟨rfl, _, hM3, hS3, hF⟩

set_option maxHeartbeats 4000000 in
theorem mload_any (hM : Mac w b gs W (pw W) n m view σ sv steps false) (hS : Sn w b sv sn) (hW : W ≤ 8) (hfit : Fits (pw W) σ) (hn : n ≤ σ.length) (hsl : sn.length ≤ 90000) (hv0 : 0 ≤ view) (hv1 : view ≤ 8)
    (k : Int) (var xv yv : Nat) (xn yn : Bool) (op yes no sec beh : Int) (hx : OpOK (pw W) n xn xv) (hvar : var < n) (hnm : n + m = σ.length) (hlen : σ.length ≤ 100) (HXC : ¬ (m : Int) ≤ vl σ xn xv) :
    Calls Try.prog 90 #[.pointer (some ⟨b, 0, none⟩), .agg #[.int .u8 k, .int .i64 var, .bool xn, .int .i64 xv, .int .u8 op, .bool yn, .int .i64 yv, .int .i64 yes, .int .i64 no, .int .i64 sec, .int .i64 beh]] w fun e w' => e = .returned (.tuple #[]) ∧ ∃ sv', Mac w' b gs W (pw W) n m view (σ.set var (σ.getD (n + (vl σ xn xv).toNat) 0)) sv' steps false ∧ Sn w' b sv' (sn ++ swB view m (vl σ xn xv)) ∧ Fr gs b w w' := by
  have bx := vl_bd hfit hx hn
  have hpb := pw_bd W hW
  have hbl : b < w.heap.size := hM.1.lt
  have hgl := hM.2.2
  have hM1 : ∀ o, Mac (w.alloc o) b gs W (pw W) n m view σ sv steps false := fun o => hM.alloc o
  have hA := At.new w 74 #[.int .u8 k, .int .i64 var, .bool xn, .int .i64 xv, .int .u8 op, .bool yn, .int .i64 yv, .int .i64 yes, .int .i64 no, .int .i64 sec, .int .i64 beh]
  have HA := hide hA
  clear hA
  obtain ⟨xx, hxx⟩ : ∃ xx : Nat, vl σ xn xv = (xx : Int) := ⟨(vl σ xn xv).toNat, by omega⟩
  rw [hxx] at bx HXC
  rw [hxx]
  unfold vl at hxx
  have Hx := hide hxx
  clear hxx
  have exn : ((xx : Int)).toNat = xx := rfl
  rw [exn]
  generalize hr : σ.getD (n + xx) 0 = r
  have Hr := hide hr
  clear hr
  generalize hV : pw W = V at *
  clear hV
  go_enter Try.func90, Try.ntmps90
  go_wp2_with fail
  refine (mvalue_any (hM1 _) xn xv (fun e => by have := hx.1 e; omega)).mono ?_
  rintro e w2 ⟨rfl, hF2, hg2⟩
  rw [unhide Hx]
  have hA2 := At.grown (unhide HA) hg2 (by simp)
  have hM2 := Mac.grown (hM1 _) hg2
  have hS2 := Sn.grown (Sn.alloc hS _) hg2
  have hF := ((Fr.refl gs b w).alloc (by omega) _).trans hF2
  obtain ⟨d0, d1, d2, d3, d4, d5, d6, d7, d8, d9, d10, df⟩ := At.elv hA2
  obtain ⟨m0, m1, m2, m3, m4, m5, m6, m7, m8, mt, mf⟩ := hM2.nine
  go_wp2_with fail
  refine (seeWord_any hM2 hS2 hsl xx (by omega) (by omega) hv0 hv1).mono ?_
  rintro e w3 ⟨rfl, sv3, hM3, hS3, hF3⟩
  rw [if_neg (by omega)] at hM3
  have hA3 := hF3.at_ hA2 (by decide) (by have := hM2.2.1.lt; omega) (by omega)
  have hF := hF.trans hF3
  clear d0 d1 d2 d3 d4 d5 d6 d7 d8 d9 d10 df m0 m1 m2 m3 m4 m5 m6 m7 m8 mt mf
  obtain ⟨d0, d1, d2, d3, d4, d5, d6, d7, d8, d9, d10, df⟩ := At.elv hA3
  obtain ⟨m0, m1, m2, m3, m4, m5, m6, m7, m8, mt, mf⟩ := hM3.nine
  go_wp2_with fail
  have hxm : xx < m := by omega
  have cS := hM3.cellS var (by omega)
  have fS := hM3.frozenS var
  have cW := hM3.cellS (n + xx) (by omega)
  rw [unhide Hr] at cW
  have hvl : (var : Int) < (σ.length : Int) := by omega
  have hwl : (n : Int) + (xx : Int) < (σ.length : Int) := by omega
  have hwr : IntKind.i64.wrap ((n : Int) + (xx : Int)) = (n : Int) + (xx : Int) := by rw [IntKind.wrap_i64]; omega
  have hp0 : (0 : Int) ≤ (n : Int) + (xx : Int) := by omega
  have hp2 : ((n : Int) + (xx : Int)).toNat = n + xx := by omega
  have cW5 : ∀ r', (w3.setCell ⟨gs, var, none⟩ (.int .i64 r')).cell? ⟨gs, n + xx, none⟩ = some (.int .i64 r) := fun r' => by
    have h := (hM3.setS var r').cellS (n + xx) (by rw [List.length_set]; omega)
    have hne : var ≠ n + xx := by omega
    have e : (σ.set var r').getD (n + xx) 0 = σ.getD (n + xx) 0 := by simp [List.getD, hne]
    rw [e, unhide Hr] at h; exact h
  have hM5 := hM3.1.other (a := ⟨gs, var, none⟩) (.int .i64 r) (by show gs ≠ b; omega)
  have hA5 := hA3.other (a := ⟨gs, var, none⟩) (.int .i64 r) (by have := hM2.2.1.lt; show gs ≠ w.heap.size; omega)
  obtain ⟨t0, t1, t2, t3, t4, t5, t6, t7, t8, tt, tf⟩ := At.mten hM5
  obtain ⟨s0, s1, s2, s3, s4, s5, s6, s7, s8, s9, s10, sf⟩ := At.elv hA5
  have hS5' := And.intro t2 (And.intro t5 (And.intro s1 (cW5 r)))
  clear cW5
  have hS3' := And.intro m2 (And.intro m5 (And.intro d1 cW))
  go_region_held3 (fun w' => w'.cell? ⟨b, 3, none⟩ = some (.int .i64 n) ∧ w'.cell? ⟨b, 6, none⟩ = some (.slice (some ⟨gs, 0, none⟩) σ.length σ.length) ∧ w'.cell? ⟨w.heap.size, 1, none⟩ = some (.int .i64 var) ∧ w'.cell? ⟨gs, n + xx, none⟩ = some (.int .i64 r)) (first | assumption | exact hS5' | go_keep) (fail)
  go_wp2_with fail
  go_end0
  exact ⟨rfl, _, Mac.drewN (hM3.setS var r) 1, Sn.drewN (hS3.set _ (Nat.le_of_lt hgl)) 1, (hF.set _ (Nat.le_refl _) (.inl rfl)).drewN 1⟩

set_option maxHeartbeats 4000000 in
theorem mstore_any (hM : Mac w b gs W (pw W) n m view σ sv steps false) (hS : Sn w b sv sn) (hW : W ≤ 8) (hfit : Fits (pw W) σ) (hn : n ≤ σ.length) (hsl : sn.length ≤ 90000) (hv0 : 0 ≤ view) (hv1 : view ≤ 8)
    (k : Int) (var xv yv : Nat) (xn yn : Bool) (op yes no sec beh : Int) (hx : OpOK (pw W) n xn xv) (hy : OpOK (pw W) n yn yv) (hnm : n + m = σ.length) (hlen : σ.length ≤ 100) (HXC : ¬ (m : Int) ≤ vl σ xn xv) :
    Calls Try.prog 91 #[.pointer (some ⟨b, 0, none⟩), .agg #[.int .u8 k, .int .i64 var, .bool xn, .int .i64 xv, .int .u8 op, .bool yn, .int .i64 yv, .int .i64 yes, .int .i64 no, .int .i64 sec, .int .i64 beh]] w fun e w' => e = .returned (.tuple #[]) ∧ ∃ sv', Mac w' b gs W (pw W) n m view (σ.set (n + (vl σ xn xv).toNat) (vl σ yn yv)) sv' steps false ∧ Sn w' b sv' (sn ++ swB view m (vl σ xn xv)) ∧ Fr gs b w w' := by
  have bx := vl_bd hfit hx hn
  have hpb := pw_bd W hW
  have hbl : b < w.heap.size := hM.1.lt
  have hgl := hM.2.2
  have hM1 : ∀ o, Mac (w.alloc o) b gs W (pw W) n m view σ sv steps false := fun o => hM.alloc o
  have hA := At.new w 74 #[.int .u8 k, .int .i64 var, .bool xn, .int .i64 xv, .int .u8 op, .bool yn, .int .i64 yv, .int .i64 yes, .int .i64 no, .int .i64 sec, .int .i64 beh]
  have HA := hide hA
  clear hA
  obtain ⟨xx, hxx⟩ : ∃ xx : Nat, vl σ xn xv = (xx : Int) := ⟨(vl σ xn xv).toNat, by omega⟩
  rw [hxx] at bx HXC
  rw [hxx]
  unfold vl at hxx
  have Hx := hide hxx
  clear hxx
  have exn : ((xx : Int)).toNat = xx := rfl
  rw [exn]
  have HY : Hid (vl σ yn yv = if yn then σ.getD yv 0 else (yv : Int)) := rfl
  generalize hV : pw W = V at *
  clear hV
  generalize vl σ yn yv = r at *
  go_enter Try.func91, Try.ntmps91
  go_wp2_with fail
  refine (mvalue_any (hM1 _) xn xv (fun e => by have := hx.1 e; omega)).mono ?_
  rintro e w2 ⟨rfl, hF2, hg2⟩
  rw [unhide Hx]
  have hA2 := At.grown (unhide HA) hg2 (by simp)
  have hM2 := Mac.grown (hM1 _) hg2
  have hS2 := Sn.grown (Sn.alloc hS _) hg2
  have hF := ((Fr.refl gs b w).alloc (by omega) _).trans hF2
  obtain ⟨d0, d1, d2, d3, d4, d5, d6, d7, d8, d9, d10, df⟩ := At.elv hA2
  obtain ⟨m0, m1, m2, m3, m4, m5, m6, m7, m8, mt, mf⟩ := hM2.nine
  go_wp2_with fail
  refine (seeWord_any hM2 hS2 hsl xx (by omega) (by omega) hv0 hv1).mono ?_
  rintro e w3 ⟨rfl, sv3, hM3, hS3, hF3⟩
  rw [if_neg (by omega)] at hM3
  have hA3 := hF3.at_ hA2 (by decide) (by have := hM2.2.1.lt; omega) (by omega)
  have hF := hF.trans hF3
  clear d0 d1 d2 d3 d4 d5 d6 d7 d8 d9 d10 df m0 m1 m2 m3 m4 m5 m6 m7 m8 mt mf
  obtain ⟨d0, d1, d2, d3, d4, d5, d6, d7, d8, d9, d10, df⟩ := At.elv hA3
  obtain ⟨m0, m1, m2, m3, m4, m5, m6, m7, m8, mt, mf⟩ := hM3.nine
  go_wp2_with fail
  have hxm : xx < m := by omega
  have cS := hM3.cellS (n + xx) (by omega)
  have fS := hM3.frozenS (n + xx)
  have hwl : (n : Int) + (xx : Int) < (σ.length : Int) := by omega
  have hwr : IntKind.i64.wrap ((n : Int) + (xx : Int)) = (n : Int) + (xx : Int) := by rw [IntKind.wrap_i64]; omega
  have hp0 : (0 : Int) ≤ (n : Int) + (xx : Int) := by omega
  have hp2 : ((n : Int) + (xx : Int)).toNat = n + xx := by omega
  have hcall := hide (mvalue_any (Mac.drewN hM3 1) yn yv (fun e => by have := hy.1 e; omega))
  go_region_held3 (fun w' => w'.cell? ⟨b, 3, none⟩ = some (.int .i64 n) ∧ w'.cell? ⟨b, 6, none⟩ = some (.slice (some ⟨gs, 0, none⟩) σ.length σ.length) ∧ w'.cell? ⟨w.heap.size, 5, none⟩ = some (.bool yn) ∧ w'.cell? ⟨w.heap.size, 6, none⟩ = some (.int .i64 yv)) (first | assumption | go_keep)
    ((go_at_call 108; refine (unhide hcall).mono ?_; rintro e w4 ⟨rfl, hF4, hg4⟩; rw [← unhide HY]; have hM4 := Mac.grown (Mac.drewN hM3 1) hg4; have hA4 := At.grown (At.drewN hA3 1) hg4 (by simp); have hcS4 := hM4.cellS (n + xx) (by omega); have hfS4 := hM4.frozenS (n + xx); obtain ⟨q0, q1, q2, q3, q4, q5, q6, q7, q8, qt, qf⟩ := hM4.nine; obtain ⟨p0, p1, p2, p3, p4, p5, p6, p7, p8, p9, p10, pf⟩ := At.elv hA4; have hS4 := And.intro q2 (And.intro q5 (And.intro p5 p6)); have hM5 := hM4.1.other (a := ⟨gs, n + xx, none⟩) (.int .i64 r) (by show gs ≠ b; omega); have hA5 := hA4.other (a := ⟨gs, n + xx, none⟩) (.int .i64 r) (by show gs ≠ w.heap.size; omega); obtain ⟨t0, t1, t2, t3, t4, t5, t6, t7, t8, tt, tf⟩ := At.mten hM5; obtain ⟨s0, s1, s2, s3, s4, s5, s6, s7, s8, s9, s10, sf⟩ := At.elv hA5; have hS5 := And.intro t2 (And.intro t5 (And.intro s5 s6))))
  go_wp2_with fail
  go_end0
  exact ⟨rfl, _, hM4.setS (n + xx) r, (Sn.grown (Sn.drewN hS3 1) hg4).set _ (Nat.le_of_lt hgl), ((hF.drewN 1).grown hg4 (by have := hM3.2.1.lt; simp; omega)).set _ (Nat.le_refl _) (.inl rfl)⟩

set_option maxHeartbeats 4000000 in
theorem mtest_any (hM : Mac w b gs W (pw W) n m view σ sv steps false) (hS : Sn w b sv sn) (hW : W ≤ 8) (hfit : Fits (pw W) σ) (hn : n ≤ σ.length) (hsl : sn.length ≤ 90000)
    (k : Int) (var xv yv : Nat) (xn yn : Bool) (op yes no sec beh : Int) (hx : OpOK (pw W) n xn xv) :
    Calls Try.prog 92 #[.pointer (some ⟨b, 0, none⟩), .agg #[.int .u8 k, .int .i64 var, .bool xn, .int .i64 xv, .int .u8 op, .bool yn, .int .i64 yv, .int .i64 yes, .int .i64 no, .int .i64 sec, .int .i64 beh]] w fun e w' => e = .returned (.int .i64 (if vl σ xn xv = 0 then no else yes)) ∧ ∃ sv', Mac w' b gs W (pw W) n m view σ sv' steps false ∧ Sn w' b sv' (sn ++ [if vl σ xn xv = 0 then 102 else 116]) ∧ Fr gs b w w' := by
  have bx := vl_bd hfit hx hn
  have hpb := pw_bd W hW
  have hbl : b < w.heap.size := hM.1.lt
  have hgl := hM.2.2
  have hM1 : ∀ o, Mac (w.alloc o) b gs W (pw W) n m view σ sv steps false := fun o => hM.alloc o
  have hA := At.new w 74 #[.int .u8 k, .int .i64 var, .bool xn, .int .i64 xv, .int .u8 op, .bool yn, .int .i64 yv, .int .i64 yes, .int .i64 no, .int .i64 sec, .int .i64 beh]
  have HA := hide hA
  clear hA
  obtain ⟨xx, hxx⟩ : ∃ xx : Nat, vl σ xn xv = (xx : Int) := ⟨(vl σ xn xv).toNat, by omega⟩
  rw [hxx] at bx
  rw [hxx]
  unfold vl at hxx
  have Hx := hide hxx
  clear hxx
  generalize hV : pw W = V at *
  clear hV
  by_cases h0 : (xx : Int) = 0
  · have hb : ((xx : Int) != 0) = false := by simpa using h0
    rw [if_pos h0, if_pos h0]
    clear h0
    go_enter Try.func92, Try.ntmps92
    go_wp2_with fail
    refine (mvalue_any (hM1 _) xn xv (fun e => by have := hx.1 e; omega)).mono ?_
    rintro e w2 ⟨rfl, hF2, hg2⟩
    rw [unhide Hx]
    have hA2 := At.grown (unhide HA) hg2 (by simp)
    have hM2 := Mac.grown (hM1 _) hg2
    have hS2 := Sn.grown (Sn.alloc hS _) hg2
    have hF := ((Fr.refl gs b w).alloc (by omega) _).trans hF2
    obtain ⟨d0, d1, d2, d3, d4, d5, d6, d7, d8, d9, d10, df⟩ := At.elv hA2
    obtain ⟨m0, m1, m2, m3, m4, m5, m6, m7, m8, mt, mf⟩ := hM2.nine
    go_wp2_with fail
    refine (see_any hM2 hS2 (by omega) 102).mono ?_
    rintro e w3 ⟨rfl, sv3, hM3, hS3, hF3⟩
    have hA3 := hF3.at_ hA2 (by decide) (by have := hM2.2.1.lt; omega) (by omega)
    clear d0 d1 d2 d3 d4 d5 d6 d7 d8 d9 d10 df m0 m1 m2 m3 m4 m5 m6 m7 m8 mt mf
    obtain ⟨d0, d1, d2, d3, d4, d5, d6, d7, d8, d9, d10, df⟩ := At.elv hA3
    go_wp2_with fail
    go_ret
    exact ⟨rfl, _, hM3, hS3, hF.trans hF3⟩
  · have hb : ((xx : Int) != 0) = true := by simpa using h0
    rw [if_neg h0, if_neg h0]
    clear h0
    go_enter Try.func92, Try.ntmps92
    go_wp2_with fail
    refine (mvalue_any (hM1 _) xn xv (fun e => by have := hx.1 e; omega)).mono ?_
    rintro e w2 ⟨rfl, hF2, hg2⟩
    rw [unhide Hx]
    have hA2 := At.grown (unhide HA) hg2 (by simp)
    have hM2 := Mac.grown (hM1 _) hg2
    have hS2 := Sn.grown (Sn.alloc hS _) hg2
    have hF := ((Fr.refl gs b w).alloc (by omega) _).trans hF2
    obtain ⟨d0, d1, d2, d3, d4, d5, d6, d7, d8, d9, d10, df⟩ := At.elv hA2
    obtain ⟨m0, m1, m2, m3, m4, m5, m6, m7, m8, mt, mf⟩ := hM2.nine
    go_wp2_with fail
    refine (see_any hM2 hS2 (by omega) 116).mono ?_
    rintro e w3 ⟨rfl, sv3, hM3, hS3, hF3⟩
    have hA3 := hF3.at_ hA2 (by decide) (by have := hM2.2.1.lt; omega) (by omega)
    clear d0 d1 d2 d3 d4 d5 d6 d7 d8 d9 d10 df m0 m1 m2 m3 m4 m5 m6 m7 m8 mt mf
    obtain ⟨d0, d1, d2, d3, d4, d5, d6, d7, d8, d9, d10, df⟩ := At.elv hA3
    go_wp2_with fail
    go_ret
    exact ⟨rfl, _, hM3, hS3, hF.trans hF3⟩
end
end Go.Proofs.Ytnkbfdbbcaffmab
/-
  The machine's step.
-/
namespace Go.Proofs.Ytnkbfdbbcaffmab
open Go.RowKit

section
variable {w : World} {b gs : Nat} {W : Nat} {V view : Int} {n m : Nat} {σ σ' : List Int} {sv : Value} {sn sn' : List Int} {steps : ByteArray × Value} {tr : Bool}
variable {var xv yv : Nat} {xn yn : Bool} {op yes no sec beh : Int}

set_option maxHeartbeats 2000000 in
theorem step_set (hM : Mac w b gs W V n m view σ sv steps false) (hS : Sn w b sv sn)
    (hcall : ∀ w1, Mac w1 b gs W V n m view σ sv steps false → Sn w1 b sv sn → Calls Try.prog 89 #[.pointer (some ⟨b, 0, none⟩), .agg #[.int .u8 61, .int .i64 var, .bool xn, .int .i64 xv, .int .u8 op, .bool yn, .int .i64 yv, .int .i64 yes, .int .i64 no, .int .i64 sec, .int .i64 beh]] w1 fun e w' => e = .returned (.tuple #[]) ∧ ∃ sv', Mac w' b gs W V n m view σ' sv' steps tr ∧ Sn w' b sv' sn' ∧ Fr gs b w1 w') :
    Calls Try.prog 72 #[.pointer (some ⟨b, 0, none⟩), .agg #[.int .u8 61, .int .i64 var, .bool xn, .int .i64 xv, .int .u8 op, .bool yn, .int .i64 yv, .int .i64 yes, .int .i64 no, .int .i64 sec, .int .i64 beh]] w fun e w' => e = .returned (.int .i64 yes) ∧ ∃ sv', Mac w' b gs W V n m view σ' sv' steps tr ∧ Sn w' b sv' sn' ∧ Fr gs b w w' := by
  have hbl : b < w.heap.size := hM.1.lt
  have hgl := hM.2.2
  have hgs := hM.2.1.lt
  obtain ⟨m0, m1, m2, m3, m4, m5, m6, m7, m8, mt, mf⟩ := hM.nine
  have Hcall := hide hcall
  clear hcall
  have hA1 : At (w.alloc (.cells #[.int .u8 61, .int .i64 var, .bool xn, .int .i64 xv, .int .u8 op, .bool yn, .int .i64 yv, .int .i64 yes, .int .i64 no, .int .i64 sec, .int .i64 beh] 74)) w.heap.size 74 #[.int .u8 61, .int .i64 var, .bool xn, .int .i64 xv, .int .u8 op, .bool yn, .int .i64 yv, .int .i64 yes, .int .i64 no, .int .i64 sec, .int .i64 beh] := by
    exact At.new w 74 #[.int .u8 61, .int .i64 var, .bool xn, .int .i64 xv, .int .u8 op, .bool yn, .int .i64 yv, .int .i64 yes, .int .i64 no, .int .i64 sec, .int .i64 beh]
  have hM1 := hM.alloc (.cells #[.int .u8 61, .int .i64 var, .bool xn, .int .i64 xv, .int .u8 op, .bool yn, .int .i64 yv, .int .i64 yes, .int .i64 no, .int .i64 sec, .int .i64 beh] 74)
  have hS1 := hS.alloc (.cells #[.int .u8 61, .int .i64 var, .bool xn, .int .i64 xv, .int .u8 op, .bool yn, .int .i64 yv, .int .i64 yes, .int .i64 no, .int .i64 sec, .int .i64 beh] 74)
  have hF1 := (Fr.refl gs b w).alloc (by omega) (.cells #[.int .u8 61, .int .i64 var, .bool xn, .int .i64 xv, .int .u8 op, .bool yn, .int .i64 yv, .int .i64 yes, .int .i64 no, .int .i64 sec, .int .i64 beh] 74)
  have HA1 := hide hA1
  clear hA1
  go_enter Try.func72, Try.ntmps72
  go_wp2_with fail
  refine (unhide Hcall _ hM1 hS1).mono ?_
  rintro e w2 ⟨rfl, sv2, hM2, hS2, hF2⟩
  have hA2 := hF2.at_ (unhide HA1) (by decide) (by omega) (by omega)
  obtain ⟨d0, d1, d2, d3, d4, d5, d6, d7, d8, d9, d10, df⟩ := At.elv hA2
  go_wp2_with fail
  go_ret
  exact ⟨rfl, _, hM2, hS2, hF1.trans hF2⟩

set_option maxHeartbeats 2000000 in
theorem step_load (hM : Mac w b gs W V n m view σ sv steps false) (hS : Sn w b sv sn)
    (hcall : ∀ w1, Mac w1 b gs W V n m view σ sv steps false → Sn w1 b sv sn → Calls Try.prog 90 #[.pointer (some ⟨b, 0, none⟩), .agg #[.int .u8 108, .int .i64 var, .bool xn, .int .i64 xv, .int .u8 op, .bool yn, .int .i64 yv, .int .i64 yes, .int .i64 no, .int .i64 sec, .int .i64 beh]] w1 fun e w' => e = .returned (.tuple #[]) ∧ ∃ sv', Mac w' b gs W V n m view σ' sv' steps tr ∧ Sn w' b sv' sn' ∧ Fr gs b w1 w') :
    Calls Try.prog 72 #[.pointer (some ⟨b, 0, none⟩), .agg #[.int .u8 108, .int .i64 var, .bool xn, .int .i64 xv, .int .u8 op, .bool yn, .int .i64 yv, .int .i64 yes, .int .i64 no, .int .i64 sec, .int .i64 beh]] w fun e w' => e = .returned (.int .i64 yes) ∧ ∃ sv', Mac w' b gs W V n m view σ' sv' steps tr ∧ Sn w' b sv' sn' ∧ Fr gs b w w' := by
  have hbl : b < w.heap.size := hM.1.lt
  have hgl := hM.2.2
  have hgs := hM.2.1.lt
  obtain ⟨m0, m1, m2, m3, m4, m5, m6, m7, m8, mt, mf⟩ := hM.nine
  have Hcall := hide hcall
  clear hcall
  have hA1 : At (w.alloc (.cells #[.int .u8 108, .int .i64 var, .bool xn, .int .i64 xv, .int .u8 op, .bool yn, .int .i64 yv, .int .i64 yes, .int .i64 no, .int .i64 sec, .int .i64 beh] 74)) w.heap.size 74 #[.int .u8 108, .int .i64 var, .bool xn, .int .i64 xv, .int .u8 op, .bool yn, .int .i64 yv, .int .i64 yes, .int .i64 no, .int .i64 sec, .int .i64 beh] := by
    exact At.new w 74 #[.int .u8 108, .int .i64 var, .bool xn, .int .i64 xv, .int .u8 op, .bool yn, .int .i64 yv, .int .i64 yes, .int .i64 no, .int .i64 sec, .int .i64 beh]
  have hM1 := hM.alloc (.cells #[.int .u8 108, .int .i64 var, .bool xn, .int .i64 xv, .int .u8 op, .bool yn, .int .i64 yv, .int .i64 yes, .int .i64 no, .int .i64 sec, .int .i64 beh] 74)
  have hS1 := hS.alloc (.cells #[.int .u8 108, .int .i64 var, .bool xn, .int .i64 xv, .int .u8 op, .bool yn, .int .i64 yv, .int .i64 yes, .int .i64 no, .int .i64 sec, .int .i64 beh] 74)
  have hF1 := (Fr.refl gs b w).alloc (by omega) (.cells #[.int .u8 108, .int .i64 var, .bool xn, .int .i64 xv, .int .u8 op, .bool yn, .int .i64 yv, .int .i64 yes, .int .i64 no, .int .i64 sec, .int .i64 beh] 74)
  have HA1 := hide hA1
  clear hA1
  go_enter Try.func72, Try.ntmps72
  go_wp2_with fail
  refine (unhide Hcall _ hM1 hS1).mono ?_
  rintro e w2 ⟨rfl, sv2, hM2, hS2, hF2⟩
  have hA2 := hF2.at_ (unhide HA1) (by decide) (by omega) (by omega)
  obtain ⟨d0, d1, d2, d3, d4, d5, d6, d7, d8, d9, d10, df⟩ := At.elv hA2
  go_wp2_with fail
  go_ret
  exact ⟨rfl, _, hM2, hS2, hF1.trans hF2⟩

set_option maxHeartbeats 2000000 in
theorem step_store (hM : Mac w b gs W V n m view σ sv steps false) (hS : Sn w b sv sn)
    (hcall : ∀ w1, Mac w1 b gs W V n m view σ sv steps false → Sn w1 b sv sn → Calls Try.prog 91 #[.pointer (some ⟨b, 0, none⟩), .agg #[.int .u8 115, .int .i64 var, .bool xn, .int .i64 xv, .int .u8 op, .bool yn, .int .i64 yv, .int .i64 yes, .int .i64 no, .int .i64 sec, .int .i64 beh]] w1 fun e w' => e = .returned (.tuple #[]) ∧ ∃ sv', Mac w' b gs W V n m view σ' sv' steps tr ∧ Sn w' b sv' sn' ∧ Fr gs b w1 w') :
    Calls Try.prog 72 #[.pointer (some ⟨b, 0, none⟩), .agg #[.int .u8 115, .int .i64 var, .bool xn, .int .i64 xv, .int .u8 op, .bool yn, .int .i64 yv, .int .i64 yes, .int .i64 no, .int .i64 sec, .int .i64 beh]] w fun e w' => e = .returned (.int .i64 yes) ∧ ∃ sv', Mac w' b gs W V n m view σ' sv' steps tr ∧ Sn w' b sv' sn' ∧ Fr gs b w w' := by
  have hbl : b < w.heap.size := hM.1.lt
  have hgl := hM.2.2
  have hgs := hM.2.1.lt
  obtain ⟨m0, m1, m2, m3, m4, m5, m6, m7, m8, mt, mf⟩ := hM.nine
  have Hcall := hide hcall
  clear hcall
  have hA1 : At (w.alloc (.cells #[.int .u8 115, .int .i64 var, .bool xn, .int .i64 xv, .int .u8 op, .bool yn, .int .i64 yv, .int .i64 yes, .int .i64 no, .int .i64 sec, .int .i64 beh] 74)) w.heap.size 74 #[.int .u8 115, .int .i64 var, .bool xn, .int .i64 xv, .int .u8 op, .bool yn, .int .i64 yv, .int .i64 yes, .int .i64 no, .int .i64 sec, .int .i64 beh] := by
    exact At.new w 74 #[.int .u8 115, .int .i64 var, .bool xn, .int .i64 xv, .int .u8 op, .bool yn, .int .i64 yv, .int .i64 yes, .int .i64 no, .int .i64 sec, .int .i64 beh]
  have hM1 := hM.alloc (.cells #[.int .u8 115, .int .i64 var, .bool xn, .int .i64 xv, .int .u8 op, .bool yn, .int .i64 yv, .int .i64 yes, .int .i64 no, .int .i64 sec, .int .i64 beh] 74)
  have hS1 := hS.alloc (.cells #[.int .u8 115, .int .i64 var, .bool xn, .int .i64 xv, .int .u8 op, .bool yn, .int .i64 yv, .int .i64 yes, .int .i64 no, .int .i64 sec, .int .i64 beh] 74)
  have hF1 := (Fr.refl gs b w).alloc (by omega) (.cells #[.int .u8 115, .int .i64 var, .bool xn, .int .i64 xv, .int .u8 op, .bool yn, .int .i64 yv, .int .i64 yes, .int .i64 no, .int .i64 sec, .int .i64 beh] 74)
  have HA1 := hide hA1
  clear hA1
  go_enter Try.func72, Try.ntmps72
  go_wp2_with fail
  refine (unhide Hcall _ hM1 hS1).mono ?_
  rintro e w2 ⟨rfl, sv2, hM2, hS2, hF2⟩
  have hA2 := hF2.at_ (unhide HA1) (by decide) (by omega) (by omega)
  obtain ⟨d0, d1, d2, d3, d4, d5, d6, d7, d8, d9, d10, df⟩ := At.elv hA2
  go_wp2_with fail
  go_ret
  exact ⟨rfl, _, hM2, hS2, hF1.trans hF2⟩

set_option maxHeartbeats 2000000 in
theorem step_branch {r : Int} (hM : Mac w b gs W V n m view σ sv steps false) (hS : Sn w b sv sn)
    (hcall : ∀ w1, Mac w1 b gs W V n m view σ sv steps false → Sn w1 b sv sn → Calls Try.prog 92 #[.pointer (some ⟨b, 0, none⟩), .agg #[.int .u8 63, .int .i64 var, .bool xn, .int .i64 xv, .int .u8 op, .bool yn, .int .i64 yv, .int .i64 yes, .int .i64 no, .int .i64 sec, .int .i64 beh]] w1 fun e w' => e = .returned (.int .i64 r) ∧ ∃ sv', Mac w' b gs W V n m view σ' sv' steps tr ∧ Sn w' b sv' sn' ∧ Fr gs b w1 w') :
    Calls Try.prog 72 #[.pointer (some ⟨b, 0, none⟩), .agg #[.int .u8 63, .int .i64 var, .bool xn, .int .i64 xv, .int .u8 op, .bool yn, .int .i64 yv, .int .i64 yes, .int .i64 no, .int .i64 sec, .int .i64 beh]] w fun e w' => e = .returned (.int .i64 r) ∧ ∃ sv', Mac w' b gs W V n m view σ' sv' steps tr ∧ Sn w' b sv' sn' ∧ Fr gs b w w' := by
  have hbl : b < w.heap.size := hM.1.lt
  have hgl := hM.2.2
  have hgs := hM.2.1.lt
  obtain ⟨m0, m1, m2, m3, m4, m5, m6, m7, m8, mt, mf⟩ := hM.nine
  have Hcall := hide hcall
  clear hcall
  have hA1 : At (w.alloc (.cells #[.int .u8 63, .int .i64 var, .bool xn, .int .i64 xv, .int .u8 op, .bool yn, .int .i64 yv, .int .i64 yes, .int .i64 no, .int .i64 sec, .int .i64 beh] 74)) w.heap.size 74 #[.int .u8 63, .int .i64 var, .bool xn, .int .i64 xv, .int .u8 op, .bool yn, .int .i64 yv, .int .i64 yes, .int .i64 no, .int .i64 sec, .int .i64 beh] := by
    exact At.new w 74 #[.int .u8 63, .int .i64 var, .bool xn, .int .i64 xv, .int .u8 op, .bool yn, .int .i64 yv, .int .i64 yes, .int .i64 no, .int .i64 sec, .int .i64 beh]
  have hM1 := hM.alloc (.cells #[.int .u8 63, .int .i64 var, .bool xn, .int .i64 xv, .int .u8 op, .bool yn, .int .i64 yv, .int .i64 yes, .int .i64 no, .int .i64 sec, .int .i64 beh] 74)
  have hS1 := hS.alloc (.cells #[.int .u8 63, .int .i64 var, .bool xn, .int .i64 xv, .int .u8 op, .bool yn, .int .i64 yv, .int .i64 yes, .int .i64 no, .int .i64 sec, .int .i64 beh] 74)
  have hF1 := (Fr.refl gs b w).alloc (by omega) (.cells #[.int .u8 63, .int .i64 var, .bool xn, .int .i64 xv, .int .u8 op, .bool yn, .int .i64 yv, .int .i64 yes, .int .i64 no, .int .i64 sec, .int .i64 beh] 74)
  have HA1 := hide hA1
  clear hA1
  go_enter Try.func72, Try.ntmps72
  go_wp2_with fail
  refine (unhide Hcall _ hM1 hS1).mono ?_
  rintro e w2 ⟨rfl, sv2, hM2, hS2, hF2⟩
  go_wp2_with fail
  go_ret
  exact ⟨rfl, _, hM2, hS2, hF1.trans hF2⟩

set_option maxHeartbeats 2000000 in
theorem step_loop {r : Int} (hM : Mac w b gs W V n m view σ sv steps false) (hS : Sn w b sv sn)
    (hcall : ∀ w1, Mac w1 b gs W V n m view σ sv steps false → Sn w1 b sv sn → Calls Try.prog 92 #[.pointer (some ⟨b, 0, none⟩), .agg #[.int .u8 33, .int .i64 var, .bool xn, .int .i64 xv, .int .u8 op, .bool yn, .int .i64 yv, .int .i64 yes, .int .i64 no, .int .i64 sec, .int .i64 beh]] w1 fun e w' => e = .returned (.int .i64 r) ∧ ∃ sv', Mac w' b gs W V n m view σ' sv' steps tr ∧ Sn w' b sv' sn' ∧ Fr gs b w1 w') :
    Calls Try.prog 72 #[.pointer (some ⟨b, 0, none⟩), .agg #[.int .u8 33, .int .i64 var, .bool xn, .int .i64 xv, .int .u8 op, .bool yn, .int .i64 yv, .int .i64 yes, .int .i64 no, .int .i64 sec, .int .i64 beh]] w fun e w' => e = .returned (.int .i64 r) ∧ ∃ sv', Mac w' b gs W V n m view σ' sv' steps tr ∧ Sn w' b sv' sn' ∧ Fr gs b w w' := by
  have hbl : b < w.heap.size := hM.1.lt
  have hgl := hM.2.2
  have hgs := hM.2.1.lt
  obtain ⟨m0, m1, m2, m3, m4, m5, m6, m7, m8, mt, mf⟩ := hM.nine
  have Hcall := hide hcall
  clear hcall
  have hA1 : At (w.alloc (.cells #[.int .u8 33, .int .i64 var, .bool xn, .int .i64 xv, .int .u8 op, .bool yn, .int .i64 yv, .int .i64 yes, .int .i64 no, .int .i64 sec, .int .i64 beh] 74)) w.heap.size 74 #[.int .u8 33, .int .i64 var, .bool xn, .int .i64 xv, .int .u8 op, .bool yn, .int .i64 yv, .int .i64 yes, .int .i64 no, .int .i64 sec, .int .i64 beh] := by
    exact At.new w 74 #[.int .u8 33, .int .i64 var, .bool xn, .int .i64 xv, .int .u8 op, .bool yn, .int .i64 yv, .int .i64 yes, .int .i64 no, .int .i64 sec, .int .i64 beh]
  have hM1 := hM.alloc (.cells #[.int .u8 33, .int .i64 var, .bool xn, .int .i64 xv, .int .u8 op, .bool yn, .int .i64 yv, .int .i64 yes, .int .i64 no, .int .i64 sec, .int .i64 beh] 74)
  have hS1 := hS.alloc (.cells #[.int .u8 33, .int .i64 var, .bool xn, .int .i64 xv, .int .u8 op, .bool yn, .int .i64 yv, .int .i64 yes, .int .i64 no, .int .i64 sec, .int .i64 beh] 74)
  have hF1 := (Fr.refl gs b w).alloc (by omega) (.cells #[.int .u8 33, .int .i64 var, .bool xn, .int .i64 xv, .int .u8 op, .bool yn, .int .i64 yv, .int .i64 yes, .int .i64 no, .int .i64 sec, .int .i64 beh] 74)
  have HA1 := hide hA1
  clear hA1
  go_enter Try.func72, Try.ntmps72
  go_wp2_with fail
  refine (unhide Hcall _ hM1 hS1).mono ?_
  rintro e w2 ⟨rfl, sv2, hM2, hS2, hF2⟩
  go_wp2_with fail
  go_ret
  exact ⟨rfl, _, hM2, hS2, hF1.trans hF2⟩

set_option maxHeartbeats 2000000 in
theorem step_zero {r : Int} (hM : Mac w b gs W V n m view σ sv steps false) (hS : Sn w b sv sn)
    (hcall : ∀ w1, Mac w1 b gs W V n m view σ sv steps false → Sn w1 b sv sn → Calls Try.prog 92 #[.pointer (some ⟨b, 0, none⟩), .agg #[.int .u8 122, .int .i64 var, .bool xn, .int .i64 xv, .int .u8 op, .bool yn, .int .i64 yv, .int .i64 yes, .int .i64 no, .int .i64 sec, .int .i64 beh]] w1 fun e w' => e = .returned (.int .i64 r) ∧ ∃ sv', Mac w' b gs W V n m view σ' sv' steps tr ∧ Sn w' b sv' sn' ∧ Fr gs b w1 w') :
    Calls Try.prog 72 #[.pointer (some ⟨b, 0, none⟩), .agg #[.int .u8 122, .int .i64 var, .bool xn, .int .i64 xv, .int .u8 op, .bool yn, .int .i64 yv, .int .i64 yes, .int .i64 no, .int .i64 sec, .int .i64 beh]] w fun e w' => e = .returned (.int .i64 r) ∧ ∃ sv', Mac w' b gs W V n m view σ' sv' steps tr ∧ Sn w' b sv' sn' ∧ Fr gs b w w' := by
  have hbl : b < w.heap.size := hM.1.lt
  have hgl := hM.2.2
  have hgs := hM.2.1.lt
  obtain ⟨m0, m1, m2, m3, m4, m5, m6, m7, m8, mt, mf⟩ := hM.nine
  have Hcall := hide hcall
  clear hcall
  have hA1 : At (w.alloc (.cells #[.int .u8 122, .int .i64 var, .bool xn, .int .i64 xv, .int .u8 op, .bool yn, .int .i64 yv, .int .i64 yes, .int .i64 no, .int .i64 sec, .int .i64 beh] 74)) w.heap.size 74 #[.int .u8 122, .int .i64 var, .bool xn, .int .i64 xv, .int .u8 op, .bool yn, .int .i64 yv, .int .i64 yes, .int .i64 no, .int .i64 sec, .int .i64 beh] := by
    exact At.new w 74 #[.int .u8 122, .int .i64 var, .bool xn, .int .i64 xv, .int .u8 op, .bool yn, .int .i64 yv, .int .i64 yes, .int .i64 no, .int .i64 sec, .int .i64 beh]
  have hM1 := hM.alloc (.cells #[.int .u8 122, .int .i64 var, .bool xn, .int .i64 xv, .int .u8 op, .bool yn, .int .i64 yv, .int .i64 yes, .int .i64 no, .int .i64 sec, .int .i64 beh] 74)
  have hS1 := hS.alloc (.cells #[.int .u8 122, .int .i64 var, .bool xn, .int .i64 xv, .int .u8 op, .bool yn, .int .i64 yv, .int .i64 yes, .int .i64 no, .int .i64 sec, .int .i64 beh] 74)
  have hF1 := (Fr.refl gs b w).alloc (by omega) (.cells #[.int .u8 122, .int .i64 var, .bool xn, .int .i64 xv, .int .u8 op, .bool yn, .int .i64 yv, .int .i64 yes, .int .i64 no, .int .i64 sec, .int .i64 beh] 74)
  have HA1 := hide hA1
  clear hA1
  go_enter Try.func72, Try.ntmps72
  go_wp2_with fail
  refine (unhide Hcall _ hM1 hS1).mono ?_
  rintro e w2 ⟨rfl, sv2, hM2, hS2, hF2⟩
  go_wp2_with fail
  go_ret
  exact ⟨rfl, _, hM2, hS2, hF1.trans hF2⟩

set_option maxHeartbeats 2000000 in
theorem step_go (hM : Mac w b gs W V n m view σ sv steps false) (hS : Sn w b sv sn) (k : Int) (hk : k = 106 ∨ k = 104) :
    Calls Try.prog 72 #[.pointer (some ⟨b, 0, none⟩), .agg #[.int .u8 k, .int .i64 var, .bool xn, .int .i64 xv, .int .u8 op, .bool yn, .int .i64 yv, .int .i64 yes, .int .i64 no, .int .i64 sec, .int .i64 beh]] w fun e w' => e = .returned (.int .i64 yes) ∧ ∃ sv', Mac w' b gs W V n m view σ sv' steps false ∧ Sn w' b sv' sn ∧ Fr gs b w w' := by
  have hgs := hM.2.1.lt
  have hM1 := hM.alloc (.cells #[.int .u8 k, .int .i64 var, .bool xn, .int .i64 xv, .int .u8 op, .bool yn, .int .i64 yv, .int .i64 yes, .int .i64 no, .int .i64 sec, .int .i64 beh] 74)
  have hS1 := hS.alloc (.cells #[.int .u8 k, .int .i64 var, .bool xn, .int .i64 xv, .int .u8 op, .bool yn, .int .i64 yv, .int .i64 yes, .int .i64 no, .int .i64 sec, .int .i64 beh] 74)
  have hF1 := (Fr.refl gs b w).alloc (by omega) (.cells #[.int .u8 k, .int .i64 var, .bool xn, .int .i64 xv, .int .u8 op, .bool yn, .int .i64 yv, .int .i64 yes, .int .i64 no, .int .i64 sec, .int .i64 beh] 74)
  rcases hk with rfl | rfl
  all_goals
    go_enter Try.func72, Try.ntmps72
    go_wp2_with fail
    go_ret
    exact ⟨rfl, _, hM1, hS1, hF1⟩

end

/-- One step, as a plain function: the state, what is seen, whether it traps, what comes next. -/
def act (V view : Int) (n m : Nat) (σ : List Int) (c : Cm) : List Int × List Int × Bool × Int :=
  if c.kind = 61 then ((actSet V view σ c.var.toNat c.xn c.xv.toNat c.op c.yn c.yv.toNat).1, (actSet V view σ c.var.toNat c.xn c.xv.toNat c.op c.yn c.yv.toNat).2.1, (actSet V view σ c.var.toNat c.xn c.xv.toNat c.op c.yn c.yv.toNat).2.2, c.yes)
  else if c.kind = 108 then (if (m : Int) ≤ vl σ c.xn c.xv.toNat then (σ, swB view m (vl σ c.xn c.xv.toNat), true, c.yes) else (σ.set c.var.toNat (σ.getD (n + (vl σ c.xn c.xv.toNat).toNat) 0), swB view m (vl σ c.xn c.xv.toNat), false, c.yes))
  else if c.kind = 115 then (if (m : Int) ≤ vl σ c.xn c.xv.toNat then (σ, swB view m (vl σ c.xn c.xv.toNat), true, c.yes) else (σ.set (n + (vl σ c.xn c.xv.toNat).toNat) (vl σ c.yn c.yv.toNat), swB view m (vl σ c.xn c.xv.toNat), false, c.yes))
  else if c.kind = 106 ∨ c.kind = 104 then (σ, [], false, c.yes)
  else (σ, [if vl σ c.xn c.xv.toNat = 0 then 102 else 116], false, if vl σ c.xn c.xv.toNat = 0 then c.no else c.yes)

/-- A command that fits a kernel of n variables and values below V. -/
structure CmOK (V : Int) (n : Nat) (c : Cm) : Prop where
  kind : isCmd c.kind = true ∨ isLn c.kind = true
  v0 : 0 ≤ c.var
  x0 : 0 ≤ c.xv
  y0 : 0 ≤ c.yv
  var : c.kind = 61 ∨ c.kind = 108 → c.var.toNat < n
  x : OpOK V n c.xn c.xv.toNat
  y : c.kind = 61 ∨ c.kind = 115 → OpOK V n c.yn c.yv.toNat
  op : c.kind = 61 → isOp c.op = true

theorem mstep_any {w : World} {b gs : Nat} {W : Nat} {view : Int} {n m : Nat} {σ : List Int} {sv : Value} {sn : List Int} {steps : ByteArray × Value} {c : Cm} (hc : CmOK (pw W) n c)
    (hM : Mac w b gs W (pw W) n m view σ sv steps false) (hS : Sn w b sv sn) (hW : W ≤ 8) (hfit : Fits (pw W) σ) (hnm : n + m = σ.length) (hlen : σ.length ≤ 100) (hsl : sn.length ≤ 90000) (hv0 : 0 ≤ view) (hv1 : view ≤ 8) :
    Calls Try.prog 72 #[.pointer (some ⟨b, 0, none⟩), .agg c.cells] w fun e w' => e = .returned (.int .i64 (act (pw W) view n m σ c).2.2.2) ∧ ∃ sv', Mac w' b gs W (pw W) n m view (act (pw W) view n m σ c).1 sv' steps (act (pw W) view n m σ c).2.2.1 ∧ Sn w' b sv' (sn ++ (act (pw W) view n m σ c).2.1) ∧ Fr gs b w w' := by
  obtain ⟨kd, hv, hx, hy, hvar, hxo, hyo, hop⟩ := hc
  obtain ⟨k, var, xn, xv, op, yn, yv, yes, no, sec, beh⟩ := c
  dsimp only at *
  obtain ⟨var, rfl⟩ := Int.eq_ofNat_of_zero_le hv
  obtain ⟨xv, rfl⟩ := Int.eq_ofNat_of_zero_le hx
  obtain ⟨yv, rfl⟩ := Int.eq_ofNat_of_zero_le hy
  simp only [Int.toNat_natCast] at *
  have hn : n ≤ σ.length := by omega
  unfold act
  simp only [Int.toNat_natCast]
  by_cases k1 : k = 61
  · subst k1
    simp only [if_true]
    unfold actSet
    cases hd : isDiv op with
    | true =>
      simp only [if_true]
      by_cases hz : vl σ yn yv = 0
      · simp only [if_pos hz]
        exact step_set hM hS (fun w1 a1 a2 => mset_trap a1 a2 hW hfit hn 61 var xv yv xn yn op yes no sec beh hxo (hyo (.inl rfl)) (hop rfl) hd hz hsl)
      · simp only [if_neg hz]
        exact step_set hM hS (fun w1 a1 a2 => mset_div a1 a2 hW hfit hn 61 var xv yv xn yn op yes no sec beh (hvar (.inl rfl)) hxo (hyo (.inl rfl)) (hop rfl) hd hz hsl)
    | false =>
      simp only [Bool.false_eq_true, if_false, List.append_nil]
      exact step_set hM hS (fun w1 a1 a2 => (mset_plain a1 a2 hW hfit hn 61 var xv yv xn yn op yes no sec beh (hvar (.inl rfl)) hxo (hyo (.inl rfl)) (hop rfl) hd).mono (fun e w' h => ⟨h.1, _, h.2⟩))
  · rw [if_neg k1]
    by_cases k2 : k = 108
    · subst k2
      rw [if_pos rfl]
      by_cases hm : (m : Int) ≤ vl σ xn xv
      · rw [if_pos hm]
        exact step_load hM hS (fun w1 a1 a2 => mload_trap a1 a2 hW hfit hn hsl hv0 hv1 108 var xv yv xn yn op yes no sec beh hxo hm)
      · rw [if_neg hm]
        exact step_load hM hS (fun w1 a1 a2 => mload_any a1 a2 hW hfit hn hsl hv0 hv1 108 var xv yv xn yn op yes no sec beh hxo (hvar (.inr rfl)) hnm hlen hm)
    · rw [if_neg k2]
      by_cases k3 : k = 115
      · subst k3
        rw [if_pos rfl]
        by_cases hm : (m : Int) ≤ vl σ xn xv
        · rw [if_pos hm]
          exact step_store hM hS (fun w1 a1 a2 => mstore_trap a1 a2 hW hfit hn hsl hv0 hv1 115 var xv yv xn yn op yes no sec beh hxo hm)
        · rw [if_neg hm]
          exact step_store hM hS (fun w1 a1 a2 => mstore_any a1 a2 hW hfit hn hsl hv0 hv1 115 var xv yv xn yn op yes no sec beh hxo (hyo (.inr rfl)) hnm hlen hm)
      · rw [if_neg k3]
        by_cases k5 : k = 106 ∨ k = 104
        · rw [if_pos k5, List.append_nil]
          exact step_go hM hS k k5
        rw [if_neg k5]
        simp [isCmd, isLn] at kd
        by_cases k4 : k = 63
        · subst k4
          exact step_branch hM hS (fun w1 a1 a2 => mtest_any a1 a2 hW hfit hn hsl 63 var xv yv xn yn op yes no sec beh hxo)
        by_cases k6 : k = 122
        · subst k6
          exact step_zero hM hS (fun w1 a1 a2 => mtest_any a1 a2 hW hfit hn hsl 122 var xv yv xn yn op yes no sec beh hxo)
        · obtain rfl : k = 33 := by omega
          exact step_loop hM hS (fun w1 a1 a2 => mtest_any a1 a2 hW hfit hn hsl 33 var xv yv xn yn op yes no sec beh hxo)
end Go.Proofs.Ytnkbfdbbcaffmab
