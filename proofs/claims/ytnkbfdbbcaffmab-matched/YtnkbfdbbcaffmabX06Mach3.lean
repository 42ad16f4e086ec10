import Derived.Test.YtnkbfdbbcaffmabX04Mach2
import Derived.Test.YtnkbfdbbcaffmabX05Ari3
import Derived.Deep.RegionHeld3
import Derived.BigRegion
import Derived.Test.YtnkbfdbbcaffmabX01Chars
/-
  The machine's set, load, store, test.
-/
namespace Go.Proofs.Ytnkbfdbbcaffmab
open Go.RowKit

/-- An operand's value. -/
def vl (σ : List Int) (nm : Bool) (v : Nat) : Int := if nm = true then σ.getD v 0 else (v : Int)

/-- All values of a state fit. -/
def Fits (V : Int) (σ : List Int) : Prop := ∀ x ∈ σ, 0 ≤ x ∧ x < V

theorem Fits.get {V : Int} {σ : List Int} (h : Fits V σ) (i : Nat) (hi : i < σ.length) : 0 ≤ σ.getD i 0 ∧ σ.getD i 0 < V := by
  have e : σ.getD i 0 = σ[i] := by simp [List.getD, hi]
  rw [e]; exact h _ (List.getElem_mem hi)
theorem Fits.set {V : Int} {σ : List Int} (h : Fits V σ) (i : Nat) {v : Int} (h0 : 0 ≤ v) (h1 : v < V) : Fits V (σ.set i v) := by
  intro x hx
  rcases List.mem_or_eq_of_mem_set hx with hx | rfl
  · exact h x hx
  · exact ⟨h0, h1⟩

/-- An operand that fits. -/
def OpOK (V : Int) (n : Nat) (nm : Bool) (v : Nat) : Prop := (nm = true → v < n) ∧ (nm = false → (v : Int) < V)

theorem vl_bd {V : Int} {σ : List Int} {n : Nat} {nm : Bool} {v : Nat} (h : Fits V σ) (ho : OpOK V n nm v) (hn : n ≤ σ.length) : 0 ≤ vl σ nm v ∧ vl σ nm v < V := by
  unfold vl
  cases nm with
  | true => exact h.get v (by have := ho.1 rfl; omega)
  | false => exact ⟨by simp, ho.2 rfl⟩

theorem Mac.grown {w w' : World} {b gs : Nat} {W V n m view : Int} {σ : List Int} {sv : Value} {steps : ByteArray × Value} {tr : Bool} (h : Mac w b gs W V n m view σ sv steps tr) (hg : w.grownBy w' none) : Mac w' b gs W V n m view σ sv steps tr :=
  ⟨h.1.grown hg (by simp), h.2.1.grown hg (by simp), h.2.2⟩
theorem Sn.grown {w w' : World} {b : Nat} {sv : Value} {sn : List Int} (h : Sn w b sv sn) (hg : w.grownBy w' none) : Sn w' b sv sn := World.ownsRow.kept h hg (by
  cases h' : sv.ownBlock with
  | none => exact .inl rfl
  | some k => exact .inr (by simp))
theorem Fr.grown {w w1 w2 : World} {b gs : Nat} (h : Fr gs b w w1) (hg : w1.grownBy w2 none) (hs : gs ≤ w1.heap.size) : Fr gs b w w2 := ⟨h.below.trans ⟨hg.os, hg.tape, hg.output, hg.size, fun k hk => hg.block k (by omega) (by simp)⟩, fun i cs t f a b' c d => by
  have hk := h.keep i cs t f a b' c d
  have hl : i < w1.heap.size := (Array.getElem?_eq_some_iff.1 hk).1
  rw [hg.block i hl (by simp)]; exact hk⟩

section
variable {w : World} {b gs : Nat} {W : Nat} {view : Int} {n m : Nat} {σ : List Int} {sv : Value} {sn : List Int} {steps : ByteArray × Value}

/-- What a set does: the state, what is seen, whether it traps. -/
def actSet (V view : Int) (σ : List Int) (var : Nat) (xn : Bool) (xv : Nat) (op : Int) (yn : Bool) (yv : Nat) : List Int × List Int × Bool :=
  if isDiv op = true then (if vl σ yn yv = 0 then (σ, sdB view (vl σ xn xv) (vl σ yn yv), true) else (σ.set var (opr V op (vl σ xn xv) (vl σ yn yv)), sdB view (vl σ xn xv) (vl σ yn yv), false))
  else (σ.set var (opr V op (vl σ xn xv) (vl σ yn yv)), [], false)

set_option maxHeartbeats 4000000 in
theorem mset_plain (hM : Mac w b gs W (pw W) n m view σ sv steps false) (hS : Sn w b sv sn) (hW : W ≤ 8) (hfit : Fits (pw W) σ) (hn : n ≤ σ.length)
    (k : Int) (var xv yv : Nat) (xn yn : Bool) (op yes no sec beh : Int) (hvar : var < n) (hx : OpOK (pw W) n xn xv) (hy : OpOK (pw W) n yn yv) (ho : isOp op = true) (hnd : isDiv op = false) :
    Calls Try.prog 89 #[.pointer (some ⟨b, 0, none⟩), .agg #[.int .u8 k, .int .i64 var, .bool xn, .int .i64 xv, .int .u8 op, .bool yn, .int .i64 yv, .int .i64 yes, .int .i64 no, .int .i64 sec, .int .i64 beh]] w fun e w' => e = .returned (.tuple #[]) ∧ Mac w' b gs W (pw W) n m view (σ.set var (opr (pw W) op (vl σ xn xv) (vl σ yn yv))) sv steps false ∧ Sn w' b sv sn ∧ Fr gs b w w' := by
  have bx := vl_bd hfit hx hn
  have by' := vl_bd hfit hy hn
  have hpb := pw_bd W hW
  have hbl : b < w.heap.size := hM.1.lt
  have hgl := hM.2.2
  obtain ⟨xx, hxx⟩ : ∃ xx : Nat, vl σ xn xv = (xx : Int) := ⟨(vl σ xn xv).toNat, by omega⟩
  obtain ⟨yy, hyy⟩ : ∃ yy : Nat, vl σ yn yv = (yy : Int) := ⟨(vl σ yn yv).toNat, by omega⟩
  rw [hxx, hyy]
  rw [hxx] at bx
  rw [hyy] at by'
  unfold vl at hxx hyy
  have Hx := hide hxx
  have Hy := hide hyy
  have Hnd := hide hnd
  have Ho := hide ho
  clear hxx hyy hnd ho
  have hM1 : ∀ o, Mac (w.alloc o) b gs W (pw W) n m view σ sv steps false := fun o => hM.alloc o
  have hA := At.new w 74 #[.int .u8 k, .int .i64 var, .bool xn, .int .i64 xv, .int .u8 op, .bool yn, .int .i64 yv, .int .i64 yes, .int .i64 no, .int .i64 sec, .int .i64 beh]
  have HA := hide hA
  clear hA
  have Hap := hide (fun w0 => apply_any steps.1 W n m op xx yy bx.2 by'.2 hW (fun e => by rw [unhide Hnd] at e; cases e) (unhide Ho) w0)
  generalize hr : opr (pw W) op xx yy = r at *
  have Hr := hide hr
  clear hr
  generalize hV : pw W = V at *
  have HV := hide hV
  clear hV
  go_enter Try.func89, Try.ntmps89
  go_wp2_with fail
  refine (mvalue_any (hM1 _) xn xv (fun e => by have := hx.1 e; omega)).mono ?_
  rintro e w2 ⟨rfl, hF2, hg2⟩
  rw [unhide Hx]
  have hA2 := At.grown (unhide HA) hg2 (by simp)
  have hM2 := Mac.grown (hM1 _) hg2
  obtain ⟨d0, d1, d2, d3, d4, d5, d6, d7, d8, d9, d10, df⟩ := At.elv hA2
  go_wp2_with fail
  refine (mvalue_any hM2 yn yv (fun e => by have := hy.1 e; omega)).mono ?_
  rintro e w3 ⟨rfl, hF3, hg3⟩
  rw [unhide Hy]
  have hA3 := At.grown hA2 hg3 (by simp)
  have hM3 := Mac.grown hM2 hg3
  have hS3 := Sn.grown (Sn.grown (Sn.alloc hS _) hg2) hg3
  have hF := ((Fr.refl gs b w).alloc (by omega) _).trans (hF2.trans hF3)
  clear d0 d1 d2 d3 d4 d5 d6 d7 d8 d9 d10 df hA2 hM2 hF2 hF3 hg2 hg3
  obtain ⟨d0, d1, d2, d3, d4, d5, d6, d7, d8, d9, d10, df⟩ := At.elv hA3
  obtain ⟨m0, m1, m2, m3, m4, m5, m6, m7, m8, mt, mf⟩ := hM3.nine
  go_wp2_with fail
  refine (divides_any op _).mono ?_
  rintro e w' ⟨rfl, rfl⟩
  rw [unhide Hnd]
  go_wp2_with fail
  have cS := hM3.cellS var (by omega)
  have fS := hM3.frozenS var
  have hvl : (var : Int) < (σ.length : Int) := by omega
  go_region_held3 (fun w' => w'.cell? ⟨b, 0, none⟩ = some (.string steps.1) ∧ w'.cell? ⟨b, 1, none⟩ = some (.int .i64 W) ∧ w'.cell? ⟨b, 2, none⟩ = some (.int .i64 V) ∧ w'.cell? ⟨b, 3, none⟩ = some (.int .i64 n) ∧ w'.cell? ⟨b, 4, none⟩ = some (.int .i64 m) ∧ w'.cell? ⟨b, 6, none⟩ = some (.slice (some ⟨gs, 0, none⟩) σ.length σ.length) ∧ w'.cell? ⟨w.heap.size, 1, none⟩ = some (.int .i64 var) ∧ w'.cell? ⟨w.heap.size, 4, none⟩ = some (.int .u8 op)) (first | assumption | go_keep)
    ((go_at_call 111; refine (unhide Hap _).mono ?_; rintro e w4 ⟨rfl, hg4⟩; have hM4 := Mac.grown (Mac.drewN hM3 1) hg4; have hA4 := At.grown (At.drewN hA3 1) hg4 (by simp); have hcS4 := hM4.cellS var (by omega); have hfS4 := hM4.frozenS var; obtain ⟨q0, q1, q2, q3, q4, q5, q6, q7, q8, qt, qf⟩ := hM4.nine; obtain ⟨p0, p1, p2, p3, p4, p5, p6, p7, p8, p9, p10, pf⟩ := At.elv hA4; have hS4 := And.intro qt (And.intro q0 (And.intro q1 (And.intro q2 (And.intro q3 (And.intro q5 (And.intro p1 p4)))))); have hM5 := hM4.1.other (a := ⟨gs, var, none⟩) (.int .i64 r) (by show gs ≠ b; omega); have hA5 := hA4.other (a := ⟨gs, var, none⟩) (.int .i64 r) (by show gs ≠ w.heap.size; omega); obtain ⟨t0, t1, t2, t3, t4, t5, t6, t7, t8, tt, tf⟩ := At.mten hM5; obtain ⟨s0, s1, s2, s3, s4, s5, s6, s7, s8, s9, s10, sf⟩ := At.elv hA5; have hS5 := And.intro tt (And.intro t0 (And.intro t1 (And.intro t2 (And.intro t3 (And.intro t5 (And.intro s1 s4))))))))
  go_wp2_with fail
  go_end0
  exact ⟨rfl, hM4.setS var r, (Sn.grown (Sn.drewN hS3 1) hg4).set _ (Nat.le_of_lt hgl), ((hF.drewN 1).grown hg4 (by have := hM3.2.1.lt; simp; omega)).set _ (Nat.le_refl _) (.inl rfl)⟩

set_option maxHeartbeats 4000000 in
theorem mset_div (hM : Mac w b gs W (pw W) n m view σ sv steps false) (hS : Sn w b sv sn) (hW : W ≤ 8) (hfit : Fits (pw W) σ) (hn : n ≤ σ.length)
    (k : Int) (var xv yv : Nat) (xn yn : Bool) (op yes no sec beh : Int) (hvar : var < n) (hx : OpOK (pw W) n xn xv) (hy : OpOK (pw W) n yn yv) (ho : isOp op = true) (hnd : isDiv op = true) (hnz : vl σ yn yv ≠ 0) (hsl : sn.length ≤ 90000) :
    Calls Try.prog 89 #[.pointer (some ⟨b, 0, none⟩), .agg #[.int .u8 k, .int .i64 var, .bool xn, .int .i64 xv, .int .u8 op, .bool yn, .int .i64 yv, .int .i64 yes, .int .i64 no, .int .i64 sec, .int .i64 beh]] w fun e w' => e = .returned (.tuple #[]) ∧ ∃ sv', Mac w' b gs W (pw W) n m view (σ.set var (opr (pw W) op (vl σ xn xv) (vl σ yn yv))) sv' steps false ∧ Sn w' b sv' (sn ++ sdB view (vl σ xn xv) (vl σ yn yv)) ∧ Fr gs b w w' := by
  have bx := vl_bd hfit hx hn
  have by' := vl_bd hfit hy hn
  have hpb := pw_bd W hW
  have hbl : b < w.heap.size := hM.1.lt
  have hgl := hM.2.2
  obtain ⟨xx, hxx⟩ : ∃ xx : Nat, vl σ xn xv = (xx : Int) := ⟨(vl σ xn xv).toNat, by omega⟩
  obtain ⟨yy, hyy⟩ : ∃ yy : Nat, vl σ yn yv = (yy : Int) := ⟨(vl σ yn yv).toNat, by omega⟩
  rw [hyy] at hnz
  rw [hxx, hyy]
  rw [hxx] at bx
  rw [hyy] at by'
  unfold vl at hxx hyy
  have Hx := hide hxx
  have Hy := hide hyy
  have Hnd := hide hnd
  have Ho := hide ho
  clear hxx hyy hnd ho
  have hM1 : ∀ o, Mac (w.alloc o) b gs W (pw W) n m view σ sv steps false := fun o => hM.alloc o
  have hA := At.new w 74 #[.int .u8 k, .int .i64 var, .bool xn, .int .i64 xv, .int .u8 op, .bool yn, .int .i64 yv, .int .i64 yes, .int .i64 no, .int .i64 sec, .int .i64 beh]
  have HA := hide hA
  clear hA
  have Hap := hide (fun w0 => apply_any steps.1 W n m op xx yy bx.2 by'.2 hW (fun _ => by omega) (unhide Ho) w0)
  generalize hr : opr (pw W) op xx yy = r at *
  have Hr := hide hr
  clear hr
  generalize hV : pw W = V at *
  have HV := hide hV
  clear hV
  go_enter Try.func89, Try.ntmps89
  go_wp2_with fail
  refine (mvalue_any (hM1 _) xn xv (fun e => by have := hx.1 e; omega)).mono ?_
  rintro e w2 ⟨rfl, hF2, hg2⟩
  rw [unhide Hx]
  have hA2 := At.grown (unhide HA) hg2 (by simp)
  have hM2 := Mac.grown (hM1 _) hg2
  obtain ⟨d0, d1, d2, d3, d4, d5, d6, d7, d8, d9, d10, df⟩ := At.elv hA2
  go_wp2_with fail
  refine (mvalue_any hM2 yn yv (fun e => by have := hy.1 e; omega)).mono ?_
  rintro e w3 ⟨rfl, hF3, hg3⟩
  rw [unhide Hy]
  have hA3 := At.grown hA2 hg3 (by simp)
  have hM3 := Mac.grown hM2 hg3
  have hS3 := Sn.grown (Sn.grown (Sn.alloc hS _) hg2) hg3
  have hF := ((Fr.refl gs b w).alloc (by omega) _).trans (hF2.trans hF3)
  clear d0 d1 d2 d3 d4 d5 d6 d7 d8 d9 d10 df hA2 hM2 hF2 hF3 hg2 hg3
  obtain ⟨d0, d1, d2, d3, d4, d5, d6, d7, d8, d9, d10, df⟩ := At.elv hA3
  obtain ⟨m0, m1, m2, m3, m4, m5, m6, m7, m8, mt, mf⟩ := hM3.nine
  go_wp2_with fail
  refine (divides_any op _).mono ?_
  rintro e w' ⟨rfl, rfl⟩
  rw [unhide Hnd]
  go_wp2_with fail
  refine (seeDivision_any hM3 hS3 hsl xx yy (by omega) (by omega) (by omega) (by omega)).mono ?_
  rintro e w5 ⟨rfl, sv5, hM5, hS5, hF5⟩
  rw [if_neg hnz] at hM5
  have hA5 := hF5.at_ hA3 (by decide) (by have := hM3.2.1.lt; omega) (by omega)
  have hF := hF.trans hF5
  clear d0 d1 d2 d3 d4 d5 d6 d7 d8 d9 d10 df m0 m1 m2 m3 m4 m5 m6 m7 m8 mt mf hM3 hS3 hA3 hF5
  have hM3 := hM5
  have hS3 := hS5
  have hA3 := hA5
  clear hM5 hS5 hA5
  obtain ⟨d0, d1, d2, d3, d4, d5, d6, d7, d8, d9, d10, df⟩ := At.elv hA3
  obtain ⟨m0, m1, m2, m3, m4, m5, m6, m7, m8, mt, mf⟩ := hM3.nine
  go_wp2_with fail
  have cS := hM3.cellS var (by omega)
  have fS := hM3.frozenS var
  have hvl : (var : Int) < (σ.length : Int) := by omega
  go_region_held3 (fun w' => w'.cell? ⟨b, 0, none⟩ = some (.string steps.1) ∧ w'.cell? ⟨b, 1, none⟩ = some (.int .i64 W) ∧ w'.cell? ⟨b, 2, none⟩ = some (.int .i64 V) ∧ w'.cell? ⟨b, 3, none⟩ = some (.int .i64 n) ∧ w'.cell? ⟨b, 4, none⟩ = some (.int .i64 m) ∧ w'.cell? ⟨b, 6, none⟩ = some (.slice (some ⟨gs, 0, none⟩) σ.length σ.length) ∧ w'.cell? ⟨w.heap.size, 1, none⟩ = some (.int .i64 var) ∧ w'.cell? ⟨w.heap.size, 4, none⟩ = some (.int .u8 op)) (first | assumption | go_keep)
    ((go_at_call 111; refine (unhide Hap _).mono ?_; rintro e w4 ⟨rfl, hg4⟩; have hM4 := Mac.grown (Mac.drewN hM3 1) hg4; have hA4 := At.grown (At.drewN hA3 1) hg4 (by simp); have hcS4 := hM4.cellS var (by omega); have hfS4 := hM4.frozenS var; obtain ⟨q0, q1, q2, q3, q4, q5, q6, q7, q8, qt, qf⟩ := hM4.nine; obtain ⟨p0, p1, p2, p3, p4, p5, p6, p7, p8, p9, p10, pf⟩ := At.elv hA4; have hS4 := And.intro qt (And.intro q0 (And.intro q1 (And.intro q2 (And.intro q3 (And.intro q5 (And.intro p1 p4)))))); have hM5 := hM4.1.other (a := ⟨gs, var, none⟩) (.int .i64 r) (by show gs ≠ b; omega); have hA5 := hA4.other (a := ⟨gs, var, none⟩) (.int .i64 r) (by show gs ≠ w.heap.size; omega); obtain ⟨t0, t1, t2, t3, t4, t5, t6, t7, t8, tt, tf⟩ := At.mten hM5; obtain ⟨s0, s1, s2, s3, s4, s5, s6, s7, s8, s9, s10, sf⟩ := At.elv hA5; have hS5 := And.intro tt (And.intro t0 (And.intro t1 (And.intro t2 (And.intro t3 (And.intro t5 (And.intro s1 s4))))))))
  go_wp2_with fail
  go_end0
  exact ⟨rfl, _, hM4.setS var r, (Sn.grown (Sn.drewN hS3 1) hg4).set _ (Nat.le_of_lt hgl), ((hF.drewN 1).grown hg4 (by have := hM3.2.1.lt; simp; omega)).set _ (Nat.le_refl _) (.inl rfl)⟩

set_option maxHeartbeats 4000000 in
theorem mset_trap (hM : Mac w b gs W (pw W) n m view σ sv steps false) (hS : Sn w b sv sn) (hW : W ≤ 8) (hfit : Fits (pw W) σ) (hn : n ≤ σ.length)
    (k : Int) (var xv yv : Nat) (xn yn : Bool) (op yes no sec beh : Int) (hx : OpOK (pw W) n xn xv) (hy : OpOK (pw W) n yn yv) (ho : isOp op = true) (hnd : isDiv op = true) (hnz : vl σ yn yv = 0) (hsl : sn.length ≤ 90000) :
    Calls Try.prog 89 #[.pointer (some ⟨b, 0, none⟩), .agg #[.int .u8 k, .int .i64 var, .bool xn, .int .i64 xv, .int .u8 op, .bool yn, .int .i64 yv, .int .i64 yes, .int .i64 no, .int .i64 sec, .int .i64 beh]] w fun e w' => e = .returned (.tuple #[]) ∧ ∃ sv', Mac w' b gs W (pw W) n m view σ sv' steps true ∧ Sn w' b sv' (sn ++ sdB view (vl σ xn xv) (vl σ yn yv)) ∧ Fr gs b w w' := by
  have bx := vl_bd hfit hx hn
  have by' := vl_bd hfit hy hn
  have hpb := pw_bd W hW
  have hbl : b < w.heap.size := hM.1.lt
  have hgl := hM.2.2
  obtain ⟨xx, hxx⟩ : ∃ xx : Nat, vl σ xn xv = (xx : Int) := ⟨(vl σ xn xv).toNat, by omega⟩
  obtain ⟨yy, hyy⟩ : ∃ yy : Nat, vl σ yn yv = (yy : Int) := ⟨(vl σ yn yv).toNat, by omega⟩
  rw [hyy] at hnz
  rw [hxx, hyy]
  have Hnz := hide hnz
  clear hnz
  rw [hxx] at bx
  rw [hyy] at by'
  unfold vl at hxx hyy
  have Hx := hide hxx
  have Hy := hide hyy
  have Hnd := hide hnd
  have Ho := hide ho
  clear hxx hyy hnd ho
  have hM1 : ∀ o, Mac (w.alloc o) b gs W (pw W) n m view σ sv steps false := fun o => hM.alloc o
  have hA := At.new w 74 #[.int .u8 k, .int .i64 var, .bool xn, .int .i64 xv, .int .u8 op, .bool yn, .int .i64 yv, .int .i64 yes, .int .i64 no, .int .i64 sec, .int .i64 beh]
  have HA := hide hA
  clear hA
  generalize hV : pw W = V at *
  have HV := hide hV
  clear hV
  go_enter Try.func89, Try.ntmps89
  go_wp2_with fail
  refine (mvalue_any (hM1 _) xn xv (fun e => by have := hx.1 e; omega)).mono ?_
  rintro e w2 ⟨rfl, hF2, hg2⟩
  rw [unhide Hx]
  have hA2 := At.grown (unhide HA) hg2 (by simp)
  have hM2 := Mac.grown (hM1 _) hg2
  obtain ⟨d0, d1, d2, d3, d4, d5, d6, d7, d8, d9, d10, df⟩ := At.elv hA2
  go_wp2_with fail
  refine (mvalue_any hM2 yn yv (fun e => by have := hy.1 e; omega)).mono ?_
  rintro e w3 ⟨rfl, hF3, hg3⟩
  rw [unhide Hy]
  have hA3 := At.grown hA2 hg3 (by simp)
  have hM3 := Mac.grown hM2 hg3
  have hS3 := Sn.grown (Sn.grown (Sn.alloc hS _) hg2) hg3
  have hF := ((Fr.refl gs b w).alloc (by omega) _).trans (hF2.trans hF3)
  clear d0 d1 d2 d3 d4 d5 d6 d7 d8 d9 d10 df hA2 hM2 hF2 hF3 hg2 hg3
  obtain ⟨d0, d1, d2, d3, d4, d5, d6, d7, d8, d9, d10, df⟩ := At.elv hA3
  obtain ⟨m0, m1, m2, m3, m4, m5, m6, m7, m8, mt, mf⟩ := hM3.nine
  go_wp2_with fail
  refine (divides_any op _).mono ?_
  rintro e w' ⟨rfl, rfl⟩
  rw [unhide Hnd]
  go_wp2_with fail
  refine (seeDivision_any hM3 hS3 hsl xx yy (by omega) (by omega) (by omega) (by omega)).mono ?_
  rintro e w5 ⟨rfl, sv5, hM5, hS5, hF5⟩
  have hM5 : Mac w5 b gs W V n m view σ sv5 steps true := by have h := hM5; rw [if_pos (unhide Hnz)] at h; exact h
  have hA5 := hF5.at_ hA3 (by decide) (by have := hM3.2.1.lt; omega) (by omega)
  have hF := hF.trans hF5
  clear d0 d1 d2 d3 d4 d5 d6 d7 d8 d9 d10 df m0 m1 m2 m3 m4 m5 m6 m7 m8 mt mf hM3 hS3 hA3 hF5
  have hM3 := hM5
  have hS3 := hS5
  have hA3 := hA5
  clear hM5 hS5 hA5
  obtain ⟨d0, d1, d2, d3, d4, d5, d6, d7, d8, d9, d10, df⟩ := At.elv hA3
  obtain ⟨m0, m1, m2, m3, m4, m5, m6, m7, m8, mt, mf⟩ := hM3.nine
  go_wp2_with fail
  go_end0
  exact ⟨rfl, _, hM3, hS3, hF⟩
end
end Go.Proofs.Ytnkbfdbbcaffmab
/-
  A command and the text that it stands at.
-/
namespace Go.Proofs.Ytnkbfdbbcaffmab
open Go.RowKit

/-- The value of an operand's byte. -/
def vb (N : Int) (σ : List Int) (c : Int) : Int := if 97 ≤ c then σ.getD (c - 97).toNat 0 else (c - 48) % N

/-- How deep a text leads. -/
def dpt : List UInt8 → Int
  | [] => 0
  | c :: l => (if (c.toNat : Int) = 40 then 1 else if (c.toNat : Int) = 41 then -1 else 0) + dpt l
theorem dpt_append : ∀ a b, dpt (a ++ b) = dpt a + dpt b
  | [], b => by simp [dpt]
  | c :: l, b => by simp only [List.cons_append, dpt, dpt_append l b]; omega
theorem dpt_le : ∀ a, dpt a ≤ a.length
  | [] => by simp [dpt]
  | c :: l => by
    have := dpt_le l
    simp only [dpt, List.length_cons]
    split
    · omega
    · split <;> omega
/-- Each bracket has its fellow. -/
def Bal (A : List UInt8) : Prop := dpt A = 0 ∧ ∀ k, 0 ≤ dpt (A.take k)

theorem byte_list (t : ByteArray) (k : Nat) (h : k < t.size) : t.data.toList[k]? = some t[k] := by
  rw [List.getElem?_eq_getElem (by simpa using h)]; rfl
theorem byte_eq {t : ByteArray} {k : Nat} (h : k < t.size) {c : UInt8} (e : t.data.toList[k]? = some c) : t[k] = c := by
  rw [byte_list t k h] at e; exact Option.some.inj e
theorem size_list (t : ByteArray) : t.size = t.data.toList.length := by simp

/-- An operand's byte and what was read of it. -/
def OpRel (V : Int) (n : Nat) (c : UInt8) (nm : Bool) (v : Int) : Prop :=
  (nm = true ∧ (c.toNat : Int) = 97 + v ∧ 0 ≤ v ∧ v < n) ∨ (nm = false ∧ 48 ≤ (c.toNat : Int) ∧ (c.toNat : Int) ≤ 57 ∧ v = ((c.toNat : Int) - 48) % V)

theorem OpRel.low {V : Int} {n : Nat} {c : UInt8} {nm : Bool} {v : Int} (h : OpRel V n c nm v) : 48 ≤ (c.toNat : Int) := by
  rcases h with ⟨_, h1, h2, _⟩ | ⟨_, h1, _⟩ <;> omega
theorem OpRel.high {V : Int} {n : Nat} {c : UInt8} {nm : Bool} {v : Int} (h : OpRel V n c nm v) {σ : List Int} (hn : n ≤ σ.length) : 97 ≤ (c.toNat : Int) → ((c.toNat : Int) - 97).toNat < σ.length := by
  intro hc
  rcases h with ⟨_, h1, h2, h3⟩ | ⟨_, h1, h2, _⟩ <;> omega
theorem OpRel.val {V : Int} {n : Nat} {c : UInt8} {nm : Bool} {v : Int} (h : OpRel V n c nm v) (hV : 1 ≤ V) (σ : List Int) : vb V σ c.toNat = vl σ nm v.toNat := by
  unfold vb vl
  rcases h with ⟨rfl, h1, h2, h3⟩ | ⟨rfl, h1, h2, h3⟩
  · rw [if_pos (by omega), if_pos rfl, h1, show (97 + v - 97) = v from by omega]
  · have : 0 ≤ v := by rw [h3]; exact Int.emod_nonneg _ (by omega)
    rw [if_neg (by omega), if_neg (by simp), ← h3]; omega

/-- A command, the text that it stands at, the texts that follow. -/
def Does (V : Int) (n : Nat) (c : Cm) (t a b : List UInt8) : Prop :=
  (∃ (v x o y : UInt8) (r : List UInt8), t = 61 :: v :: x :: o :: y :: r ∧ a = r ∧ c.kind = 61 ∧ (v.toNat : Int) = 97 + c.var ∧ OpRel V n x c.xn c.xv ∧ (o.toNat : Int) = c.op ∧ OpRel V n y c.yn c.yv) ∨
  (∃ (v x : UInt8) (r : List UInt8), t = 108 :: v :: x :: r ∧ a = r ∧ c.kind = 108 ∧ (v.toNat : Int) = 97 + c.var ∧ OpRel V n x c.xn c.xv) ∨
  (∃ (x y : UInt8) (r : List UInt8), t = 115 :: x :: y :: r ∧ a = r ∧ c.kind = 115 ∧ OpRel V n x c.xn c.xv ∧ OpRel V n y c.yn c.yv) ∨
  (∃ (x : UInt8) (A B r : List UInt8), t = 63 :: x :: 40 :: (A ++ 41 :: 40 :: (B ++ 41 :: r)) ∧ a = A ++ r ∧ b = B ++ r ∧ c.kind = 63 ∧ OpRel V n x c.xn c.xv ∧ Bal A ∧ Bal B) ∨
  (∃ (x : UInt8) (A r : List UInt8), t = 33 :: x :: 40 :: (A ++ 41 :: r) ∧ a = A ++ (33 :: x :: 40 :: (A ++ 41 :: r)) ∧ b = r ∧ c.kind = 33 ∧ OpRel V n x c.xn c.xv ∧ Bal A)
section
variable {V : Int} {n : Nat} {c : Cm}
theorem Does.set (v x o y : UInt8) (r tn : List UInt8) (h1 : c.kind = 61) (h2 : (v.toNat : Int) = 97 + c.var) (h3 : OpRel V n x c.xn c.xv) (h4 : (o.toNat : Int) = c.op) (h5 : OpRel V n y c.yn c.yv) : Does V n c (61 :: v :: x :: o :: y :: r) r tn :=
  .inl ⟨v, x, o, y, r, rfl, rfl, h1, h2, h3, h4, h5⟩
theorem Does.load (v x : UInt8) (r tn : List UInt8) (h1 : c.kind = 108) (h2 : (v.toNat : Int) = 97 + c.var) (h3 : OpRel V n x c.xn c.xv) : Does V n c (108 :: v :: x :: r) r tn :=
  .inr (.inl ⟨v, x, r, rfl, rfl, h1, h2, h3⟩)
theorem Does.store (x y : UInt8) (r tn : List UInt8) (h1 : c.kind = 115) (h2 : OpRel V n x c.xn c.xv) (h3 : OpRel V n y c.yn c.yv) : Does V n c (115 :: x :: y :: r) r tn :=
  .inr (.inr (.inl ⟨x, y, r, rfl, rfl, h1, h2, h3⟩))
theorem Does.branch (x : UInt8) (A B r : List UInt8) (h1 : c.kind = 63) (h2 : OpRel V n x c.xn c.xv) (h3 : Bal A) (h4 : Bal B) : Does V n c (63 :: x :: 40 :: (A ++ 41 :: 40 :: (B ++ 41 :: r))) (A ++ r) (B ++ r) :=
  .inr (.inr (.inr (.inl ⟨x, A, B, r, rfl, rfl, rfl, h1, h2, h3, h4⟩)))
theorem Does.loop (x : UInt8) (A r : List UInt8) (h1 : c.kind = 33) (h2 : OpRel V n x c.xn c.xv) (h3 : Bal A) : Does V n c (33 :: x :: 40 :: (A ++ 41 :: r)) (A ++ (33 :: x :: 40 :: (A ++ 41 :: r))) r :=
  .inr (.inr (.inr (.inr ⟨x, A, r, rfl, rfl, rfl, h1, h2, h3⟩)))
end
end Go.Proofs.Ytnkbfdbbcaffmab
