/-
  The machine's step.
-/
import Derived.Test.YtfolokhilkffcaaMach4
namespace Go.Proofs.Ytfolokhilkffcaa
open Go.RowKit

section
variable {w : World} {b gs : Nat} {W : Nat} {V view : Int} {n m : Nat} {σ σ' : List Int} {sv : Value} {sn sn' : List Int} {steps : Int} {tr : Bool}
variable {var xv yv : Nat} {xn yn : Bool} {op yes no : Int}

set_option maxHeartbeats 2000000 in
theorem step_set (hM : Mac w b gs W V n m view σ sv steps false) (hS : Sn w b sv sn) (_h0 : 0 ≤ steps) (_h1 : steps ≤ 10000)
    (hcall : ∀ w1, Mac w1 b gs W V n m view σ sv (steps + 1) false → Sn w1 b sv sn → Calls Try.prog 45 #[.pointer (some ⟨b, 0, none⟩), .agg #[.int .u8 61, .int .i64 var, .bool xn, .int .i64 xv, .int .u8 op, .bool yn, .int .i64 yv, .int .i64 yes, .int .i64 no]] w1 fun e w' => e = .returned (.tuple #[]) ∧ ∃ sv', Mac w' b gs W V n m view σ' sv' (steps + 1) tr ∧ Sn w' b sv' sn' ∧ Fr gs b w1 w') :
    Calls Try.prog 37 #[.pointer (some ⟨b, 0, none⟩), .agg #[.int .u8 61, .int .i64 var, .bool xn, .int .i64 xv, .int .u8 op, .bool yn, .int .i64 yv, .int .i64 yes, .int .i64 no]] w fun e w' => e = .returned (.int .i64 yes) ∧ ∃ sv', Mac w' b gs W V n m view σ' sv' (steps + 1) tr ∧ Sn w' b sv' sn' ∧ Fr gs b w w' := by
  have hbl : b < w.heap.size := hM.1.lt
  have hgl := hM.2.2
  have hgs := hM.2.1.lt
  obtain ⟨m0, m1, m2, m3, m4, m5, m6, m7, m8, mf⟩ := hM.nine
  have Hcall := hide hcall
  clear hcall
  have hA1 : At ((w.setCell ⟨b, 7, none⟩ (.int .i64 (steps + 1))).alloc (.cells #[.int .u8 61, .int .i64 var, .bool xn, .int .i64 xv, .int .u8 op, .bool yn, .int .i64 yv, .int .i64 yes, .int .i64 no] 74)) w.heap.size 74 #[.int .u8 61, .int .i64 var, .bool xn, .int .i64 xv, .int .u8 op, .bool yn, .int .i64 yv, .int .i64 yes, .int .i64 no] := by
    have h := At.new (w.setCell ⟨b, 7, none⟩ (.int .i64 (steps + 1))) 74 #[.int .u8 61, .int .i64 var, .bool xn, .int .i64 xv, .int .u8 op, .bool yn, .int .i64 yv, .int .i64 yes, .int .i64 no]
    simpa [World.setCell] using h
  have hM1 := (hM.setSteps (steps + 1)).alloc (.cells #[.int .u8 61, .int .i64 var, .bool xn, .int .i64 xv, .int .u8 op, .bool yn, .int .i64 yv, .int .i64 yes, .int .i64 no] 74)
  have hS1 := (hS.set (a := ⟨b, 7, none⟩) (.int .i64 (steps + 1)) (Nat.le_refl _)).alloc (.cells #[.int .u8 61, .int .i64 var, .bool xn, .int .i64 xv, .int .u8 op, .bool yn, .int .i64 yv, .int .i64 yes, .int .i64 no] 74)
  have hF1 := ((Fr.refl gs b w).set (a := ⟨b, 7, none⟩) (.int .i64 (steps + 1)) (Nat.le_of_lt hgl) (.inr (.inl rfl))).alloc (by simp [World.setCell]; omega) (.cells #[.int .u8 61, .int .i64 var, .bool xn, .int .i64 xv, .int .u8 op, .bool yn, .int .i64 yv, .int .i64 yes, .int .i64 no] 74)
  have HA1 := hide hA1
  clear hA1
  go_enter Try.func37, Try.ntmps37
  go_wp2_with fail
  refine (unhide Hcall _ hM1 hS1).mono ?_
  rintro e w2 ⟨rfl, sv2, hM2, hS2, hF2⟩
  have hA2 := hF2.at_ (unhide HA1) (by decide) (by omega) (by omega)
  obtain ⟨d0, d1, d2, d3, d4, d5, d6, d7, d8, df⟩ := At.nine hA2
  go_wp2_with fail
  go_ret
  exact ⟨rfl, _, hM2, hS2, hF1.trans hF2⟩

set_option maxHeartbeats 2000000 in
theorem step_load (hM : Mac w b gs W V n m view σ sv steps false) (hS : Sn w b sv sn) (_h0 : 0 ≤ steps) (_h1 : steps ≤ 10000)
    (hcall : ∀ w1, Mac w1 b gs W V n m view σ sv (steps + 1) false → Sn w1 b sv sn → Calls Try.prog 46 #[.pointer (some ⟨b, 0, none⟩), .agg #[.int .u8 108, .int .i64 var, .bool xn, .int .i64 xv, .int .u8 op, .bool yn, .int .i64 yv, .int .i64 yes, .int .i64 no]] w1 fun e w' => e = .returned (.tuple #[]) ∧ ∃ sv', Mac w' b gs W V n m view σ' sv' (steps + 1) tr ∧ Sn w' b sv' sn' ∧ Fr gs b w1 w') :
    Calls Try.prog 37 #[.pointer (some ⟨b, 0, none⟩), .agg #[.int .u8 108, .int .i64 var, .bool xn, .int .i64 xv, .int .u8 op, .bool yn, .int .i64 yv, .int .i64 yes, .int .i64 no]] w fun e w' => e = .returned (.int .i64 yes) ∧ ∃ sv', Mac w' b gs W V n m view σ' sv' (steps + 1) tr ∧ Sn w' b sv' sn' ∧ Fr gs b w w' := by
  have hbl : b < w.heap.size := hM.1.lt
  have hgl := hM.2.2
  have hgs := hM.2.1.lt
  obtain ⟨m0, m1, m2, m3, m4, m5, m6, m7, m8, mf⟩ := hM.nine
  have Hcall := hide hcall
  clear hcall
  have hA1 : At ((w.setCell ⟨b, 7, none⟩ (.int .i64 (steps + 1))).alloc (.cells #[.int .u8 108, .int .i64 var, .bool xn, .int .i64 xv, .int .u8 op, .bool yn, .int .i64 yv, .int .i64 yes, .int .i64 no] 74)) w.heap.size 74 #[.int .u8 108, .int .i64 var, .bool xn, .int .i64 xv, .int .u8 op, .bool yn, .int .i64 yv, .int .i64 yes, .int .i64 no] := by
    have h := At.new (w.setCell ⟨b, 7, none⟩ (.int .i64 (steps + 1))) 74 #[.int .u8 108, .int .i64 var, .bool xn, .int .i64 xv, .int .u8 op, .bool yn, .int .i64 yv, .int .i64 yes, .int .i64 no]
    simpa [World.setCell] using h
  have hM1 := (hM.setSteps (steps + 1)).alloc (.cells #[.int .u8 108, .int .i64 var, .bool xn, .int .i64 xv, .int .u8 op, .bool yn, .int .i64 yv, .int .i64 yes, .int .i64 no] 74)
  have hS1 := (hS.set (a := ⟨b, 7, none⟩) (.int .i64 (steps + 1)) (Nat.le_refl _)).alloc (.cells #[.int .u8 108, .int .i64 var, .bool xn, .int .i64 xv, .int .u8 op, .bool yn, .int .i64 yv, .int .i64 yes, .int .i64 no] 74)
  have hF1 := ((Fr.refl gs b w).set (a := ⟨b, 7, none⟩) (.int .i64 (steps + 1)) (Nat.le_of_lt hgl) (.inr (.inl rfl))).alloc (by simp [World.setCell]; omega) (.cells #[.int .u8 108, .int .i64 var, .bool xn, .int .i64 xv, .int .u8 op, .bool yn, .int .i64 yv, .int .i64 yes, .int .i64 no] 74)
  have HA1 := hide hA1
  clear hA1
  go_enter Try.func37, Try.ntmps37
  go_wp2_with fail
  refine (unhide Hcall _ hM1 hS1).mono ?_
  rintro e w2 ⟨rfl, sv2, hM2, hS2, hF2⟩
  have hA2 := hF2.at_ (unhide HA1) (by decide) (by omega) (by omega)
  obtain ⟨d0, d1, d2, d3, d4, d5, d6, d7, d8, df⟩ := At.nine hA2
  go_wp2_with fail
  go_ret
  exact ⟨rfl, _, hM2, hS2, hF1.trans hF2⟩

set_option maxHeartbeats 2000000 in
theorem step_store (hM : Mac w b gs W V n m view σ sv steps false) (hS : Sn w b sv sn) (_h0 : 0 ≤ steps) (_h1 : steps ≤ 10000)
    (hcall : ∀ w1, Mac w1 b gs W V n m view σ sv (steps + 1) false → Sn w1 b sv sn → Calls Try.prog 47 #[.pointer (some ⟨b, 0, none⟩), .agg #[.int .u8 115, .int .i64 var, .bool xn, .int .i64 xv, .int .u8 op, .bool yn, .int .i64 yv, .int .i64 yes, .int .i64 no]] w1 fun e w' => e = .returned (.tuple #[]) ∧ ∃ sv', Mac w' b gs W V n m view σ' sv' (steps + 1) tr ∧ Sn w' b sv' sn' ∧ Fr gs b w1 w') :
    Calls Try.prog 37 #[.pointer (some ⟨b, 0, none⟩), .agg #[.int .u8 115, .int .i64 var, .bool xn, .int .i64 xv, .int .u8 op, .bool yn, .int .i64 yv, .int .i64 yes, .int .i64 no]] w fun e w' => e = .returned (.int .i64 yes) ∧ ∃ sv', Mac w' b gs W V n m view σ' sv' (steps + 1) tr ∧ Sn w' b sv' sn' ∧ Fr gs b w w' := by
  have hbl : b < w.heap.size := hM.1.lt
  have hgl := hM.2.2
  have hgs := hM.2.1.lt
  obtain ⟨m0, m1, m2, m3, m4, m5, m6, m7, m8, mf⟩ := hM.nine
  have Hcall := hide hcall
  clear hcall
  have hA1 : At ((w.setCell ⟨b, 7, none⟩ (.int .i64 (steps + 1))).alloc (.cells #[.int .u8 115, .int .i64 var, .bool xn, .int .i64 xv, .int .u8 op, .bool yn, .int .i64 yv, .int .i64 yes, .int .i64 no] 74)) w.heap.size 74 #[.int .u8 115, .int .i64 var, .bool xn, .int .i64 xv, .int .u8 op, .bool yn, .int .i64 yv, .int .i64 yes, .int .i64 no] := by
    have h := At.new (w.setCell ⟨b, 7, none⟩ (.int .i64 (steps + 1))) 74 #[.int .u8 115, .int .i64 var, .bool xn, .int .i64 xv, .int .u8 op, .bool yn, .int .i64 yv, .int .i64 yes, .int .i64 no]
    simpa [World.setCell] using h
  have hM1 := (hM.setSteps (steps + 1)).alloc (.cells #[.int .u8 115, .int .i64 var, .bool xn, .int .i64 xv, .int .u8 op, .bool yn, .int .i64 yv, .int .i64 yes, .int .i64 no] 74)
  have hS1 := (hS.set (a := ⟨b, 7, none⟩) (.int .i64 (steps + 1)) (Nat.le_refl _)).alloc (.cells #[.int .u8 115, .int .i64 var, .bool xn, .int .i64 xv, .int .u8 op, .bool yn, .int .i64 yv, .int .i64 yes, .int .i64 no] 74)
  have hF1 := ((Fr.refl gs b w).set (a := ⟨b, 7, none⟩) (.int .i64 (steps + 1)) (Nat.le_of_lt hgl) (.inr (.inl rfl))).alloc (by simp [World.setCell]; omega) (.cells #[.int .u8 115, .int .i64 var, .bool xn, .int .i64 xv, .int .u8 op, .bool yn, .int .i64 yv, .int .i64 yes, .int .i64 no] 74)
  have HA1 := hide hA1
  clear hA1
  go_enter Try.func37, Try.ntmps37
  go_wp2_with fail
  refine (unhide Hcall _ hM1 hS1).mono ?_
  rintro e w2 ⟨rfl, sv2, hM2, hS2, hF2⟩
  have hA2 := hF2.at_ (unhide HA1) (by decide) (by omega) (by omega)
  obtain ⟨d0, d1, d2, d3, d4, d5, d6, d7, d8, df⟩ := At.nine hA2
  go_wp2_with fail
  go_ret
  exact ⟨rfl, _, hM2, hS2, hF1.trans hF2⟩

set_option maxHeartbeats 2000000 in
theorem step_branch {r : Int} (hM : Mac w b gs W V n m view σ sv steps false) (hS : Sn w b sv sn) (_h0 : 0 ≤ steps) (_h1 : steps ≤ 10000)
    (hcall : ∀ w1, Mac w1 b gs W V n m view σ sv (steps + 1) false → Sn w1 b sv sn → Calls Try.prog 48 #[.pointer (some ⟨b, 0, none⟩), .agg #[.int .u8 63, .int .i64 var, .bool xn, .int .i64 xv, .int .u8 op, .bool yn, .int .i64 yv, .int .i64 yes, .int .i64 no]] w1 fun e w' => e = .returned (.int .i64 r) ∧ ∃ sv', Mac w' b gs W V n m view σ' sv' (steps + 1) tr ∧ Sn w' b sv' sn' ∧ Fr gs b w1 w') :
    Calls Try.prog 37 #[.pointer (some ⟨b, 0, none⟩), .agg #[.int .u8 63, .int .i64 var, .bool xn, .int .i64 xv, .int .u8 op, .bool yn, .int .i64 yv, .int .i64 yes, .int .i64 no]] w fun e w' => e = .returned (.int .i64 r) ∧ ∃ sv', Mac w' b gs W V n m view σ' sv' (steps + 1) tr ∧ Sn w' b sv' sn' ∧ Fr gs b w w' := by
  have hbl : b < w.heap.size := hM.1.lt
  have hgl := hM.2.2
  have hgs := hM.2.1.lt
  obtain ⟨m0, m1, m2, m3, m4, m5, m6, m7, m8, mf⟩ := hM.nine
  have Hcall := hide hcall
  clear hcall
  have hA1 : At ((w.setCell ⟨b, 7, none⟩ (.int .i64 (steps + 1))).alloc (.cells #[.int .u8 63, .int .i64 var, .bool xn, .int .i64 xv, .int .u8 op, .bool yn, .int .i64 yv, .int .i64 yes, .int .i64 no] 74)) w.heap.size 74 #[.int .u8 63, .int .i64 var, .bool xn, .int .i64 xv, .int .u8 op, .bool yn, .int .i64 yv, .int .i64 yes, .int .i64 no] := by
    have h := At.new (w.setCell ⟨b, 7, none⟩ (.int .i64 (steps + 1))) 74 #[.int .u8 63, .int .i64 var, .bool xn, .int .i64 xv, .int .u8 op, .bool yn, .int .i64 yv, .int .i64 yes, .int .i64 no]
    simpa [World.setCell] using h
  have hM1 := (hM.setSteps (steps + 1)).alloc (.cells #[.int .u8 63, .int .i64 var, .bool xn, .int .i64 xv, .int .u8 op, .bool yn, .int .i64 yv, .int .i64 yes, .int .i64 no] 74)
  have hS1 := (hS.set (a := ⟨b, 7, none⟩) (.int .i64 (steps + 1)) (Nat.le_refl _)).alloc (.cells #[.int .u8 63, .int .i64 var, .bool xn, .int .i64 xv, .int .u8 op, .bool yn, .int .i64 yv, .int .i64 yes, .int .i64 no] 74)
  have hF1 := ((Fr.refl gs b w).set (a := ⟨b, 7, none⟩) (.int .i64 (steps + 1)) (Nat.le_of_lt hgl) (.inr (.inl rfl))).alloc (by simp [World.setCell]; omega) (.cells #[.int .u8 63, .int .i64 var, .bool xn, .int .i64 xv, .int .u8 op, .bool yn, .int .i64 yv, .int .i64 yes, .int .i64 no] 74)
  have HA1 := hide hA1
  clear hA1
  go_enter Try.func37, Try.ntmps37
  go_wp2_with fail
  refine (unhide Hcall _ hM1 hS1).mono ?_
  rintro e w2 ⟨rfl, sv2, hM2, hS2, hF2⟩
  go_wp2_with fail
  go_ret
  exact ⟨rfl, _, hM2, hS2, hF1.trans hF2⟩

set_option maxHeartbeats 2000000 in
theorem step_loop {r : Int} (hM : Mac w b gs W V n m view σ sv steps false) (hS : Sn w b sv sn) (_h0 : 0 ≤ steps) (_h1 : steps ≤ 10000)
    (hcall : ∀ w1, Mac w1 b gs W V n m view σ sv (steps + 1) false → Sn w1 b sv sn → Calls Try.prog 48 #[.pointer (some ⟨b, 0, none⟩), .agg #[.int .u8 33, .int .i64 var, .bool xn, .int .i64 xv, .int .u8 op, .bool yn, .int .i64 yv, .int .i64 yes, .int .i64 no]] w1 fun e w' => e = .returned (.int .i64 r) ∧ ∃ sv', Mac w' b gs W V n m view σ' sv' (steps + 1) tr ∧ Sn w' b sv' sn' ∧ Fr gs b w1 w') :
    Calls Try.prog 37 #[.pointer (some ⟨b, 0, none⟩), .agg #[.int .u8 33, .int .i64 var, .bool xn, .int .i64 xv, .int .u8 op, .bool yn, .int .i64 yv, .int .i64 yes, .int .i64 no]] w fun e w' => e = .returned (.int .i64 r) ∧ ∃ sv', Mac w' b gs W V n m view σ' sv' (steps + 1) tr ∧ Sn w' b sv' sn' ∧ Fr gs b w w' := by
  have hbl : b < w.heap.size := hM.1.lt
  have hgl := hM.2.2
  have hgs := hM.2.1.lt
  obtain ⟨m0, m1, m2, m3, m4, m5, m6, m7, m8, mf⟩ := hM.nine
  have Hcall := hide hcall
  clear hcall
  have hA1 : At ((w.setCell ⟨b, 7, none⟩ (.int .i64 (steps + 1))).alloc (.cells #[.int .u8 33, .int .i64 var, .bool xn, .int .i64 xv, .int .u8 op, .bool yn, .int .i64 yv, .int .i64 yes, .int .i64 no] 74)) w.heap.size 74 #[.int .u8 33, .int .i64 var, .bool xn, .int .i64 xv, .int .u8 op, .bool yn, .int .i64 yv, .int .i64 yes, .int .i64 no] := by
    have h := At.new (w.setCell ⟨b, 7, none⟩ (.int .i64 (steps + 1))) 74 #[.int .u8 33, .int .i64 var, .bool xn, .int .i64 xv, .int .u8 op, .bool yn, .int .i64 yv, .int .i64 yes, .int .i64 no]
    simpa [World.setCell] using h
  have hM1 := (hM.setSteps (steps + 1)).alloc (.cells #[.int .u8 33, .int .i64 var, .bool xn, .int .i64 xv, .int .u8 op, .bool yn, .int .i64 yv, .int .i64 yes, .int .i64 no] 74)
  have hS1 := (hS.set (a := ⟨b, 7, none⟩) (.int .i64 (steps + 1)) (Nat.le_refl _)).alloc (.cells #[.int .u8 33, .int .i64 var, .bool xn, .int .i64 xv, .int .u8 op, .bool yn, .int .i64 yv, .int .i64 yes, .int .i64 no] 74)
  have hF1 := ((Fr.refl gs b w).set (a := ⟨b, 7, none⟩) (.int .i64 (steps + 1)) (Nat.le_of_lt hgl) (.inr (.inl rfl))).alloc (by simp [World.setCell]; omega) (.cells #[.int .u8 33, .int .i64 var, .bool xn, .int .i64 xv, .int .u8 op, .bool yn, .int .i64 yv, .int .i64 yes, .int .i64 no] 74)
  have HA1 := hide hA1
  clear hA1
  go_enter Try.func37, Try.ntmps37
  go_wp2_with fail
  refine (unhide Hcall _ hM1 hS1).mono ?_
  rintro e w2 ⟨rfl, sv2, hM2, hS2, hF2⟩
  go_wp2_with fail
  go_ret
  exact ⟨rfl, _, hM2, hS2, hF1.trans hF2⟩

end

/-- One step, as a plain function: the state, what is seen, whether it traps, what comes next. -/
def act (V view : Int) (n m : Nat) (σ : List Int) (c : Cm) : List Int × List Int × Bool × Int :=
  if c.kind = 61 then ((actSet V view σ c.var.toNat c.xn c.xv.toNat c.op c.yn c.yv.toNat).1, (actSet V view σ c.var.toNat c.xn c.xv.toNat c.op c.yn c.yv.toNat).2.1, (actSet V view σ c.var.toNat c.xn c.xv.toNat c.op c.yn c.yv.toNat).2.2, c.yes)
  else if c.kind = 108 then (if (m : Int) ≤ vl σ c.xn c.xv.toNat then (σ, swB view m (vl σ c.xn c.xv.toNat), true, c.yes) else (σ.set c.var.toNat (σ.getD (n + (vl σ c.xn c.xv.toNat).toNat) 0), swB view m (vl σ c.xn c.xv.toNat), false, c.yes))
  else if c.kind = 115 then (if (m : Int) ≤ vl σ c.xn c.xv.toNat then (σ, swB view m (vl σ c.xn c.xv.toNat), true, c.yes) else (σ.set (n + (vl σ c.xn c.xv.toNat).toNat) (vl σ c.yn c.yv.toNat), swB view m (vl σ c.xn c.xv.toNat), false, c.yes))
  else (σ, [if vl σ c.xn c.xv.toNat = 0 then 102 else 116], false, if vl σ c.xn c.xv.toNat = 0 then c.no else c.yes)

/-- A command that fits a kernel of n variables and values below V. -/
structure CmOK (V : Int) (n : Nat) (c : Cm) : Prop where
  kind : isCmd c.kind = true
  v0 : 0 ≤ c.var
  x0 : 0 ≤ c.xv
  y0 : 0 ≤ c.yv
  var : c.kind = 61 ∨ c.kind = 108 → c.var.toNat < n
  x : OpOK V n c.xn c.xv.toNat
  y : c.kind = 61 ∨ c.kind = 115 → OpOK V n c.yn c.yv.toNat
  op : c.kind = 61 → isOp c.op = true

theorem mstep_any {w : World} {b gs : Nat} {W : Nat} {view : Int} {n m : Nat} {σ : List Int} {sv : Value} {sn : List Int} {steps : Int} {c : Cm} (hc : CmOK (pw W) n c)
    (hM : Mac w b gs W (pw W) n m view σ sv steps false) (hS : Sn w b sv sn) (hW : W ≤ 8) (hfit : Fits (pw W) σ) (hnm : n + m = σ.length) (hlen : σ.length ≤ 100) (hsl : sn.length ≤ 90000) (hv0 : 0 ≤ view) (hv1 : view ≤ 8) (h0 : 0 ≤ steps) (h1 : steps ≤ 10000) :
    Calls Try.prog 37 #[.pointer (some ⟨b, 0, none⟩), .agg c.cells] w fun e w' => e = .returned (.int .i64 (act (pw W) view n m σ c).2.2.2) ∧ ∃ sv', Mac w' b gs W (pw W) n m view (act (pw W) view n m σ c).1 sv' (steps + 1) (act (pw W) view n m σ c).2.2.1 ∧ Sn w' b sv' (sn ++ (act (pw W) view n m σ c).2.1) ∧ Fr gs b w w' := by
  obtain ⟨kd, hv, hx, hy, hvar, hxo, hyo, hop⟩ := hc
  obtain ⟨k, var, xn, xv, op, yn, yv, yes, no⟩ := c
  dsimp only at *
  obtain ⟨var, rfl⟩ := Int.eq_ofNat_of_zero_le hv
  obtain ⟨xv, rfl⟩ := Int.eq_ofNat_of_zero_le hx
  obtain ⟨yv, rfl⟩ := Int.eq_ofNat_of_zero_le hy
  simp only [Int.toNat_natCast] at *
  have hn : n ≤ σ.length := by omega
  unfold act
  simp only [Int.toNat_natCast]
  by_cases k1 : k = 61
  · subst k1
    simp only [if_true]
    unfold actSet
    cases hd : isDiv op with
    | true =>
      simp only [if_true]
      by_cases hz : vl σ yn yv = 0
      · simp only [if_pos hz]
        exact step_set hM hS h0 h1 (fun w1 a1 a2 => mset_trap a1 a2 hW hfit hn 61 var xv yv xn yn op yes no hxo (hyo (.inl rfl)) (hop rfl) hd hz hsl)
      · simp only [if_neg hz]
        exact step_set hM hS h0 h1 (fun w1 a1 a2 => mset_div a1 a2 hW hfit hn 61 var xv yv xn yn op yes no (hvar (.inl rfl)) hxo (hyo (.inl rfl)) (hop rfl) hd hz hsl)
    | false =>
      simp only [Bool.false_eq_true, if_false, List.append_nil]
      exact step_set hM hS h0 h1 (fun w1 a1 a2 => (mset_plain a1 a2 hW hfit hn 61 var xv yv xn yn op yes no (hvar (.inl rfl)) hxo (hyo (.inl rfl)) (hop rfl) hd).mono (fun e w' h => ⟨h.1, _, h.2⟩))
  · rw [if_neg k1]
    by_cases k2 : k = 108
    · subst k2
      rw [if_pos rfl]
      by_cases hm : (m : Int) ≤ vl σ xn xv
      · rw [if_pos hm]
        exact step_load hM hS h0 h1 (fun w1 a1 a2 => mload_trap a1 a2 hW hfit hn hsl hv0 hv1 108 var xv yv xn yn op yes no hxo hm)
      · rw [if_neg hm]
        exact step_load hM hS h0 h1 (fun w1 a1 a2 => mload_any a1 a2 hW hfit hn hsl hv0 hv1 108 var xv yv xn yn op yes no hxo (hvar (.inr rfl)) hnm hlen hm)
    · rw [if_neg k2]
      by_cases k3 : k = 115
      · subst k3
        rw [if_pos rfl]
        by_cases hm : (m : Int) ≤ vl σ xn xv
        · rw [if_pos hm]
          exact step_store hM hS h0 h1 (fun w1 a1 a2 => mstore_trap a1 a2 hW hfit hn hsl hv0 hv1 115 var xv yv xn yn op yes no hxo hm)
        · rw [if_neg hm]
          exact step_store hM hS h0 h1 (fun w1 a1 a2 => mstore_any a1 a2 hW hfit hn hsl hv0 hv1 115 var xv yv xn yn op yes no hxo (hyo (.inr rfl)) hnm hlen hm)
      · rw [if_neg k3]
        simp [isCmd] at kd
        by_cases k4 : k = 63
        · subst k4
          exact step_branch hM hS h0 h1 (fun w1 a1 a2 => mtest_any a1 a2 hW hfit hn hsl 63 var xv yv xn yn op yes no hxo)
        · obtain rfl : k = 33 := by omega
          exact step_loop hM hS h0 h1 (fun w1 a1 a2 => mtest_any a1 a2 hW hfit hn hsl 33 var xv yv xn yn op yes no hxo)
end Go.Proofs.Ytfolokhilkffcaa
