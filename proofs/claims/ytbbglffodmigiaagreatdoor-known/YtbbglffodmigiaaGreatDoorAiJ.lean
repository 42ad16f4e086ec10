/-
  copy; all operations that change memory.
-/
import Derived.Test.YtbbglffodmigiaaGreatDoorAiI
namespace Go.Ai
open Go.RowKit

section
variable {P : Program} {W0 w : World} {al : Al} {h : Hp}

theorem copy_sound (H : HRel W0 al h w) {dt u ty : TypeId} {d cd s cs_ v : Value} {h' : Hp} (hd : VRel h.nx al d cd) (hs : VRel h.nx al s cs_) (hv : copyV P h dt d s = some (v, h')) :
    ∃ w', (Builtin.copy_ #[dt, u] ty #[cd, cs_]).run P w = .ok v w' ∧ After W0 h.nx al v h' v w' := by
  unfold copyV at hv
  split at hv
  · rename_i e a dl dc sa sl sc hu
    simp only [Option.bind_eq_some_iff] at hv
    obtain ⟨i, hi, hv⟩ := hv
    split at hv
    · rename_i hn
      simp at hv
      obtain ⟨rfl, rfl⟩ := hv
      obtain ⟨da, dcap, rfl, _⟩ := slice_len hd
      obtain ⟨sa', scap, rfl, _⟩ := slice_len hs
      have hl : ∀ (x : Addr), (loadCells x 0).run P w = .ok #[] w := fun x => by simpa using run_loadCells_list (P := P) w x [] (by simp)
      refine ⟨w, ?_, al, Next.refl _ _, Nat.le_refl _, H, rfl⟩
      cases da <;> cases sa' <;> simp [Builtin.copy_, run_underlying hu, Builtin.lenOf, Builtin.firstCells, sizeOf, typeInfo, hi, hn, storeCells, hl, goInt]
    · rename_i hn
      split at hv
      · rename_i id o
        simp only [Option.bind_eq_some_iff] at hv
        obtain ⟨new, hnew, b, hb, hv⟩ := hv
        split at hv
        · rename_i hc
          obtain ⟨h1, h2⟩ := hc
          simp at hv
          obtain ⟨rfl, rfl⟩ := hv
          obtain ⟨sad, sl', scap, us, hcs_, hpw, hul, hus⟩ := first_sound H hs hnew
          obtain ⟨_, _, hcs2, _⟩ := slice_len hs
          obtain rfl : sl' = sl := by rw [hcs_] at hcs2; simp at hcs2; exact hcs2.2.1
          subst hcs_
          obtain ⟨g, cs, ce, hg, hcs, hsz, hle, hid, hW, hat⟩ := H.cell hb
          obtain ⟨_, a, cap, rfl, hcap, ha⟩ := hd
          obtain ⟨rfl, _⟩ := ha g hg
          have hl := run_loadCells_list (P := P) w sad us hus
          have hnl := hpw.length
          have hst := run_storeCells_at P g.b (g.base + o) ce us 0 cs w hcs (by simp only [Nat.add_zero]; omega) (oneCells_of hpw)
          simp only [Nat.add_zero] at hst
          rw [hul] at hl
          refine ⟨_, ?_, al, Next.refl _ _, Nat.le_refl _, H.write hg hb hcs (by omega) (by omega) hpw, rfl⟩
          simp [Builtin.copy_, run_underlying hu, Builtin.lenOf, Builtin.firstCells, sizeOf, typeInfo, hi, hl, hst, goInt]
        · cases hv
      · cases hv
  · cases hv

/-- what a call's end must be -/
def Ends (W0 : World) (n : Nat) (al : Al) (v : Value) (h' : Hp) : Ending → World → Prop
  | .returned c, w' => After W0 n al v h' c w'
  | .panicked _, _ => False
  | .outgrown, _ => False

/-- calls are as the interpreter says -/
def CallOk (P : Program) (W0 : World) (call : FuncId → List Value → Hp → Option (Value × Hp)) : Prop :=
  ∀ k vs h v h', call k vs h = some (v, h') → (∃ fn, P.funcs[k]? = some fn ∧ fn.body.isNone = false ∧ (fn.name == "runtime.NumGoroutine") = false) ∧
    ∀ al w us, HRel W0 al h w → PW (VRel h.nx al) vs us.toList → Calls P k us w (Ends W0 h.nx al v h')

theorem callFunc_run {k : FuncId} {fn : Func} (hf : P.funcs[k]? = some fn) (hb : fn.body.isNone = false) (hn : (fn.name == "runtime.NumGoroutine") = false) (args : Array Value) (w : World) :
    (callFunc k args).run P w = .ok (.enter k args) w := by
  unfold callFunc
  simp only [Sem.run_bind]
  have hp : (program).run P w = .ok P w := rfl
  simp only [hp, Result.andThen_ok, hf, hn, hb]
  rfl

theorem wop_sound {call : FuncId → List Value → Hp → Option (Value × Hp)} (hcall : CallOk P W0 call) (H : HRel W0 al h w) {g : Nat → Option Value} {a : Act} {o : Oper} {v : Value} {h' : Hp} (hF : FRel h.nx al g a.tmps)
    (hv : wop P call g h o = some (v, h')) {K : Act → World → Prop} {Q : Exit → Act → World → Prop} (hK : ∀ c w', After W0 h.nx al v h' c w' → K (a.put o.dst c) w') : o.wp P a w K Q := by
  obtain ⟨dst, op, type, pos, after, guard⟩ := o
  have done : ∀ {op : Op} {c : Value} {w' : World}, (execOp a.eval ⟨dst, op, type, pos, after, guard⟩).run P w = .ok (.value c) w' → After W0 h.nx al v h' c w' → Oper.wp P ⟨dst, op, type, pos, after, guard⟩ a w K Q := fun hr hA => by
    unfold Oper.wp
    rw [hr]
    exact hK _ _ hA
  cases op
  case alloc t =>
    simp only [wop, Option.bind_eq_some_iff] at hv
    obtain ⟨i, hi, z, hz, hv⟩ := hv
    split at hv
    · rename_i hp
      refine done ?_ (box_sound H (c := z) (PW.plain hp) t hv)
      simp [execOp, Instr.alloc, zeroValue, typeInfo, hi, hz, newVar, newRow]
    · cases hv
  case box t x =>
    simp only [wop, Option.bind_eq_some_iff] at hv
    obtain ⟨u, hu, hv⟩ := hv
    have hok : cellsOk u.cells.toList = true := by
      unfold boxV at hv
      split at hv
      · assumption
      · cases hv
    refine done ?_ (box_sound H (c := a.eval x) (cells_rel (ev_rel hF hu) hok) t hv)
    simp [execOp, Instr.box, newVar, newRow]
  case buildSlice t n ps =>
    simp only [wop, Option.bind_eq_some_iff] at hv
    obtain ⟨vs, hvs, hv⟩ := hv
    obtain ⟨c, w', hr, hA⟩ := buildSlice_sound (qs := ps.map fun (i, x) => (i, a.eval x)) H (by simpa using evp_rel hF hvs) hv
    exact done (by simp only [execOp, Sem.run_bind, hr]; rfl) hA
  case store t x y =>
    simp only [wop, Option.bind_eq_some_iff] at hv
    obtain ⟨p, hp, u, hu, h1, hst, hv⟩ := hv
    simp at hv
    obtain ⟨rfl, rfl⟩ := hv
    obtain ⟨w', hr, HH, hnx⟩ := store_sound H (ev_rel hF hp) (ev_rel hF hu) hst
    have hrun : (execOp a.eval ⟨dst, .store t x y, type, pos, after, guard⟩).run P w = .ok .skip w' := by simp only [execOp, Sem.run_bind, hr]; rfl
    unfold Oper.wp
    rw [hrun]
    exact hK _ _ ⟨al, Next.refl _ _, by omega, HH, ⟨#[], rfl, trivial⟩⟩
  case makeSlice t l c =>
    simp only [wop, Option.bind_eq_some_iff] at hv
    obtain ⟨p, hp, u, hu, hv⟩ := hv
    obtain ⟨c, w', hr, hA⟩ := make_sound H (ev_rel hF hp) (ev_rel hF hu) hv
    exact done (by simp only [execOp, Sem.run_bind, hr]; rfl) hA
  case call c =>
    obtain ⟨callee, args, argTypes⟩ := c
    cases callee
    case builtin b =>
      cases b
      case append =>
        simp only [wop] at hv
        split at hv
        · rename_i s x t u hx ht
          simp only [Option.bind_eq_some_iff] at hv
          obtain ⟨p, hp, y, hy, hv⟩ := hv
          obtain rfl := toList_two hx
          obtain rfl := toList_two ht
          obtain ⟨c, w', hr, hA⟩ := append_sound (ty := type) H (ev_rel hF hp) (ev_rel hF hy) hv
          refine done ?_ hA
          simp [execOp, resolve, invoke, builtin, hr]
        · cases hv
      case copy =>
        simp only [wop] at hv
        split at hv
        · rename_i s x t u hx ht
          simp only [Option.bind_eq_some_iff] at hv
          obtain ⟨p, hp, y, hy, hv⟩ := hv
          obtain rfl := toList_two hx
          obtain rfl := toList_two ht
          obtain ⟨w', hr, hA⟩ := copy_sound (ty := type) (u := u) H (ev_rel hF hp) (ev_rel hF hy) hv
          refine done ?_ hA
          simp [execOp, resolve, invoke, builtin, hr]
        · cases hv
      all_goals simp [wop] at hv
    case value f =>
      cases f
      case func k =>
        simp only [wop, Option.bind_eq_some_iff] at hv
        obtain ⟨vs, hvs, hv⟩ := hv
        obtain ⟨⟨fn, hf, hb, hn⟩, hc⟩ := hcall _ _ _ _ _ hv
        have hC := hc al w (args.map a.eval) H (by simpa using evs_rel hF hvs)
        have hrun : (execOp a.eval ⟨dst, .call ⟨.value (.func k), args, argTypes⟩, type, pos, after, guard⟩).run P w = .ok (.enter k (args.map a.eval)) w := by
          simp [execOp, resolve, Act.eval, Deferred.ofValue, invoke, callFunc_run hf hb hn]
        unfold Oper.wp
        rw [hrun, Oper.upon_enter]
        refine hC.mono fun e w' he => ?_
        cases e with
        | returned c => exact hK _ _ he
        | panicked _ => exact he.elim
        | outgrown => exact he.elim
      all_goals simp [wop] at hv
    all_goals simp [wop] at hv
  all_goals simp [wop] at hv

end
end Go.Ai
