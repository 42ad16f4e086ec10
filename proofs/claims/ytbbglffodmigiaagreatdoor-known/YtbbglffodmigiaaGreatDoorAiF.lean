/-
  All operations that change nothing.
-/
import Derived.Test.YtbbglffodmigiaaGreatDoorAiE
namespace Go.Ai
open Go.RowKit

section
variable {P : Program} {W0 w : World} {al : Al} {h : Hp}

theorem toList_one {A : Type} {xs : Array A} {x : A} (h : xs.toList = [x]) : xs = #[x] := by
  cases xs
  simp at h
  rw [h]

theorem toList_two {A : Type} {xs : Array A} {x y : A} (h : xs.toList = [x, y]) : xs = #[x, y] := by
  cases xs
  simp at h
  rw [h]

theorem rop_sound (H : HRel W0 al h w) {g : Nat → Option Value} {a : Act} {o : Oper} {v : Value} (hF : FRel h.nx al g a.tmps) (hv : rop P g h o = some v) :
    ∃ c, (execOp a.eval o).run P w = .ok (.value c) w ∧ VRel h.nx al v c := by
  obtain ⟨dst, op, type, pos, after, guard⟩ := o
  cases op
  case move x => exact ⟨_, rfl, ev_rel hF hv⟩
  case assign x => exact ⟨_, rfl, ev_rel hF hv⟩
  case pick c x y =>
    simp only [rop] at hv
    split at hv
    · rename_i hc
      have e : a.eval c = .bool true := ev_rel hF hc
      exact ⟨a.eval x, by simp [execOp, e, asBool], ev_rel hF hv⟩
    · rename_i hc
      have e : a.eval c = .bool false := ev_rel hF hc
      exact ⟨a.eval y, by simp [execOp, e, asBool], ev_rel hF hv⟩
    · cases hv
  case load t x =>
    simp only [rop, Option.bind_eq_some_iff] at hv
    obtain ⟨p, hp, hv⟩ := hv
    obtain ⟨u, ad, hc, hr, hu⟩ := load_sound H (ev_rel hF hp) hv
    exact ⟨u, by simp [execOp, Instr.loadAt, hc, Instr.sureAddr, hr], hu⟩
  case nilCheck x =>
    simp only [rop, Option.bind_eq_some_iff] at hv
    obtain ⟨p, hp, hv⟩ := hv
    have hr := ev_rel hF hp
    obtain ⟨rfl, ad, hc⟩ := nil_sound hr hv
    exact ⟨a.eval x, by simp [execOp, hc], hr⟩
  case build t ps =>
    simp only [rop, Option.bind_eq_some_iff] at hv
    obtain ⟨vs, hvs, hv⟩ := hv
    obtain ⟨u, hr, hu⟩ := build_sound (qs := ps.map fun (i, x) => (i, a.eval x)) (by simpa using evp_rel hF hvs) hv w
    exact ⟨u, by simp only [execOp, Sem.run_bind, hr]; rfl, hu⟩
  case slice t x lo hi mx =>
    cases mx with
    | some _ => simp [rop] at hv
    | none =>
      simp only [rop, Option.bind_eq_some_iff] at hv
      obtain ⟨p, hp, hv⟩ := hv
      split at hv
      · simp only [Option.bind_eq_some_iff] at hv
        obtain ⟨l, hl, r, hr, hv⟩ := hv
        obtain ⟨u, hrun, hu⟩ := slice_sound (ev_rel hF hp) (evo_rel hF hl) (evo_rel hF hr) hv w
        refine ⟨u, ?_, hu⟩
        simp only [execOp, Sem.run_bind, Option.map_none, hrun]
        rfl
      · exact plainOp_sound (fun _ _ => by simp) hF hv w
  case fieldAddr s x i =>
    simp only [rop, Option.bind_eq_some_iff] at hv
    obtain ⟨p, hp, hv⟩ := hv
    obtain ⟨u, hr, hu⟩ := field_sound (ev_rel hF hp) hv w
    exact ⟨u, by simp only [execOp, Sem.run_bind, hr]; rfl, hu⟩
  case indexAddr t x i =>
    simp only [rop, Option.bind_eq_some_iff] at hv
    obtain ⟨p, hp, j, hj, hv⟩ := hv
    obtain ⟨u, hr, hu⟩ := index_sound (ev_rel hF hp) (ev_rel hF hj) hv w
    exact ⟨u, by simp only [execOp, Sem.run_bind, hr]; rfl, hu⟩
  case extract x i =>
    simp only [rop, Option.bind_eq_some_iff] at hv
    obtain ⟨p, hp, hv⟩ := hv
    obtain ⟨u, hr, hu⟩ := extract_sound (P := P) (ev_rel hF hp) hv w
    exact ⟨u, by simp only [execOp, Sem.run_bind, hr]; rfl, hu⟩
  case binOp op t x y u => exact plainOp_sound (fun _ _ => by simp) hF hv w
  case unOp op t x => exact plainOp_sound (fun _ _ => by simp) hF hv w
  case convert s d x => exact plainOp_sound (fun _ _ => by simp) hF hv w
  case index t x i => exact plainOp_sound (fun _ _ => by simp) hF hv w
  case call c =>
    obtain ⟨callee, args, argTypes⟩ := c
    cases callee
    case builtin b =>
      cases b
      case len =>
        simp only [rop] at hv
        split at hv
        · rename_i x t hx ht
          simp only [Option.bind_eq_some_iff] at hv
          obtain ⟨p, hp, hv⟩ := hv
          obtain rfl := toList_one hx
          obtain rfl := toList_one ht
          split at hv
          · obtain ⟨hr, hu⟩ := len_sound (ty := type) (ev_rel hF hp) hv w
            refine ⟨v, ?_, hu⟩
            simp [execOp, resolve, invoke, builtin, hr]
          · exact plainOp_sound (fun _ _ => by simp) hF hv w
        · cases hv
      all_goals simp [rop] at hv
    all_goals simp [rop] at hv
  all_goals simp [rop] at hv
end
end Go.Ai
