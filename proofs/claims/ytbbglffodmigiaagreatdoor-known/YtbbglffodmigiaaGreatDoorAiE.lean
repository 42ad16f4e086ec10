/-
  Slices of slices, values out of parts; all operations that change nothing.
-/
import Derived.Test.YtbbglffodmigiaaGreatDoorAiD
namespace Go.Ai
open Go.RowKit

section
variable {P : Program} {W0 w : World} {al : Al} {h : Hp}

def ORel (n : Nat) (al : Al) : Option Value → Option Value → Prop
  | none, none => True
  | some v, some c => VRel n al v c
  | _, _ => False

theorem bound_rel {n d k : Nat} {x c : Option Value} (hx : ORel n al x c) (hb : boundV x d = some k) : (c = none ∧ k = d) ∨ ∃ q, c = some (.int q (.ofNat k)) := by
  unfold boundV at hb
  split at hb
  · simp at hb
    cases c with
    | none => exact .inl ⟨rfl, hb.symm⟩
    | some _ => exact hx.elim
  · rename_i q i
    simp at hb
    subst hb
    cases c with
    | none => exact hx.elim
    | some c => exact .inr ⟨q, by have : c = .int q (.ofNat i) := hx; rw [this]⟩
  · cases hb

theorem bounds_run {len cap l h' : Nat} {lo hi : Option Value} (hl : (lo = none ∧ l = 0) ∨ ∃ q, lo = some (.int q (.ofNat l))) (hh : (hi = none ∧ h' = len) ∨ ∃ q, hi = some (.int q (.ofNat h')))
    (h1 : l ≤ h') (h2 : h' ≤ len) (h3 : len ≤ cap) (w : World) : (Instr.sliceBounds true len cap lo hi none).run P w = .ok (l, h', cap) w := by
  have e1 : (0 : Int) ≤ Int.ofNat h' := Int.natCast_nonneg _
  have e2 : Int.ofNat h' ≤ (cap : Int) := Int.ofNat_le.2 (by omega)
  have e3 : (0 : Int) ≤ Int.ofNat l := Int.natCast_nonneg _
  have e4 : Int.ofNat l ≤ (h' : Int) := Int.ofNat_le.2 h1
  have hL : ∀ q c, (Instr.sliceBound (.int q (l : Int)) h' c).run P w = .ok l w := fun q c => by
    simp only [Instr.sliceBound, asIntOf, Sem.run_bind, Sem.run_pure, Result.andThen_ok, Sem.run_ite]
    rw [if_pos ⟨e3, e4⟩]; rfl
  have hH : ∀ q c, (Instr.sliceBound (.int q (h' : Int)) cap c).run P w = .ok h' w := fun q c => by
    simp only [Instr.sliceBound, asIntOf, Sem.run_bind, Sem.run_pure, Result.andThen_ok, Sem.run_ite]
    rw [if_pos ⟨e1, e2⟩]; rfl
  rcases hl with ⟨rfl, rfl⟩ | ⟨q, rfl⟩ <;> rcases hh with ⟨rfl, rfl⟩ | ⟨q', rfl⟩ <;> simp [Instr.sliceBounds, hL, hH]

theorem slice_sound {n : Nat} {t : TypeId} {x c v : Value} {lo hi clo chi : Option Value} (hx : VRel n al x c) (hlo : ORel n al lo clo) (hhi : ORel n al hi chi) (hv : sliceV P t x lo hi = some v) (w : World) :
    ∃ u, (Instr.sliceAt t c clo chi none).run P w = .ok u w ∧ VRel n al v u := by
  unfold sliceV at hv
  split at hv
  · rename_i id o len es e hu
    simp only [Option.bind_eq_some_iff] at hv
    obtain ⟨l, hl, h', hh, i, hi', hv⟩ := hv
    split at hv
    · rename_i hc
      obtain ⟨h1, h2, rfl⟩ := hc
      obtain ⟨hid, a, cap, rfl, hle, ha⟩ := hx
      have hb := bounds_run (P := P) (bound_rel hlo hl) (bound_rel hhi hh) h1 h2 hle w
      have hr : (Instr.sliceAt t (.slice (some a) len cap) clo chi none).run P w = .ok (.slice (if cap = l then some a else (some a).map (·.add (l * i.size))) (h' - l) (cap - l)) w := by
        simp [Instr.sliceAt, run_underlying hu, Instr.slice, hb, sizeOf, typeInfo, hi']
      refine ⟨_, hr, ?_⟩
      split at hv
      · rename_i hq
        simp at hv
        subst hv
        have : h' - l = 0 := by omega
        rw [this]
        refine ⟨rfl, ?_⟩
        split
        · exact ⟨_, _, rfl⟩
        · exact ⟨_, _, rfl⟩
      · rename_i hq
        simp at hv
        subst hv
        by_cases hl0 : l = 0
        · subst hl0
          refine ⟨hid, a, cap, ?_, by omega, fun g hg => ?_⟩
          · simp [Addr.add]
          · obtain ⟨e1, e2⟩ := ha g hg
            exact ⟨by rw [e1]; simp, by simpa using e2⟩
        · have hne : ¬ cap = l := by omega
          refine ⟨hid, a.add (l * i.size), cap - l, by simp [hne], by omega, fun g hg => ?_⟩
          obtain ⟨e1, e2⟩ := ha g hg
          refine ⟨by rw [e1, Addr.add_mid, Nat.add_assoc], ?_⟩
          have : l * i.size + (cap - l) * i.size = cap * i.size := by rw [← Nat.add_mul]; congr 1; omega
          omega
    · cases hv
  · cases hv

theorem evs_rel {n : Nat} {g : Nat → Option Value} {a : Act} (hF : FRel n al g a.tmps) : ∀ {xs : List Operand} {vs : List Value}, evs g xs = some vs → PW (VRel n al) vs (xs.map a.eval)
  | [], vs, hv => by simp [evs] at hv; subst hv; trivial
  | x :: xs, vs, hv => by
    simp only [evs, Option.bind_eq_some_iff] at hv
    obtain ⟨v, h1, vs', h2, h3⟩ := hv
    simp at h3
    subst h3
    exact ⟨ev_rel hF h1, evs_rel hF h2⟩

theorem evo_rel {n : Nat} {g : Nat → Option Value} {a : Act} (hF : FRel n al g a.tmps) {x : Option Operand} {v : Option Value} (hv : evo g x = some v) : ORel n al v (x.map a.eval) := by
  cases x with
  | none => simp [evo] at hv; subst hv; trivial
  | some x =>
    simp only [evo, Option.bind_eq_some_iff] at hv
    obtain ⟨u, h1, h2⟩ := hv
    simp at h2
    subst h2
    exact ev_rel hF h1

def PRel (n : Nat) (al : Al) (p q : Nat × Value) : Prop := p.1 = q.1 ∧ VRel n al p.2 q.2

theorem evp_rel {n : Nat} {g : Nat → Option Value} {a : Act} (hF : FRel n al g a.tmps) : ∀ {xs : List (Nat × Operand)} {vs : List (Nat × Value)}, evp g xs = some vs → PW (PRel n al) vs (xs.map fun p => (p.1, a.eval p.2))
  | [], vs, hv => by simp [evp] at hv; subst hv; trivial
  | x :: xs, vs, hv => by
    simp only [evp, Option.bind_eq_some_iff] at hv
    obtain ⟨v, h1, vs', h2, h3⟩ := hv
    simp at h3
    subst h3
    exact ⟨⟨rfl, ev_rel hF h1⟩, evp_rel hF h2⟩

theorem setL_rel {n : Nat} : ∀ {vs us : List Value} {xs ys : List Value} (o : Nat), PW (CRel n al) vs us → PW (CRel n al) xs ys → PW (CRel n al) (setL xs o vs) (setL ys o us)
  | [], [], _, _, _, _, h => h
  | _ :: _, _ :: _, _, _, o, ⟨a, b⟩, h => setL_rel (o + 1) b (h.set a o)
  | [], _ :: _, _, _, _, h, _ => h.elim
  | _ :: _, [], _, _, _, h, _ => h.elim

theorem setL_length : ∀ (vs xs : List Value) (o : Nat), (setL xs o vs).length = xs.length
  | [], _, _ => rfl
  | _ :: vs, xs, o => by rw [setL, setL_length vs]; simp

theorem foldl_setL : ∀ (vs : List Value) (xs : Array Value) (o k : Nat), (vs.zipIdx k).foldl (fun cs (p : Value × Nat) => cs.setIfInBounds (o + p.2) p.1) xs = (setL xs.toList (o + k) vs).toArray
  | [], xs, o, k => by simp [setL]
  | v :: vs, xs, o, k => by
    simp only [List.zipIdx_cons, List.foldl_cons, setL]
    rw [foldl_setL vs _ o (k + 1)]
    simp [Nat.add_assoc]

theorem fill_rel {n : Nat} {place : Nat → Option (Nat × Nat)} : ∀ {ps qs : List (Nat × Value)} {xs ys xs' : List Value}, PW (PRel n al) ps qs → PW (CRel n al) xs ys → fillL place xs ps = some xs' →
    ∃ ys', Instr.fill place ys.toArray qs = some ys'.toArray ∧ PW (CRel n al) xs' ys' ∧ xs'.length = xs.length
  | [], [], xs, ys, xs', _, h, hv => by simp [fillL] at hv; subst hv; exact ⟨ys, rfl, h, rfl⟩
  | p :: ps, q :: qs, xs, ys, xs', ⟨⟨hp1, hp2⟩, hps⟩, h, hv => by
    simp only [fillL, Option.bind_eq_some_iff] at hv
    obtain ⟨⟨off, size⟩, hpl, hv⟩ := hv
    split at hv
    · rename_i hc
      obtain ⟨h1, h2, h3⟩ := hc
      have hcs := cells_rel hp2 h3
      have hlen : q.2.cells.size = size := by have := hcs.length; simp at this; omega
      obtain ⟨ys', e1, e2, e3⟩ := fill_rel hps (setL_rel off hcs h) hv
      refine ⟨ys', ?_, e2, by rw [e3, setL_length]⟩
      obtain ⟨qi, qv⟩ := q
      simp only at hp1 hlen hcs e1
      subst hp1
      simp only [Instr.fill, hpl]
      have hyl : off + size ≤ ys.length := by have := h.length; omega
      rw [if_neg (by simp [hlen]; omega)]
      rw [← e1]
      congr 1
      rw [← Array.foldl_toList, Array.toList_zipIdx, foldl_setL]
      simp
    · cases hv
  | [], _ :: _, _, _, _, h, _, _ => h.elim
  | _ :: _, [], _, _, _, h, _, _ => h.elim

theorem places_mapM : ∀ {fs : List Field} {ps : List (Nat × Nat)}, places P fs = some ps → fs.mapM (fun f => (P.info? f.type).map fun i => (f.offset, i.size)) = some ps
  | [], ps, h => by simp [places] at h; subst h; rfl
  | f :: fs, ps, h => by
    simp only [places, Option.bind_eq_some_iff] at h
    obtain ⟨i, hi, qs, hq, h⟩ := h
    simp at h
    subst h
    simp [List.mapM_cons, hi, places_mapM hq]

theorem build_sound {n : Nat} {t : TypeId} {ps : List (Nat × Value)} {qs : Array (Nat × Value)} {v : Value} (hp : PW (PRel n al) ps qs.toList) (hv : buildV P t ps = some v) (w : World) :
    ∃ u, (Instr.build t qs).run P w = .ok u w ∧ VRel n al v u := by
  unfold buildV at hv
  simp only [Option.bind_eq_some_iff] at hv
  obtain ⟨i, hi, z, hz, hv⟩ := hv
  split at hv
  · rename_i hpl
    have hzz : PW (CRel n al) z.cells.toList z.cells.toList := .plain hpl
    split at hv
    · rename_i fs hu
      simp only [Option.bind_eq_some_iff] at hv
      obtain ⟨pl, hplc, cs, hcs, hv⟩ := hv
      simp at hv
      subst hv
      obtain ⟨ys, e1, e2, _⟩ := fill_rel hp hzz hcs
      refine ⟨.agg ys.toArray, run_build w t qs _ ?_, ⟨_, rfl, by simpa using e2⟩⟩
      unfold Program.built
      simp only [hi, hu, hz, places_mapM hplc]
      simpa using e1
    · rename_i m e hu
      simp only [Option.bind_eq_some_iff] at hv
      obtain ⟨j, hj, cs, hcs, hv⟩ := hv
      simp at hv
      subst hv
      obtain ⟨ys, e1, e2, _⟩ := fill_rel hp hzz hcs
      refine ⟨.agg ys.toArray, run_build w t qs _ ?_, ⟨_, rfl, by simpa using e2⟩⟩
      unfold Program.built
      simp only [hi, hu, hz, hj]
      simpa using e1
    · cases hv
  · cases hv

end
end Go.Ai
