/-
  An operation that changes nothing: what the interpreter says, the model says.
-/
import Derived.Test.YtbbglffodmigiaaGreatDoorAiC
import Derived.Deep.MidRow
namespace Go.Ai
open Go.RowKit

section
variable {P : Program} {W0 w : World} {al : Al} {h : Hp}

theorem pureOf_run {α : Type} : ∀ (s : Sem α) {a : α}, pureOf P s = some a → ∀ w, s.run P w = .ok a w := by
  intro s
  induction s with
  | pure x => intro a h w; simp [pureOf] at h; subst h; rfl
  | program k ih => intro a h w; exact ih P h w
  | _ => intro a h w; simp [pureOf] at h

theorem allPlain_eval {n : Nat} {g : Nat → Option Value} {a : Act} (hF : FRel n al g a.tmps) : ∀ {xs : List Operand}, allPlain g xs = true → ∀ x ∈ xs, a.eval x = (ev g x).getD undef
  | [], _, x, hx => by cases hx
  | y :: ys, hp, x, hx => by
    simp only [allPlain, Bool.and_eq_true] at hp
    cases hx with
    | head =>
      obtain ⟨h1, _⟩ := hp
      split at h1
      · rename_i v hv
        rw [hv]
        exact VRel.plain_eq h1 (ev_rel hF hv)
      · cases h1
    | tail _ hm => exact allPlain_eval hF hp.2 x hm

theorem plainOp_sound {n : Nat} {g : Nat → Option Value} {a : Act} {o : Oper} {v : Value} (hs : ∀ cs b, o.op ≠ .select cs b) (hF : FRel n al g a.tmps) (hv : plainOp P g o = some v) (w : World) :
    ∃ c, (execOp a.eval o).run P w = .ok (.value c) w ∧ VRel n al v c := by
  unfold plainOp at hv
  split at hv
  · rename_i hp
    split at hv
    · rename_i u hu
      split at hv
      · rename_i hpl
        simp at hv
        subst hv
        refine ⟨u, ?_, VRel.plain hpl⟩
        rw [execOp_congr o hs (ρ' := fun x => (ev g x).getD undef) (fun x hx => allPlain_eval hF hp x (by simpa using hx))]
        exact pureOf_run _ hu w
      · cases hv
    · cases hv
  · cases hv

theorem isAggT_run {t : TypeId} {b : Bool} (ht : isAggT P t = some b) (w : World) : (isAgg t).run P w = .ok b w ∧ ∃ d, P.underlying t = some d ∧ d.isRow = b := by
  unfold isAggT at ht
  unfold isAgg
  rw [Sem.run_bind]
  split at ht
  · rename_i hu; simp at ht; subst ht; rw [run_underlying hu]; exact ⟨rfl, _, hu, rfl⟩
  · rename_i hu; simp at ht; subst ht; rw [run_underlying hu]; exact ⟨rfl, _, hu, rfl⟩
  · rename_i d h1 h2 hu
    simp at ht
    subst ht
    rw [run_underlying hu]
    refine ⟨?_, _, hu, ?_⟩
    · cases d <;> first | rfl | exact (h1 _ rfl).elim | exact (h2 _ _ rfl).elim
    · cases d <;> first | rfl | exact (h1 _ rfl).elim | exact (h2 _ _ rfl).elim
  · cases ht

theorem cell_of {b o : Nat} {cs : Array Value} {e : TypeId} {f : Nat × Nat} (hw : w.heap[b]? = some (.cells cs e f)) : w.cell? ⟨b, o, none⟩ = cs[o]? := by
  simp [World.cell?, hw]

theorem VRel.of_cell {n : Nat} {v c : Value} (h : CRel n al v c) : VRel n al v c := by
  cases v <;> first | exact h | exact h.elim

theorem VRel.of_part {n : Nat} {v c : Value} (h : ARel n al v c) : VRel n al v c := by
  cases v <;> first | exact h | exact h.elim

theorem load_sound (H : HRel W0 al h w) {t : TypeId} {p c v : Value} (hp : VRel h.nx al p c) (hv : loadV P h t p = some v) :
    ∃ u a, c = .pointer (some a) ∧ (loadVar t a).run P w = .ok u w ∧ VRel h.nx al v u := by
  unfold loadV at hv
  split at hv
  · rename_i id o
    simp only [Option.bind_eq_some_iff] at hv
    obtain ⟨b, hb, ag, hag, hv⟩ := hv
    obtain ⟨g, cs, e, hg, hcs, hsz, hle, hid, hW, hat⟩ := H.cell hb
    obtain ⟨_, a, rfl, ha⟩ := hp
    obtain rfl := ha g hg
    obtain ⟨hrun, d, hu, hd⟩ := isAggT_run hag w
    cases ag with
    | true =>
      simp only [if_true, Option.bind_eq_some_iff] at hv
      obtain ⟨i, hi, vs, hvs, hv⟩ := hv
      simp at hv
      subst hv
      obtain ⟨hl, us, hpw, hus, _⟩ := take_rel hat _ _ _ hvs
      refine ⟨.agg us.toArray, _, rfl, ?_, ⟨_, rfl, by simpa using hpw⟩⟩
      refine run_loadVar_mid w g.b (g.base + o) t us d (fun j v hv => ?_) hu hd (by rw [hi]; simp [← hpw.length, hl])
      rw [cell_of hcs]
      exact hus j v hv
    | false =>
      simp only [Bool.false_eq_true, if_false] at hv
      obtain ⟨u, hu1, hu2⟩ := hat o v hv
      refine ⟨u, _, rfl, ?_, .of_cell hu2⟩
      simp [loadVar, Sem.run_bind, hrun, cell_of hcs, hu1]
  · cases hv

theorem add_rel {n : Nat} {id o k : Nat} {a : Addr} (hid : id < n) (ha : ∀ g, al id = some g → a = ⟨g.b, g.base + o, none⟩) : VRel n al (.pointer (some ⟨id, o + k, none⟩)) (.pointer (some (a.add k))) :=
  ⟨hid, _, rfl, fun g hg => by rw [ha g hg, Addr.add_mid, Nat.add_assoc]⟩

theorem field_sound {n : Nat} {s : TypeId} {x c v : Value} {f : Nat} (hx : VRel n al x c) (hv : fieldV P s x f = some v) (w : World) : ∃ u, (Instr.fieldAt s c f).run P w = .ok u w ∧ VRel n al v u := by
  unfold fieldV at hv
  split at hv
  · rename_i id o fs hu
    simp only [Option.bind_eq_some_iff] at hv
    obtain ⟨fd, hfd, i, hi, hv⟩ := hv
    split at hv
    · cases hv
    · rename_i hz
      simp at hv
      subst hv
      obtain ⟨hid, a, rfl, ha⟩ := hx
      refine ⟨_, ?_, add_rel hid ha⟩
      simp [Instr.fieldAt, run_underlying hu, hfd, Instr.sureAddr, fieldPlace, sizeOf, typeInfo, hi, hz]
  · cases hv

theorem index_sound {n : Nat} {t : TypeId} {x c j cj v : Value} (hx : VRel n al x c) (hj : VRel n al j cj) (hv : indexV P t x j = some v) (w : World) : ∃ u, (Instr.indexAt t c cj).run P w = .ok u w ∧ VRel n al v u := by
  unfold indexV at hv
  split at hv
  · rename_i k i e id o len _ hu
    simp only [Option.bind_eq_some_iff] at hv
    obtain ⟨ti, hti, hv⟩ := hv
    split at hv
    · rename_i hlt
      simp at hv
      subst hv
      obtain ⟨hid, a, cap, rfl, hle, ha⟩ := hx
      obtain rfl : cj = .int k (.ofNat i) := hj
      refine ⟨_, ?_, add_rel (k := i * ti.size) hid fun g hg => (ha g hg).1⟩
      have h1 : (0 : Int) ≤ Int.ofNat i := Int.natCast_nonneg i
      have h2 : Int.ofNat i < (len : Int) := Int.ofNat_lt.2 hlt
      simp [Instr.indexAt, asIntOf, run_underlying hu, sizeOf, typeInfo, hti]
      omega
    · cases hv
  · rename_i k i len e id o hu
    simp only [Option.bind_eq_some_iff] at hv
    obtain ⟨ti, hti, hv⟩ := hv
    split at hv
    · rename_i hlt
      simp at hv
      subst hv
      obtain ⟨hid, a, rfl, ha⟩ := hx
      obtain rfl : cj = .int k (.ofNat i) := hj
      refine ⟨_, ?_, add_rel (k := i * ti.size) hid ha⟩
      simp [Instr.indexAt, asIntOf, run_underlying hu, sizeOf, typeInfo, hti, Instr.sureAddr]
      omega
    · cases hv
  · cases hv

theorem nil_sound {n : Nat} {x c v : Value} (hx : VRel n al x c) (hv : nilV x = some v) : v = x ∧ ∃ a, c = .pointer (some a) := by
  unfold nilV at hv
  split at hv
  · rename_i a
    simp at hv
    refine ⟨hv.symm, ?_⟩
    obtain ⟨id, o, sp⟩ := a
    cases sp with
    | none => obtain ⟨_, a, rfl, _⟩ := hx; exact ⟨a, rfl⟩
    | some _ => exact hx.elim
  · cases hv

theorem extract_sound {n : Nat} {x c v : Value} {i : Nat} (hx : VRel n al x c) (hv : extractV x i = some v) (w : World) : ∃ u, (Instr.extract c i).run P w = .ok u w ∧ VRel n al v u := by
  unfold extractV at hv
  split at hv
  · rename_i vs
    obtain ⟨ds, rfl, hp⟩ := hx
    obtain ⟨u, hu, hr⟩ := hp.get (i := i) (x := v) (by simpa using hv)
    refine ⟨u, ?_, .of_part hr⟩
    simp [Instr.extract, show ds[i]? = some u by simpa using hu]
  · cases hv

theorem slice_len {n : Nat} {a : Option Addr} {len es : Nat} {c : Value} (hx : VRel n al (.slice a len es) c) : ∃ a' cap, c = .slice a' len cap ∧ len ≤ cap := by
  cases a with
  | none => obtain ⟨rfl, rfl, rfl⟩ := hx; exact ⟨none, 0, rfl, Nat.le_refl _⟩
  | some a =>
    obtain ⟨id, o, sp⟩ := a
    cases sp with
    | none => obtain ⟨_, a, cap, rfl, hl, _⟩ := hx; exact ⟨some a, cap, rfl, hl⟩
    | some _ => obtain ⟨rfl, a, cap, rfl⟩ := hx; exact ⟨some a, cap, rfl, Nat.zero_le _⟩

theorem len_sound {n : Nat} {t ty : TypeId} {x c v : Value} (hx : VRel n al x c) (hv : lenV P t x = some v) (w : World) : (Builtin.len_ #[t] ty #[c]).run P w = .ok v w ∧ VRel n al v v := by
  unfold lenV at hv
  split at hv
  · rename_i hu
    simp at hv
    subst hv
    obtain ⟨a', cap, rfl, _⟩ := slice_len hx
    refine ⟨?_, rfl⟩
    simp [Builtin.len_, run_underlying hu, goInt]
  · cases hv

end
end Go.Ai
