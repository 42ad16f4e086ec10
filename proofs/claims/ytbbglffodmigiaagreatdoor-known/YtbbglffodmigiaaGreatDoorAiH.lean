/-
  Operations that change memory: a slice's literal, append, copy.
-/
import Derived.Test.YtbbglffodmigiaaGreatDoorAiG
namespace Go.Ai
open Go.RowKit

section
variable {P : Program} {W0 w : World} {al : Al} {h : Hp}

theorem setL_get : ∀ (vs xs : List Value) (o j : Nat), o + vs.length ≤ xs.length → (setL xs o vs)[j]? = if o ≤ j ∧ j < o + vs.length then vs[j - o]? else xs[j]?
  | [], xs, o, j, _ => by rw [if_neg (by simp)]; rfl
  | v :: vs, xs, o, j, h => by
    simp only [List.length_cons] at h
    rw [setL, setL_get vs _ _ _ (by simp; omega)]
    simp only [List.length_cons]
    by_cases h1 : o + 1 ≤ j ∧ j < o + 1 + vs.length
    · rw [if_pos h1, if_pos (by omega), show j - o = (j - (o + 1)) + 1 by omega]
      simp
    · rw [if_neg h1]
      by_cases h2 : j = o
      · subst h2
        rw [if_pos (by omega), List.getElem?_set_self (by omega)]
        simp
      · rw [if_neg (by omega), List.getElem?_set_ne (by omega)]

theorem parts_fill {n len : Nat} {z : List Value} (ht : len * n ≤ top) : ∀ {ps : List (Nat × Value)} {t t' : T Value} {xs : List Value}, xs.length = len * n → (∀ o, o < len * n → Blk.at ⟨len * n, z, t⟩ o = xs[o]?) → layParts n len ps t = some t' →
    ∃ xs', fillL (fun i => some (i * n, n)) xs ps = some xs' ∧ xs'.length = len * n ∧ ∀ o, o < len * n → Blk.at ⟨len * n, z, t'⟩ o = xs'[o]?
  | [], t, t', xs, hl, hx, hv => by simp [layParts] at hv; subst hv; exact ⟨xs, rfl, hl, hx⟩
  | p :: ps, t, t', xs, hl, hx, hv => by
    simp only [layParts] at hv
    split at hv
    · rename_i hc
      obtain ⟨h1, h2, h3⟩ := hc
      have hle : p.1 * n + n ≤ len * n := by
        have : (p.1 + 1) * n ≤ len * n := Nat.mul_le_mul_right n h2
        rw [Nat.add_mul, Nat.one_mul] at this
        exact this
      have hcl : p.2.cells.toList.length = n := by simpa using h1
      obtain ⟨xs', e1, e2, e3⟩ := parts_fill ht (xs := setL xs (p.1 * n) p.2.cells.toList) (by rw [setL_length]; exact hl) (fun o ho => by
        have := at_lay (b := ⟨len * n, z, t⟩) (vs := p.2.cells.toList) (o := p.1 * n) (by rw [hcl]; omega) (by rw [hcl]; exact hle) o
        simp only at this
        rw [this, setL_get _ _ _ _ (by rw [hcl]; omega), hx o ho]) hv
      refine ⟨xs', ?_, e2, e3⟩
      simp only [fillL, Option.bind_some]
      rw [if_pos ⟨h1, by omega, h3⟩]
      exact e1
    · cases hv

theorem buildSlice_sound (H : HRel W0 al h w) {t : TypeId} {len : Nat} {ps : List (Nat × Value)} {qs : Array (Nat × Value)} {v : Value} {h' : Hp} (hp : PW (PRel h.nx al) ps qs.toList) (hv : buildSliceV P h t len ps = some (v, h')) :
    ∃ c w', (Instr.buildSlice t len qs).run P w = .ok c w' ∧ After W0 h.nx al v h' c w' := by
  unfold buildSliceV at hv
  split at hv
  · rename_i e hu
    simp only [Option.bind_eq_some_iff] at hv
    obtain ⟨i, hi, z, hz, hv⟩ := hv
    split at hv
    · rename_i hcnd
      obtain ⟨h0, h1, h2, h3, h4⟩ := hcnd
      simp only [Option.bind_eq_some_iff] at hv
      obtain ⟨t', hlay, h1', hn, hv⟩ := hv
      simp at hv
      obtain ⟨rfl, rfl⟩ := hv
      have ht : len * i.size ≤ top := by unfold top; omega
      have hpos : ¬ len * i.size = 0 := fun he => by
        rcases Nat.mul_eq_zero.1 he with h | h <;> omega
      have hx0 : ∀ o, o < len * i.size → Blk.at ⟨len * i.size, z.cells.toList, T.emp⟩ o = ((Array.range (len * i.size)).map (z.cells[· % z.cells.size]!)).toList[o]? := fun o ho => by
        unfold Blk.at
        simp only [T.get_emp]
        rw [if_pos ho]
        have hm : o % z.cells.size < z.cells.size := Nat.mod_lt _ (by omega)
        simp [ho, hm]
      obtain ⟨xs', e1, e2, e3⟩ := parts_fill ht (xs := ((Array.range (len * i.size)).map (z.cells[· % z.cells.size]!)).toList) (by simp) hx0 hlay
      have hpl : PW (CRel h.nx al) ((Array.range (len * i.size)).map (z.cells[· % z.cells.size]!)).toList ((Array.range (len * i.size)).map (z.cells[· % z.cells.size]!)).toList := by
        refine .plain (List.all_eq_true.2 fun x hx => ?_)
        simp only [Array.toList_map, List.mem_map] at hx
        obtain ⟨j, _, rfl⟩ := hx
        have hm : j % z.cells.size < z.cells.size := Nat.mod_lt _ (by omega)
        refine List.all_eq_true.1 h4 _ ?_
        simp [hm]
      obtain ⟨ys, f1, f2, _⟩ := fill_rel hp hpl e1
      rw [Array.toArray_toList] at f1
      have hr := run_buildSlice w t e len qs ys.toArray i z hu hi hz (by omega) hpos f1
      have hyl := f2.length
      obtain ⟨HH, hnx⟩ := H.lays hn ys.toArray e (by simp; omega) (fun o u ho => by
        have hlt : o < len * i.size := by unfold Blk.at at ho; split at ho; · assumption
                                          · cases ho
        rw [e3 o hlt] at ho
        obtain ⟨c, hc, hr⟩ := f2.get ho
        exact ⟨c, by simpa using hc, hr⟩)
      refine ⟨_, _, hr, _, Next.give _ _ _, by omega, HH, ?_⟩
      refine ⟨by omega, _, len, rfl, Nat.le_refl _, fun g hg => ?_⟩
      simp [Al.give] at hg
      subst hg
      exact ⟨rfl, by simp; omega⟩
    · cases hv
  · cases hv

theorem first_sound (H : HRel W0 al h w) {es k : Nat} {x c : Value} {new : List Value} (hx : VRel h.nx al x c) (hv : firstV h es k x = some new) :
    ∃ a len cap us, c = .slice (some a) len cap ∧ PW (CRel h.nx al) new us ∧ us.length = k * es ∧ (∀ j u, us[j]? = some u → w.cell? (a.add j) = some u) := by
  unfold firstV at hv
  split at hv
  · rename_i id o len es'
    split at hv
    · simp only [Option.bind_eq_some_iff] at hv
      obtain ⟨b, hb, hv⟩ := hv
      obtain ⟨g, cs, e, hg, hcs, hsz, hle, hid, hW, hat⟩ := H.cell hb
      obtain ⟨_, a, cap, rfl, hcap, ha⟩ := hx
      obtain ⟨rfl, _⟩ := ha g hg
      obtain ⟨hl, us, hpw, hus, _⟩ := take_rel hat _ _ _ hv
      exact ⟨_, _, _, us, rfl, hpw, by rw [← hpw.length, hl], fun j u hj => by rw [Addr.add_mid, cell_of hcs]; exact hus j u hj⟩
    · cases hv
  · cases hv

/-- the block behind an append: the first cells are the old ones, the others are new -/
theorem take_get {b : Blk} : ∀ (k o : Nat) (vs : List Value), b.take o k = some vs → ∀ j v, vs[j]? = some v → b.at (o + j) = some v
  | 0, o, vs, hv, j, v, hj => by simp [Blk.take] at hv; subst hv; simp at hj
  | k + 1, o, vs, hv, j, v, hj => by
    simp only [Blk.take, Option.bind_eq_some_iff] at hv
    obtain ⟨u, h1, vs', h2, h3⟩ := hv
    simp at h3
    subst h3
    cases j with
    | zero => simp at hj; subst hj; exact h1
    | succ j =>
      simp at hj
      have := take_get k (o + 1) vs' h2 j v hj
      rwa [show o + 1 + j = o + (j + 1) by omega] at this

theorem take_length {b : Blk} : ∀ (k o : Nat) (vs : List Value), b.take o k = some vs → vs.length = k
  | 0, o, vs, hv => by simp [Blk.take] at hv; subst hv; rfl
  | k + 1, o, vs, hv => by
    simp only [Blk.take, Option.bind_eq_some_iff] at hv
    obtain ⟨u, h1, vs', h2, h3⟩ := hv
    simp at h3
    subst h3
    simp [take_length k (o + 1) vs' h2]

theorem at_append {b : Blk} {es len n o : Nat} {new z : List Value} {t : T Value} (hn : new.length = n * es) (hb : o + len * es ≤ b.size) (ht : (len + n) * es ≤ top)
    (hc : (o = 0 ∧ z = b.z ∧ t = lay new b.cells (len * es)) ∨ ∃ old, b.take o (len * es) = some old ∧ t = lay (old ++ new) T.emp 0) {j : Nat} {v : Value}
    (hv : Blk.at ⟨(len + n) * es, z, t⟩ j = some v) : (j < len * es ∧ b.at (o + j) = some v) ∨ (len * es ≤ j ∧ new[j - len * es]? = some v) := by
  have hm : (len + n) * es = len * es + n * es := Nat.add_mul _ _ _
  have hlt : j < (len + n) * es := by unfold Blk.at at hv; split at hv; · assumption
                                      · cases hv
  rcases hc with ⟨rfl, rfl, rfl⟩ | ⟨old, hold, rfl⟩
  · unfold Blk.at at hv
    simp only at hv
    rw [if_pos hlt, get_lay _ _ _ _ (by omega)] at hv
    by_cases h1 : len * es ≤ j
    · rw [if_pos (by omega)] at hv
      refine .inr ⟨h1, ?_⟩
      rw [List.getElem?_eq_getElem (by omega)] at hv ⊢
      exact hv
    · rw [if_neg (by omega)] at hv
      refine .inl ⟨by omega, ?_⟩
      unfold Blk.at
      rw [if_pos (by omega), Nat.zero_add]
      exact hv
  · have hol := take_length _ _ _ hold
    unfold Blk.at at hv
    simp only at hv
    rw [if_pos hlt, get_lay _ _ _ _ (by simp; omega), if_pos (by simp; omega), Nat.sub_zero, List.getElem?_eq_getElem (by simp; omega)] at hv
    simp only at hv
    rw [← List.getElem?_eq_getElem] at hv
    by_cases h1 : len * es ≤ j
    · refine .inr ⟨h1, ?_⟩
      rw [List.getElem?_append_right (by omega), hol] at hv
      exact hv
    · refine .inl ⟨by omega, take_get _ _ _ hold j v ?_⟩
      rw [List.getElem?_append_left (by omega)] at hv
      exact hv

end
end Go.Ai
