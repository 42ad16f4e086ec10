/-
  What the fast interpreter says, the interpreter says: operations that change memory; all operations.
-/
import Derived.Test.YtbbglffodmigiaaGreatDoorAiT
namespace Go.Ai

section
variable {P : Program} {f : Fr} {h : Hp}

theorem newK_ref {b : Blk} {K : Nat → Hp → Prop} (hk : newK h b K) : ∃ h', newBlk h b = some h' ∧ K h.nx h' := by
  obtain ⟨hm, nx⟩ := h
  unfold newK at hk
  dsimp only at hk
  obtain ⟨hb, hk⟩ := boolT hk
  have hk := setK_ref _ _ _ _ _ hk
  have hk := forceK_ref hk
  have hle : nx ≤ top := Nat.le_of_ble_eq_true hb
  exact ⟨_, by unfold newBlk; rw [if_pos hle]; rfl, hk⟩

theorem len_cells (x : Value) : x.cells.toList.length = x.cells.size := by simp

theorem boxK_ref {x : Value} {K : Value → Hp → Prop} (hk : boxK h x K) : ∃ v h', boxV h x = some (v, h') ∧ K v h' := by
  obtain ⟨hc, hk⟩ := boolT (c := cellsOk x.cells.toList) hk
  obtain ⟨h', hn, hk⟩ := newK_ref hk
  refine ⟨_, h', ?_, hk⟩
  unfold boxV
  rw [if_pos hc]
  rw [len_cells] at hn
  simp [hn]

theorem partsK_ref {s len : Nat} : ∀ (n : Nat) (ps : List (Nat × Value)) (t : T Value) (K : T Value → Prop), partsK s len n ps t K → ∃ c, layParts s len ps t = some c ∧ K c
  | 0, _, _, _, h => h.elim
  | n + 1, [], t, K, h => ⟨t, rfl, h⟩
  | n + 1, p :: ps, t, K, h => by
    unfold partsK at h
    dsimp only at h
    obtain ⟨hc, h⟩ := boolT h
    obtain ⟨c1, hc⟩ := andK_true hc
    obtain ⟨c2, c3⟩ := andK_true hc
    have h := layK_ref _ _ _ _ _ h
    obtain ⟨c, h1, h2⟩ := partsK_ref n ps _ K h
    refine ⟨c, ?_, h2⟩
    have e1 : p.2.cells.size = s := by have := Nat.eq_of_beq_eq_true c1; rwa [len_cells] at this
    have e2 : p.1 < len := Nat.le_of_ble_eq_true c2
    simp only [layParts]
    rw [if_pos ⟨e1, e2, c3⟩]
    exact h1

theorem litO_some {t : TypeId} {len : Nat} {q : Nat × List Value} (h : litO P t len = some q) : ∃ e i z, P.underlying t = some (.slice e) ∧ P.info? e = some i ∧ i.zero = some z ∧ i.size = q.1 ∧ z.cells.toList = q.2 ∧
    (0 < len ∧ len * i.size ≤ 2 ^ 20 ∧ z.cells.size = i.size ∧ 0 < i.size ∧ z.cells.toList.all plainCell = true) := by
  unfold litO at h
  split at h
  · rename_i e hu
    split at h
    · rename_i i hi
      split at h
      · rename_i z hz
        split at h
        · rename_i hc
          simp at h
          subst h
          obtain ⟨c1, hc⟩ := andK_true hc
          obtain ⟨c2, hc⟩ := andK_true hc
          obtain ⟨c3, hc⟩ := andK_true hc
          obtain ⟨c4, c5⟩ := andK_true hc
          exact ⟨e, i, z, hu, hi, hz, rfl, rfl, Nat.le_of_ble_eq_true c1, Nat.le_of_ble_eq_true c2, by have := Nat.eq_of_beq_eq_true c3; rwa [len_cells] at this, Nat.le_of_ble_eq_true c4, c5⟩
        · cases h
      · cases h
    · cases h
  · cases h

theorem litK_ref {t : TypeId} {len : Nat} {ps : List (Nat × Value)} {K : Value → Hp → Prop} (hk : litK P h t len ps K) : ∃ v h', buildSliceV P h t len ps = some (v, h') ∧ K v h' := by
  obtain ⟨q, hq, hk⟩ := optT (x := litO P t len) hk
  obtain ⟨e, i, z, h1, h2, h3, h4, h5, h6⟩ := litO_some hq
  obtain ⟨c, hc, hk⟩ := partsK_ref _ _ _ _ hk
  obtain ⟨h', hn, hk⟩ := newK_ref hk
  refine ⟨_, h', ?_, hk⟩
  unfold buildSliceV
  simp only [h1, h2, h3, Option.bind_some]
  rw [if_pos h6, h4, hc]
  rw [← h5] at hn
  simp only [Option.bind_some]
  rw [show newBlk h ⟨len * q.1, z.cells.toList, c⟩ = some h' from hn]
  rfl

theorem makeK_ref {t : TypeId} {l c : Value} {K : Value → Hp → Prop} (hk : makeK P h t l c K) : ∃ v h', makeV P h t l c = some (v, h') ∧ K v h' := by
  cases l <;> first | exact hk.elim | skip
  rename_i k l
  cases l <;> first | exact hk.elim | skip
  rename_i l
  cases c <;> first | exact hk.elim | skip
  rename_i k' c
  cases c <;> first | exact hk.elim | skip
  rename_i c
  have hk : makeN P h t l c K := hk
  unfold makeN at hk
  split at hk
  · rename_i e hu
    split at hk
    · rename_i i hi
      split at hk
      · rename_i z hz
        split at hk
        · rename_i hc
          obtain ⟨c1, hc⟩ := andK_true hc
          obtain ⟨c2, hc⟩ := andK_true hc
          obtain ⟨c3, hc⟩ := andK_true hc
          obtain ⟨c4, hc⟩ := andK_true hc
          obtain ⟨c5, hc⟩ := andK_true hc
          obtain ⟨c6, c7⟩ := andK_true hc
          have hk := forceK_ref hk
          obtain ⟨h', hn, hk⟩ := newK_ref hk
          have hk := forceK_ref hk
          refine ⟨_, h', ?_, hk⟩
          unfold makeV
          simp only [hu, hi, hz, Option.bind_some]
          rw [if_pos ⟨Nat.le_of_ble_eq_true c1, Nat.le_of_ble_eq_true c2, Nat.le_of_ble_eq_true c3, Nat.le_of_ble_eq_true c4, (by have := Nat.eq_of_beq_eq_true c5; rwa [len_cells] at this), Nat.le_of_ble_eq_true c6, c7⟩]
          rw [show newBlk h ⟨c * i.size, z.cells.toList, T.emp⟩ = some h' from hn]
          rfl
        · exact hk.elim
      · exact hk.elim
    · exact hk.elim
  · exact hk.elim

theorem firstK_ref {s n : Nat} {x : Value} {K : List Value → Prop} (hk : firstK h s n x K) : ∃ vs, firstV h s n x = some vs ∧ K vs := by
  cases x <;> first | exact hk.elim | skip
  rename_i a len es
  unfold firstK at hk
  dsimp only at hk
  obtain ⟨id, o, rfl, hk⟩ := addrT (K := fun id o => @Bool.rec (fun _ => Prop) False (blkK h id fun b => takeK b (Nat.mul n s) o K) (Nat.ble n len)) hk
  obtain ⟨hb, hk⟩ := boolT hk
  obtain ⟨b, hbk, hk⟩ := blkK_ref hk
  obtain ⟨vs, hvs, hk⟩ := takeK_ref _ _ _ hk
  refine ⟨vs, ?_, hk⟩
  unfold firstV
  simp only
  rw [if_pos (Nat.le_of_ble_eq_true hb), hbk]
  exact hvs

theorem goOnK_ref {id len s : Nat} {z : List Value} {c : T Value} {K : Value → Hp → Prop} (hk : goOnK h id len s z c K) : ∃ h', newBlk ⟨T.set dep h.m id none, h.nx⟩ ⟨len * s, z, c⟩ = some h' ∧ K (.slice (some ⟨h.nx, 0, none⟩) len s) h' := by
  obtain ⟨hm, nx⟩ := h
  unfold goOnK at hk
  dsimp only at hk
  have hk := setK_ref _ _ _ _ _ hk
  have hk := forceK_ref hk
  have hk := forceK_ref hk
  exact newK_ref hk

theorem appO_some {st xt : TypeId} {q : Nat × List Value} (h : appO P st xt = some q) : ∃ e e' i z, P.underlying st = some (.slice e) ∧ P.underlying xt = some (.slice e') ∧ P.info? e = some i ∧ i.zero = some z ∧ i.size = q.1 ∧ z.cells.toList = q.2 ∧
    z.cells.size = i.size ∧ 0 < i.size ∧ i.bytes ≤ 1000 := by
  unfold appO at h
  split at h
  · rename_i e hu
    split at h
    · rename_i e' hu'
      split at h
      · rename_i i hi
        split at h
        · rename_i z hz
          split at h
          · rename_i hc
            simp at h
            subst h
            obtain ⟨c1, hc⟩ := andK_true hc
            obtain ⟨c2, c3⟩ := andK_true hc
            exact ⟨e, e', i, z, hu, hu', hi, hz, rfl, rfl, by have := Nat.eq_of_beq_eq_true c1; rwa [len_cells] at this, Nat.le_of_ble_eq_true c2, Nat.le_of_ble_eq_true c3⟩
          · cases h
        · cases h
      · cases h
    · cases h
  · cases h

theorem appendK_ref {st xt : TypeId} {s x : Value} {K : Value → Hp → Prop} (hk0 : appendK P h st xt s x K) : ∃ v h', appendV P h st xt s x = some (v, h') ∧ K v h' := by
  obtain ⟨q, hq, hk⟩ := optT (x := appO P st xt) hk0
  clear hk0
  obtain ⟨e, e', i, z, h1, h2, h3, h4, h5, h6, h7, h8, h9⟩ := appO_some hq
  cases s <;> first | exact hk.elim | skip
  rename_i sa len sc
  cases x <;> first | exact hk.elim | skip
  rename_i xa n xc
  unfold appendV
  simp only [h1, h2, h3, h4, Option.bind_some]
  rcases boolRec (c := Nat.beq n 0) hk with ⟨hn, hk⟩ | ⟨hn, hk⟩
  · rw [if_pos (Nat.eq_of_beq_eq_true hn)]
    exact ⟨_, _, rfl, hk⟩
  · rw [if_neg (Nat.ne_of_beq_eq_false hn)]
    obtain ⟨new, hnew, hk⟩ := firstK_ref hk
    rw [h5, hnew]
    simp only [Option.bind_some]
    obtain ⟨ht, hk⟩ := boolT (c := Nat.ble (Nat.mul (Nat.add len n) q.1) 1073741824) hk
    have ht' : (len + n) * q.1 ≤ top := Nat.le_of_ble_eq_true ht
    rw [if_pos ⟨by rw [h7, h5], by rw [← h5]; exact h8, h9, ht'⟩]
    cases sa with
    | none =>
      obtain ⟨hc, hk⟩ := boolT (c := andK (Nat.beq len 0) (Nat.beq sc 0)) hk
      obtain ⟨c1, c2⟩ := andK_true hc
      have hk := layK_ref _ _ _ _ _ hk
      obtain ⟨h', hn', hk⟩ := newK_ref hk
      refine ⟨_, h', ?_, hk⟩
      simp only
      rw [if_pos ⟨Nat.eq_of_beq_eq_true c1, Nat.eq_of_beq_eq_true c2⟩, h6]
      rw [show newBlk h ⟨n * q.1, q.2, lay new T.emp 0⟩ = some h' from hn']
      rfl
    | some ad =>
      obtain ⟨id, o, sp⟩ := ad
      cases sp with
      | some _ => exact hk.elim
      | none =>
        obtain ⟨b, hb, hk⟩ := blkK_ref hk
        obtain ⟨bs, bz, bc⟩ := b
        simp only [hb, Option.bind_some]
        obtain ⟨hc, hk⟩ := boolT (c := andK (Nat.beq sc q.1) (Nat.ble (Nat.add o (Nat.mul len q.1)) bs)) hk
        obtain ⟨c1, c2⟩ := andK_true hc
        rw [if_pos ⟨Nat.eq_of_beq_eq_true c1, Nat.le_of_ble_eq_true c2⟩]
        rcases boolRec (c := Nat.beq o 0) hk with ⟨ho, hk⟩ | ⟨ho, hk⟩
        · rw [if_pos (Nat.eq_of_beq_eq_true ho)]
          have hk := layK_ref _ _ _ _ _ hk
          obtain ⟨h', hn', hk⟩ := goOnK_ref hk
          refine ⟨_, h', ?_, hk⟩
          rw [show newBlk ⟨T.set dep h.m id none, h.nx⟩ ⟨(len + n) * q.1, bz, lay new bc (len * q.1)⟩ = some h' from hn']
          rfl
        · rw [if_neg (Nat.ne_of_beq_eq_false ho)]
          obtain ⟨old, hold, hk⟩ := takeK_ref _ _ _ hk
          have hk := layK_ref _ _ _ _ _ hk
          obtain ⟨h', hn', hk⟩ := goOnK_ref hk
          refine ⟨_, h', ?_, hk⟩
          rw [show Blk.take ⟨bs, bz, bc⟩ o (len * q.1) = some old from hold]
          simp only [Option.bind_some]
          rw [h6, show newBlk ⟨T.set dep h.m id none, h.nx⟩ ⟨(len + n) * q.1, q.2, lay (old ++ new) T.emp 0⟩ = some h' from hn']
          rfl

theorem copyK_ref {dt : TypeId} {d s : Value} {K : Value → Hp → Prop} (hk0 : copyK P h dt d s K) : ∃ v h', copyV P h dt d s = some (v, h') ∧ K v h' := by
  obtain ⟨es, hes, hk⟩ := optT (x := elemO P dt) hk0
  clear hk0
  obtain ⟨e, i, h1, h2, rfl⟩ := elemO_some hes
  cases d <;> first | exact hk.elim | skip
  rename_i a dl dc
  cases s <;> first | exact hk.elim | skip
  rename_i sa sl sc
  have hk := forceK_ref (K := fun n => copyN h i.size n a (.slice sa sl sc) K) hk
  unfold copyV
  simp only [h1, h2, Option.bind_some]
  unfold copyN at hk
  rcases boolRec (c := Nat.beq (Nat.min sl dl) 0) hk with ⟨hn, hk⟩ | ⟨hn, hk⟩
  · rw [if_pos (Nat.eq_of_beq_eq_true hn)]
    exact ⟨_, _, rfl, hk⟩
  · rw [if_neg (Nat.ne_of_beq_eq_false hn)]
    cases a with
    | none => exact hk.elim
    | some ad =>
      obtain ⟨id, o, sp⟩ := ad
      cases sp with
      | some _ => exact hk.elim
      | none =>
        obtain ⟨new, hnew, hk⟩ := firstK_ref hk
        obtain ⟨b, hb, hk⟩ := blkK_ref hk
        obtain ⟨bs, bz, bc⟩ := b
        obtain ⟨hm, nx⟩ := h
        obtain ⟨hc, hk⟩ := boolT (c := andK (Nat.ble (Nat.add o (Nat.mul (Nat.min sl dl) i.size)) bs) (Nat.ble (Nat.add o (Nat.mul (Nat.min sl dl) i.size)) 1073741824)) hk
        obtain ⟨c1, c2⟩ := andK_true hc
        have hk := layK_ref _ _ _ _ _ hk
        have hk := setK_ref _ _ _ _ _ hk
        refine ⟨_, _, ?_, hk⟩
        simp only [hnew, hb, Option.bind_some]
        rw [if_pos ⟨Nat.le_of_ble_eq_true c1, Nat.le_of_ble_eq_true c2⟩]
        rfl

end
end Go.Ai
