/-
  A region that draws its order: whatever the order, the end is the one of the text's order.
-/
import Derived.Test.YtbbglffodmigiaaGreatDoorAiL
namespace Go.Ai
open Go.RowKit

section
variable {P : Program} {W0 : World} {call : FuncId → List Value → Hp → Option (Value × Hp)} {ops : Array Oper}

theorem run_of_seq (all : Array Oper) : ∀ (l : List Oper) (f : Fr) (h : Hp) (f' : Fr) (h' : Hp), seqOps P call all l f h = some (f', h') →
    ∃ (F : Nat → Fr) (H : Nat → Hp) (V : Nat → Value), F 0 = f ∧ H 0 = h ∧ F l.length = f' ∧ H l.length = h' ∧
      (∀ i o, l[i]? = some o → step P call all (T.get dep (F i)) (H i) o = some (V i, H (i + 1)) ∧ F (i + 1) = put (F i) o.dst (V i)) ∧
      ∀ tr, trace P call all l f h = some tr → ∀ i, i ≤ l.length → ∃ v, tr[i]? = some (F i, H i, v) ∧ (i < l.length → v = V i)
  | [], f, h, f', h', hv => by
    simp [seqOps] at hv
    obtain ⟨rfl, rfl⟩ := hv
    refine ⟨fun _ => f, fun _ => h, fun _ => undef, rfl, rfl, rfl, rfl, fun i o hi => by simp at hi, fun tr ht i hi => ?_⟩
    simp [trace] at ht
    subst ht
    obtain rfl : i = 0 := by simpa using hi
    exact ⟨undef, rfl, fun _ => rfl⟩
  | o :: l, f, h, f', h', hv => by
    simp only [seqOps, Option.bind_eq_some_iff] at hv
    obtain ⟨⟨v, h1⟩, hst, hv⟩ := hv
    obtain ⟨F, H, V, e1, e2, e3, e4, e5, e6⟩ := run_of_seq all l _ _ f' h' hv
    refine ⟨fun i => match i with | 0 => f | i + 1 => F i, fun i => match i with | 0 => h | i + 1 => H i, fun i => match i with | 0 => v | i + 1 => V i, rfl, rfl, e3, e4, fun i o' hi => ?_, fun tr ht i hi => ?_⟩
    · cases i with
      | zero =>
        simp at hi
        subst hi
        exact ⟨by simp only [e2]; exact hst, e1⟩
      | succ i =>
        simp at hi
        exact e5 i o' hi
    · simp only [trace, Option.bind_eq_some_iff] at ht
      obtain ⟨r, hr, l', hl', ht⟩ := ht
      obtain rfl : r = (v, h1) := Option.some.inj (hr.symm.trans hst)
      simp at ht
      subst ht
      cases i with
      | zero => exact ⟨v, rfl, fun _ => rfl⟩
      | succ i =>
        obtain ⟨u, hu, hu2⟩ := e6 l' hl' i (by simpa using hi)
        exact ⟨u, by simpa using hu, fun hlt => hu2 (by simpa using hlt)⟩

theorem step_same {g : Nat → Option Value} {h h' : Hp} {o : Oper} {v : Value} (hw : isW o.op = false) (hs : step P call ops g h o = some (v, h')) : h' = h := by
  unfold step at hs
  simp only [Option.bind_eq_some_iff] at hs
  obtain ⟨b, _, hs⟩ := hs
  split at hs
  · rw [hw] at hs
    simp only [Bool.false_eq_true, if_false, Option.bind_eq_some_iff] at hs
    obtain ⟨u, _, hs⟩ := hs
    simp at hs
    exact hs.2.symm
  · simp at hs
    exact hs.2.symm

/-- the run in the text's order -/
structure Run (P : Program) (call : FuncId → List Value → Hp → Option (Value × Hp)) (ops : Array Oper) (F : Nat → Fr) (H : Nat → Hp) (V : Nat → Value) : Prop where
  st : ∀ i o, ops[i]? = some o → step P call ops (T.get dep (F i)) (H i) o = some (V i, H (i + 1)) ∧ F (i + 1) = put (F i) o.dst (V i)
  edge : ∀ j o, ops[j]? = some o → ∀ e ∈ o.after, Region.binds .any e = true → e.on < j
  two : ∀ j oj, ops[j]? = some oj → ∀ i oi, i < j → ops[i]? = some oi → ((befores ops.toList []).getD j 0).testBit i = true ∨ (oi.apart ops oj = true ∧ ¬ (isW oi.op = true ∧ isW oj.op = true))
  again : ∀ i j oi oj, ops[i]? = some oi → ops[j]? = some oj → isLoad oi.op = true → isW oj.op = true → loose (befores ops.toList []) i j = true →
    wants ops (T.get dep (F i)) oi = some true → rop P (T.get dep (F i)) (H j) oi = some (V i) ∧ rop P (T.get dep (F i)) (H (j + 1)) oi = some (V i)

variable {F : Nat → Fr} {H : Nat → Hp} {V : Nat → Value}

theorem Run.bits_lt (R : Run P call ops F H V) : ∀ (i x : Nat), i < ops.size → ((befores ops.toList []).getD i 0).testBit x = true → x < i := by
  intro i
  induction i using Nat.strongRecOn with
  | _ i ih =>
    intro x hi hb
    obtain ⟨o, ho⟩ : ∃ o, ops[i]? = some o := ⟨ops[i], by simp [hi]⟩
    obtain ⟨e, he, hbd, hx⟩ := before_spec ho hb
    have hlt := R.edge i o ho e he hbd
    rcases hx with rfl | ⟨_, hx⟩
    · exact hlt
    · exact Nat.lt_trans (ih e.on hlt x (by omega) hx) hlt

theorem bits_listed {listed : Array Bool} (hc : ∀ j o, ops[j]? = some o → listed.getD j false = true → ∀ e ∈ o.after, Region.binds .any e = true → listed.getD e.on false = true) :
    ∀ (i x : Nat), i < ops.size → listed.getD i false = true → ((befores ops.toList []).getD i 0).testBit x = true → listed.getD x false = true := by
  intro i
  induction i using Nat.strongRecOn with
  | _ i ih =>
    intro x hi hl hb
    obtain ⟨o, ho⟩ : ∃ o, ops[i]? = some o := ⟨ops[i], by simp [hi]⟩
    obtain ⟨e, he, hbd, hx⟩ := before_spec ho hb
    have h1 := hc i o ho hl e he hbd
    rcases hx with rfl | ⟨hlt, hx⟩
    · exact h1
    · exact ih e.on hlt x (by omega) h1 hx

theorem bits_ready {listed : Array Bool} (hc : ∀ j o, ops[j]? = some o → listed.getD j false = true → ∀ e ∈ o.after, Region.binds .any e = true → listed.getD e.on false = true) {i : Nat} {o : Oper} (ho : ops[i]? = some o)
    (hr : ∀ e ∈ o.after, Region.binds .any e = true → listed.getD e.on false = true) {x : Nat} (hb : ((befores ops.toList []).getD i 0).testBit x = true) : listed.getD x false = true := by
  obtain ⟨e, he, hbd, hx⟩ := before_spec ho hb
  have h1 := hr e he hbd
  rcases hx with rfl | ⟨hlt, hx⟩
  · exact h1
  · have hi : i < ops.size := (Array.getElem?_eq_some_iff.1 ho).1
    exact bits_listed hc e.on x (by omega) h1 hx

theorem Run.same (R : Run P call ops F H V) : ∀ (k p : Nat), p + k ≤ ops.size → (∀ j o, p ≤ j → j < p + k → ops[j]? = some o → isW o.op = false) → H (p + k) = H p
  | 0, p, _, _ => rfl
  | k + 1, p, hle, hw => by
    have hlt : p + k < ops.size := by omega
    have ih := R.same k p (by omega) (fun j o h1 h2 => hw j o h1 (by omega))
    have := step_same (hw (p + k) ops[p + k] (by omega) (by omega) (by simp [hlt])) (R.st (p + k) ops[p + k] (by simp [hlt])).1
    rw [← Nat.add_assoc, this, ih]

theorem Run.same' (R : Run P call ops F H V) {p i : Nat} (hpi : p ≤ i) (hi : i ≤ ops.size) (hw : ∀ j o, p ≤ j → j < i → ops[j]? = some o → isW o.op = false) : H i = H p := by
  have := R.same (i - p) p (by omega) (fun j o h1 h2 => hw j o h1 (by omega))
  rwa [show p + (i - p) = i by omega] at this

/-- the first writer of a stretch -/
theorem first_w : ∀ (k p : Nat), (∀ j o, p ≤ j → j < p + k → ops[j]? = some o → isW o.op = false) ∨ ∃ j o, p ≤ j ∧ j < p + k ∧ ops[j]? = some o ∧ isW o.op = true ∧ ∀ j' o', p ≤ j' → j' < j → ops[j']? = some o' → isW o'.op = false
  | 0, p => .inl fun j o h1 h2 => by omega
  | k + 1, p => by
    rcases first_w k p with h | ⟨j, o, h1, h2, h3⟩
    · cases ho : ops[p + k]? with
      | none =>
        refine .inl fun j o h1 h2 hj => ?_
        by_cases he : j = p + k
        · subst he; rw [ho] at hj; cases hj
        · exact h j o h1 (by omega) hj
      | some o =>
        cases hw : isW o.op with
        | false =>
          refine .inl fun j o' h1 h2 hj => ?_
          by_cases he : j = p + k
          · subst he; rw [ho] at hj; cases hj; exact hw
          · exact h j o' h1 (by omega) hj
        | true => exact .inr ⟨p + k, o, by omega, by omega, ho, hw, fun j' o' h1 h2 => h j' o' h1 (by omega)⟩
    · exact .inr ⟨j, o, h1, by omega, h3⟩

/-- the last writer of a stretch -/
theorem last_w : ∀ (k p : Nat), (∀ j o, p ≤ j → j < p + k → ops[j]? = some o → isW o.op = false) ∨ ∃ j o, p ≤ j ∧ j < p + k ∧ ops[j]? = some o ∧ isW o.op = true ∧ ∀ j' o', j < j' → j' < p + k → ops[j']? = some o' → isW o'.op = false
  | 0, p => .inl fun j o h1 h2 => by omega
  | k + 1, p => by
    cases ho : ops[p + k]? with
    | none =>
      rcases last_w k p with h | ⟨j, o, h1, h2, h3, h4, h5⟩
      · exact .inl fun j o h1 h2 hj => by
          by_cases he : j = p + k
          · subst he; rw [ho] at hj; cases hj
          · exact h j o h1 (by omega) hj
      · exact .inr ⟨j, o, h1, by omega, h3, h4, fun j' o' k1 k2 hj => by
          by_cases he : j' = p + k
          · subst he; rw [ho] at hj; cases hj
          · exact h5 j' o' k1 (by omega) hj⟩
    | some o =>
      cases hw : isW o.op with
      | true => exact .inr ⟨p + k, o, by omega, by omega, ho, hw, fun j' o' k1 k2 => by omega⟩
      | false =>
        rcases last_w k p with h | ⟨j, o', h1, h2, h3, h4, h5⟩
        · exact .inl fun j o' h1 h2 hj => by
            by_cases he : j = p + k
            · subst he; rw [ho] at hj; cases hj; exact hw
            · exact h j o' h1 (by omega) hj
        · exact .inr ⟨j, o', h1, by omega, h3, h4, fun j' o'' k1 k2 hj => by
            by_cases he : j' = p + k
            · subst he; rw [ho] at hj; cases hj; exact hw
            · exact h5 j' o'' k1 (by omega) hj⟩

/-- what a slot holds once the operations that are listed have come up -/
def Val (ops : Array Oper) (F : Nat → Fr) (V : Nat → Value) (listed : Array Bool) (t : Nat) (v : Value) : Prop :=
  (∃ j o, ops[j]? = some o ∧ listed.getD j false = true ∧ o.dst = some t ∧ v = V j ∧ ∀ k o', ops[k]? = some o' → listed.getD k false = true → o'.dst = some t → k ≤ j) ∨
  ((∀ k o', ops[k]? = some o' → listed.getD k false = true → o'.dst ≠ some t) ∧ T.get dep (F 0) t = some v)

theorem Run.frame (R : Run P call ops F H V) {t : Nat} {v : Value} : ∀ (i : Nat), i ≤ ops.size → T.get dep (F i) t = some v →
    (∃ j o, j < i ∧ ops[j]? = some o ∧ o.dst = some t ∧ v = V j ∧ ∀ k o', ops[k]? = some o' → k < i → o'.dst = some t → k ≤ j) ∨
    ((∀ k o', ops[k]? = some o' → k < i → o'.dst ≠ some t) ∧ T.get dep (F 0) t = some v)
  | 0, _, hv => .inr ⟨fun k o' _ hk => by omega, hv⟩
  | i + 1, hi, hv => by
    obtain ⟨o, ho⟩ : ∃ o, ops[i]? = some o := ⟨ops[i], by simp⟩
    rw [(R.st i o ho).2] at hv
    have other : o.dst ≠ some t → (T.get dep (F i) t = some v) → (∃ j o, j < i + 1 ∧ ops[j]? = some o ∧ o.dst = some t ∧ v = V j ∧ ∀ k o', ops[k]? = some o' → k < i + 1 → o'.dst = some t → k ≤ j) ∨
        ((∀ k o', ops[k]? = some o' → k < i + 1 → o'.dst ≠ some t) ∧ T.get dep (F 0) t = some v) := fun hd hv => by
      rcases R.frame i (by omega) hv with ⟨j, oj, h1, h2, h3, h4, h5⟩ | ⟨h1, h2⟩
      · exact Or.inl ⟨j, oj, by omega, h2, h3, h4, fun k o' hk hlt hd' => by
          by_cases he : k = i
          · subst he; rw [ho] at hk; cases hk; exact absurd hd' hd
          · exact h5 k o' hk (by omega) hd'⟩
      · exact Or.inr ⟨fun k o' hk hlt => by
          by_cases he : k = i
          · subst he; rw [ho] at hk; cases hk; exact hd
          · exact h1 k o' hk (by omega), h2⟩
    cases hd : o.dst with
    | none => rw [hd] at hv; exact other (by rw [hd]; simp) hv
    | some d =>
      rw [hd] at hv
      simp only [put] at hv
      by_cases ht : t = d
      · subst ht
        have := T.get_set_self _ _ _ hv
        exact .inl ⟨i, o, by omega, ho, hd, this, fun k o' _ hlt _ => by omega⟩
      · rw [T.get_set_ne _ _ _ _ _ ht] at hv
        exact other (by rw [hd]; simp; exact fun e => ht e.symm) hv

end
end Go.Ai
