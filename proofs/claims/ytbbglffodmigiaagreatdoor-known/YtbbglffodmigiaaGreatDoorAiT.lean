/-
  What the fast interpreter says, the interpreter says: operations.
-/
import Derived.Test.YtbbglffodmigiaaGreatDoorAiS
namespace Go.Ai

section
variable {P : Program} {f : Fr} {h : Hp}

theorem intK_ref {k : IntKind} {i : Int} {K : Value → Prop} (hk : intK k i K) : K (.int k i) := by
  cases i with
  | ofNat m => exact forceK_ref (K := fun m => K (.int k (.ofNat m))) hk
  | negSucc m => exact forceK_ref (K := fun m => K (.int k (.negSucc m))) hk

theorem wrap_small {k : IntKind} {m : Nat} (h : Nat.ble (limit k) m = false) : k.wrap (.ofNat m) = .ofNat m := by
  have hlt : ¬ limit k ≤ m := fun hle => by rw [Nat.ble_eq_true_of_le hle] at h; cases h
  cases k <;> simp [limit] at hlt <;> simp [IntKind.wrap, IntKind.bits, IntKind.signed] <;> omega

theorem wrapK_ref {k : IntKind} {i : Int} {K : Value → Prop} (hk : wrapK k i K) : K (.int k (k.wrap i)) := by
  cases i with
  | ofNat m =>
    rcases boolRec (c := Nat.ble (limit k) m) hk with ⟨_, hk⟩ | ⟨hb, hk⟩
    · exact intK_ref hk
    · rw [wrap_small hb]
      exact forceK_ref (K := fun m => K (.int k (.ofNat m))) hk
  | negSucc m => exact intK_ref hk

theorem leK_ref {a b : Int} {A N : Prop} (hk : leK a b A N) : (a ≤ b ∧ A) ∨ (¬ a ≤ b ∧ N) := by
  cases a with
  | ofNat a =>
    cases b with
    | ofNat b =>
      rcases boolRec (c := Nat.ble a b) hk with ⟨hb, hk⟩ | ⟨hb, hk⟩
      · exact .inl ⟨Int.ofNat_le.2 (Nat.le_of_ble_eq_true hb), hk⟩
      · exact .inr ⟨fun hle => (by rw [Nat.ble_eq_true_of_le (Int.ofNat_le.1 hle)] at hb; cases hb), hk⟩
    | negSucc b => exact .inr ⟨by simp; omega, hk⟩
  | negSucc a =>
    cases b with
    | ofNat b => exact .inl ⟨by simp; omega, hk⟩
    | negSucc b =>
      rcases boolRec (c := Nat.ble b a) hk with ⟨hb, hk⟩ | ⟨hb, hk⟩
      · exact .inl ⟨by have := Nat.le_of_ble_eq_true hb; omega, hk⟩
      · exact .inr ⟨fun hle => (by rw [Nat.ble_eq_true_of_le (by omega)] at hb; cases hb), hk⟩

theorem eqK_ref {a b : Int} {A N : Prop} (hk : eqK a b A N) : (a = b ∧ A) ∨ (a ≠ b ∧ N) := by
  cases a with
  | ofNat a =>
    cases b with
    | ofNat b =>
      rcases boolRec (c := Nat.beq a b) hk with ⟨hb, hk⟩ | ⟨hb, hk⟩
      · exact .inl ⟨by rw [Nat.eq_of_beq_eq_true hb], hk⟩
      · exact .inr ⟨fun he => Nat.ne_of_beq_eq_false hb (Int.ofNat.inj he), hk⟩
    | negSucc b => exact .inr ⟨by simp, hk⟩
  | negSucc a =>
    cases b with
    | ofNat b => exact .inr ⟨by simp, hk⟩
    | negSucc b =>
      rcases boolRec (c := Nat.beq a b) hk with ⟨hb, hk⟩ | ⟨hb, hk⟩
      · exact .inl ⟨by rw [Nat.eq_of_beq_eq_true hb], hk⟩
      · exact .inr ⟨fun he => Nat.ne_of_beq_eq_false hb (Int.negSucc.inj he), hk⟩

theorem numK_ref {op : BinOp} {k : IntKind} {a b : Int} {E : Prop} {K : Value → Prop} (t : TypeId) (hk : numK op k a b E K) : E ∨ ∃ v, binOp op t (.int k a) (.int k b) = .pure v ∧ plain v = true ∧ K v := by
  cases op <;> first
    | exact .inl hk
    | exact .inr ⟨_, by simp [binOp, Op.intArith]; rfl, rfl, wrapK_ref hk⟩
    | skip
  case eql =>
    rcases eqK_ref hk with ⟨he, hk⟩ | ⟨he, hk⟩
    · exact .inr ⟨_, by simp [binOp, Op.intCmp, he]; rfl, rfl, hk⟩
    · have hb : (a == b) = false := by simp [he]
      exact .inr ⟨_, by simp [binOp, Op.intCmp, hb]; rfl, rfl, hk⟩
  case neq =>
    rcases eqK_ref hk with ⟨he, hk⟩ | ⟨he, hk⟩
    · exact .inr ⟨_, by simp [binOp, Op.intCmp, he]; rfl, rfl, hk⟩
    · have hb : (a == b) = false := by simp [he]
      exact .inr ⟨_, by simp [binOp, Op.intCmp, bne, hb]; rfl, rfl, hk⟩
  case lss =>
    rcases leK_ref hk with ⟨he, hk⟩ | ⟨he, hk⟩
    · exact .inr ⟨_, by simp [binOp, Op.intCmp, show ¬ a < b by omega]; rfl, rfl, hk⟩
    · exact .inr ⟨_, by simp [binOp, Op.intCmp, show a < b by omega]; rfl, rfl, hk⟩
  case leq =>
    rcases leK_ref hk with ⟨he, hk⟩ | ⟨he, hk⟩
    · exact .inr ⟨_, by simp [binOp, Op.intCmp, he]; rfl, rfl, hk⟩
    · exact .inr ⟨_, by simp [binOp, Op.intCmp, he]; rfl, rfl, hk⟩
  case gtr =>
    rcases leK_ref hk with ⟨he, hk⟩ | ⟨he, hk⟩
    · exact .inr ⟨_, by simp [binOp, Op.intCmp, show ¬ b < a by omega]; rfl, rfl, hk⟩
    · exact .inr ⟨_, by simp [binOp, Op.intCmp, show b < a by omega]; rfl, rfl, hk⟩
  case geq =>
    rcases leK_ref hk with ⟨he, hk⟩ | ⟨he, hk⟩
    · exact .inr ⟨_, by simp [binOp, Op.intCmp, he]; rfl, rfl, hk⟩
    · exact .inr ⟨_, by simp [binOp, Op.intCmp, he]; rfl, rfl, hk⟩

theorem optK_ref {x : Option Value} {K : Value → Prop} (hk : optK x K) : ∃ v, x = some v ∧ K v := by
  unfold optK at hk
  split at hk
  · exact ⟨_, rfl, hk⟩
  · exact hk.elim

theorem plain_two {g : Nat → Option Value} {o : Oper} {op : BinOp} {t u : TypeId} {x y : Operand} {k : IntKind} {a b : Int} {v : Value} (ho : o.op = .binOp op t x y u) (hx : ev g x = some (.int k a)) (hy : ev g y = some (.int k b))
    (hr : binOp op t (.int k a) (.int k b) = .pure v) (hp : plain v = true) : plainOp P g o = some v := by
  have hg : eqGuard op t x y (.int k a) (.int k b) = .pure () := by cases op <;> rfl
  unfold plainOp
  rw [if_pos (by rw [ho]; simp [Op.operands, allPlain, hx, hy, plain, plainCell])]
  have he : execOp (fun x => (ev g x).getD undef) o = .pure (.value v) := by
    unfold execOp
    rw [ho]
    simp only [hx, hy, Option.getD_some, hg, hr]
    rfl
  rw [he]
  simp [pureOf, hp]

theorem kindB_eq {k k' : IntKind} (h : kindB k k' = true) : k' = k := by
  cases k <;> cases k' <;> first | rfl | cases h

theorem binK_ref {o : Oper} {op : BinOp} {t u : TypeId} {x y : Operand} {K : Value → Prop} (ho : o.op = .binOp op t x y u) (hk : binK P f o op x y K) : ∃ v, plainOp P (T.get dep f) o = some v ∧ K v := by
  obtain ⟨a, ha, hk⟩ := evK_ref hk
  obtain ⟨b, hb, hk⟩ := evK_ref hk
  cases a <;> first | exact optK_ref hk | skip
  rename_i k a
  cases b <;> first | exact hk.elim | skip
  rename_i k2 b
  unfold twoK intsK at hk
  dsimp only at hk
  rcases boolRec hk with ⟨hkk, hk⟩ | ⟨_, hk⟩
  · obtain rfl := kindB_eq hkk
    rcases numK_ref t hk with hk | ⟨v, h1, h2, h3⟩
    · exact optK_ref hk
    · exact ⟨v, plain_two ho ha hb h1 h2, h3⟩
  · exact optK_ref hk

theorem fieldO_some {s : TypeId} {i k : Nat} (h : fieldO P s i = some k) : ∃ fs fd ti, P.underlying s = some (.struct fs) ∧ fs[i]? = some fd ∧ P.info? fd.type = some ti ∧ ti.size ≠ 0 ∧ fd.offset = k := by
  unfold fieldO at h
  split at h
  · rename_i fs hu
    split at h
    · rename_i fd hfd
      split at h
      · rename_i ti hti
        split at h
        · cases h
        · rename_i hz
          simp at h
          exact ⟨fs, fd, ti, hu, hfd, hti, Nat.ne_of_beq_eq_false hz, h⟩
      · cases h
    · cases h
  · cases h

theorem fieldK_ref {s : TypeId} {x : Value} {i : Nat} {K : Value → Prop} (hk : fieldK P s x i K) : ∃ v, fieldV P s x i = some v ∧ K v := by
  cases x <;> first | exact hk.elim | skip
  unfold fieldK at hk
  dsimp only at hk
  obtain ⟨id, o, rfl, hk⟩ := addrT (K := fun id o => @Option.rec Nat (fun _ => Prop) False (fun k => forceK (Nat.add o k) fun o => K (.pointer (some ⟨id, o, none⟩))) (fieldO P s i)) hk
  obtain ⟨k, hf, hk⟩ := optT hk
  have hk := forceK_ref hk
  obtain ⟨fs, fd, ti, h1, h2, h3, h4, rfl⟩ := fieldO_some hf
  exact ⟨_, by simp [fieldV, h1, h2, h3, h4], hk⟩

theorem elemO_some {t : TypeId} {s : Nat} (h : elemO P t = some s) : ∃ e ti, P.underlying t = some (.slice e) ∧ P.info? e = some ti ∧ ti.size = s := by
  unfold elemO at h
  split at h
  · rename_i e hu
    split at h
    · rename_i ti hti
      simp at h
      exact ⟨e, ti, hu, hti, h⟩
    · cases h
  · cases h

theorem arrO_some {t : TypeId} {q : Nat × Nat} (h : arrO P t = some q) : ∃ e ti, P.underlying t = some (.array q.1 e) ∧ P.info? e = some ti ∧ ti.size = q.2 := by
  unfold arrO at h
  split at h
  · rename_i len e hu
    split at h
    · rename_i ti hti
      simp at h
      subst h
      exact ⟨e, ti, hu, hti, rfl⟩
    · cases h
  · cases h

theorem indexK_ref {t : TypeId} {x j : Value} {K : Value → Prop} (hk : indexK P t x j K) : ∃ v, indexV P t x j = some v ∧ K v := by
  cases j <;> first | exact hk.elim | skip
  rename_i k i
  cases i <;> first | exact hk.elim | skip
  rename_i i
  unfold indexK at hk
  dsimp only at hk
  cases x <;> first | exact hk.elim | skip
  · rename_i a
    unfold indexN at hk
    dsimp only at hk
    obtain ⟨id, o, rfl, hk⟩ := addrT (K := fun id o => @Option.rec (Nat × Nat) (fun _ => Prop) False (fun q => @Bool.rec (fun _ => Prop) False (forceK (Nat.add o (Nat.mul i q.2)) fun o => K (.pointer (some ⟨id, o, none⟩))) (Nat.ble (Nat.succ i) q.1)) (arrO P t)) hk
    obtain ⟨q, hq, hk⟩ := optT hk
    obtain ⟨hb, hk⟩ := boolT hk
    have hk := forceK_ref hk
    obtain ⟨e, ti, h1, h2, h3⟩ := arrO_some hq
    have hlt : i < q.1 := Nat.le_of_ble_eq_true hb
    exact ⟨_, by simp only [indexV, h1, h2, h3, Option.bind_some, if_pos hlt]; rfl, hk⟩
  · rename_i a len es
    unfold indexN at hk
    dsimp only at hk
    obtain ⟨id, o, rfl, hk⟩ := addrT (K := fun id o => @Option.rec Nat (fun _ => Prop) False (fun s => @Bool.rec (fun _ => Prop) False (forceK (Nat.add o (Nat.mul i s)) fun o => K (.pointer (some ⟨id, o, none⟩))) (Nat.ble (Nat.succ i) len)) (elemO P t)) hk
    obtain ⟨s, hs, hk⟩ := optT hk
    obtain ⟨hb, hk⟩ := boolT hk
    have hk := forceK_ref hk
    obtain ⟨e, ti, h1, h2, h3⟩ := elemO_some hs
    have hlt : i < len := Nat.le_of_ble_eq_true hb
    exact ⟨_, by simp only [indexV, h1, h2, h3, Option.bind_some, if_pos hlt]; rfl, hk⟩

theorem lenK_ref {t : TypeId} {v : Value} {E : Prop} {K : Value → Prop} (hk : lenK P t v E K) : (∃ a n c, v = .slice a n c ∧ ∃ u, lenV P t v = some u ∧ K u) ∨ ((∀ a n c, v ≠ .slice a n c) ∧ E) := by
  cases v <;> first | exact .inr ⟨fun _ _ _ he => (by cases he), hk⟩ | skip
  rename_i a n c
  obtain ⟨hb, hk⟩ := boolT (c := isSliceT P t) hk
  have hk := forceK_ref (K := fun n => K (.int .i64 (.ofNat n))) hk
  refine .inl ⟨a, n, c, rfl, _, ?_, hk⟩
  unfold isSliceT at hb
  split at hb
  · rename_i hu
    simp [lenV, hu]
  · cases hb

theorem nilK_ref {v : Value} {K : Value → Prop} (hk : nilK v K) : ∃ u, nilV v = some u ∧ K u := by
  cases v <;> first | exact hk.elim | skip
  rename_i a
  cases a with
  | none => exact hk.elim
  | some a => exact ⟨_, rfl, hk⟩

theorem pickK_ref {v : Value} {A N : Prop} (hk : pickK v A N) : (v = .bool true ∧ A) ∨ (v = .bool false ∧ N) := by
  cases v <;> first | exact hk.elim | skip
  rename_i b
  cases b
  · exact .inr ⟨rfl, hk⟩
  · exact .inl ⟨rfl, hk⟩

end
end Go.Ai
