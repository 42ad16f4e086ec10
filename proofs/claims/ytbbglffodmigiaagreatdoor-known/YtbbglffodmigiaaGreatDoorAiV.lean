/-
  What the fast interpreter says, the interpreter says.
-/
import Derived.Test.YtbbglffodmigiaaGreatDoorAiU
namespace Go.Ai

section
variable {P : Program} {f : Fr} {h : Hp} {call : C} {call' : FuncId → List Value → Hp → Option (Value × Hp)}

/-- the two ways to call agree -/
def CallRef (call : C) (call' : FuncId → List Value → Hp → Option (Value × Hp)) : Prop := ∀ k vs h K, call k vs h K → ∃ v h', call' k vs h = some (v, h') ∧ K v h'

theorem opK_ref (hc : CallRef call call') {o : Oper} {K : Value → Hp → Prop} (hk : opK P call o.op f h o K) :
    ∃ v h', (if isW o.op then wop P call' (T.get dep f) h o else (rop P (T.get dep f) h o).bind fun v => some (v, h)) = some (v, h') ∧ K v h' := by
  obtain ⟨dst, op, type, pos, after, guard⟩ := o
  have rest : ∀ {op : Op}, isW op = false → oRest P f h ⟨dst, op, type, pos, after, guard⟩ K →
      ∃ v h', (if isW op then wop P call' (T.get dep f) h ⟨dst, op, type, pos, after, guard⟩ else (rop P (T.get dep f) h ⟨dst, op, type, pos, after, guard⟩).bind fun v => some (v, h)) = some (v, h') ∧ K v h' := fun hw hk => by
    obtain ⟨v, hv, hk⟩ := optK_ref hk
    exact ⟨v, h, by rw [hw]; simp [hv], hk⟩
  cases op
  case move x =>
    obtain ⟨v, hv, hk⟩ := evK_ref (K := fun v => K v h) hk
    exact ⟨v, h, by simp [isW, rop, hv], hk⟩
  case assign x =>
    obtain ⟨v, hv, hk⟩ := evK_ref (K := fun v => K v h) hk
    exact ⟨v, h, by simp [isW, rop, hv], hk⟩
  case pick c a b =>
    obtain ⟨v, hv, hk⟩ := evK_ref (x := c) hk
    rcases pickK_ref hk with ⟨rfl, hk⟩ | ⟨rfl, hk⟩
    · obtain ⟨u, hu, hk⟩ := evK_ref hk
      exact ⟨u, h, by simp [isW, rop, hv, hu], hk⟩
    · obtain ⟨u, hu, hk⟩ := evK_ref hk
      exact ⟨u, h, by simp [isW, rop, hv, hu], hk⟩
  case load t a =>
    obtain ⟨p, hp, hk⟩ := evK_ref (x := a) hk
    obtain ⟨v, hv, hk⟩ := loadK_ref hk
    exact ⟨v, h, by simp [isW, rop, hp, hv], hk⟩
  case nilCheck x =>
    obtain ⟨p, hp, hk⟩ := evK_ref (x := x) hk
    obtain ⟨v, hv, hk⟩ := nilK_ref hk
    exact ⟨v, h, by simp [isW, rop, hp, hv], hk⟩
  case fieldAddr s x i =>
    obtain ⟨p, hp, hk⟩ := evK_ref (x := x) hk
    obtain ⟨v, hv, hk⟩ := fieldK_ref hk
    exact ⟨v, h, by simp [isW, rop, hp, hv], hk⟩
  case indexAddr t x i =>
    obtain ⟨p, hp, hk⟩ := evK_ref (x := x) hk
    obtain ⟨j, hj, hk⟩ := evK_ref hk
    obtain ⟨v, hv, hk⟩ := indexK_ref hk
    exact ⟨v, h, by simp [isW, rop, hp, hj, hv], hk⟩
  case binOp op t x y u =>
    obtain ⟨v, hv, hk⟩ := binK_ref (o := ⟨dst, .binOp op t x y u, type, pos, after, guard⟩) rfl hk
    exact ⟨v, h, by simp [isW, rop, hv], hk⟩
  case alloc t =>
    obtain ⟨z, hz, hk⟩ := optT (x := allocO P t) hk
    obtain ⟨v, h', hv, hk⟩ := boxK_ref hk
    refine ⟨v, h', ?_, hk⟩
    unfold allocO at hz
    split at hz
    · rename_i i hi
      split at hz
      · rename_i z' hz'
        split at hz
        · rename_i hp
          simp only [Option.some.injEq] at hz
          subst hz
          simp only [isW, if_true, wop, hi, hz', Option.bind_some]
          rw [if_pos hp]
          exact hv
        · cases hz
      · cases hz
    · cases hz
  case box t x =>
    obtain ⟨p, hp, hk⟩ := evK_ref (x := x) hk
    obtain ⟨v, h', hv, hk⟩ := boxK_ref hk
    exact ⟨v, h', by simp [isW, wop, hp, hv], hk⟩
  case buildSlice t n ps =>
    have hk : evpK f 1000 ps.toList (fun vs => litK P h t n vs K) := hk
    obtain ⟨vs, hvs, hk⟩ := evpK_ref _ _ _ hk
    obtain ⟨v, h', hv, hk⟩ := litK_ref hk
    exact ⟨v, h', by simp [isW, wop, hvs, hv], hk⟩
  case store t a x =>
    obtain ⟨p, hp, hk⟩ := evK_ref (x := a) hk
    obtain ⟨u, hu, hk⟩ := evK_ref hk
    obtain ⟨h', hv, hk⟩ := storeK_ref hk
    exact ⟨undef, h', by simp [isW, wop, hp, hu, hv], hk⟩
  case makeSlice t l c =>
    obtain ⟨p, hp, hk⟩ := evK_ref (x := l) hk
    obtain ⟨u, hu, hk⟩ := evK_ref hk
    obtain ⟨v, h', hv, hk⟩ := makeK_ref hk
    exact ⟨v, h', by simp [isW, wop, hp, hu, hv], hk⟩
  case call c =>
    obtain ⟨callee, args, argTypes⟩ := c
    cases callee
    case value g =>
      cases g <;> first | exact hk.elim | skip
      rename_i k
      have hk : evsK f 1000 args.toList (fun vs => call k vs h K) := hk
      obtain ⟨vs, hvs, hk⟩ := evsK_ref _ _ _ hk
      obtain ⟨v, h', hv, hk⟩ := hc _ _ _ _ hk
      exact ⟨v, h', by simp [isW, wop, hvs, hv], hk⟩
    case invoke r m => exact hk.elim
    case builtin b =>
      by_cases hl : b = .len
      · subst hl
        have hk : lensK P f ⟨dst, .call ⟨.builtin .len, args, argTypes⟩, type, pos, after, guard⟩ args.toList argTypes.toList fun v => K v h := hk
        unfold lensK at hk
        split at hk
        · rename_i x t hx ht
          obtain ⟨p, hp, hk⟩ := evK_ref hk
          rcases lenK_ref hk with ⟨a, n, c, rfl, u, hu, hk⟩ | ⟨hne, hk⟩
          · exact ⟨u, h, by simp [isW, rop, hx, ht, hp, hu], hk⟩
          · obtain ⟨u, hu, hk⟩ := optK_ref hk
            refine ⟨u, h, ?_, hk⟩
            simp only [isW, rop, hx, ht, hp, Option.bind_some]
            cases p <;> first | exact absurd rfl (hne _ _ _) | simp [hu]
        · exact hk.elim
      · have hk2 : bltK P f h b args.toList argTypes.toList K := by cases b <;> first | exact hk | exact absurd rfl hl
        clear hk
        unfold bltK at hk2
        split at hk2
        · rename_i s x t u hx ht
          obtain ⟨p, hp, hk⟩ := evK_ref hk2
          obtain ⟨y, hy, hk⟩ := evK_ref hk
          obtain ⟨v, h', hv, hk⟩ := appendK_ref hk
          exact ⟨v, h', by simp [isW, wop, hx, ht, hp, hy, hv], hk⟩
        · rename_i s x t u hx ht
          obtain ⟨p, hp, hk⟩ := evK_ref hk2
          obtain ⟨y, hy, hk⟩ := evK_ref hk
          obtain ⟨v, h', hv, hk⟩ := copyK_ref hk
          exact ⟨v, h', by simp [isW, wop, hx, ht, hp, hy, hv], hk⟩
        · exact hk2.elim
  all_goals exact rest rfl hk

theorem wantsK_ref {ops : Array Oper} {o : Oper} {A N : Prop} (hk : wantsK ops f o A N) : (wants ops (T.get dep f) o = some true ∧ A) ∨ (wants ops (T.get dep f) o = some false ∧ N) := by
  unfold wants
  cases hg : o.guard with
  | none =>
    refine .inl ⟨rfl, ?_⟩
    unfold wantsK at hk
    rw [hg] at hk
    exact hk
  | some q =>
    obtain ⟨j, want⟩ := q
    unfold wantsK at hk
    rw [hg] at hk
    have hk : wantsG ops f (j, want) A N := hk
    obtain ⟨oj, hj, hk⟩ := optT (x := ops[j]?) hk
    obtain ⟨t, ht, hk⟩ := optT hk
    obtain ⟨v, hv0, hk2⟩ := getK_ref _ _ _ _ hk
    have hv : T.get dep f t = some v := hv0
    simp only [hj, ht, hv, Option.bind_some]
    clear hv hv0
    clear hk
    cases v <;> first | exact hk2.elim | exact .inr ⟨rfl, hk2⟩ | (rename_i b; cases b <;> cases want <;> first | exact .inl ⟨rfl, hk2⟩ | exact .inr ⟨rfl, hk2⟩)

theorem stepK_ref (hc : CallRef call call') {all : Array Oper} {o : Oper} {K : Value → Hp → Prop} (hk : stepK P call all f h o K) : ∃ v h', step P call' all (T.get dep f) h o = some (v, h') ∧ K v h' := by
  rcases wantsK_ref hk with ⟨hw, hk⟩ | ⟨hw, hk⟩
  · obtain ⟨v, h', hv, hk⟩ := opK_ref hc hk
    refine ⟨v, h', ?_, hk⟩
    unfold step
    rw [hw]
    simpa using hv
  · refine ⟨_, _, ?_, hk⟩
    unfold step
    rw [hw]
    rfl

theorem seqK_ref (hc : CallRef call call') {all : Array Oper} : ∀ (n : Nat) (ops : List Oper) (f : Fr) (h : Hp) (K : Fr → Hp → Prop), seqK P call all n ops f h K → ∃ f' h', seqOps P call' all ops f h = some (f', h') ∧ K f' h'
  | 0, _, _, _, _, hk => hk.elim
  | n + 1, [], f, h, K, hk => ⟨f, h, rfl, hk⟩
  | n + 1, o :: ops, f, h, K, hk => by
    unfold seqK at hk
    dsimp only at hk
    obtain ⟨v, h1, hv, hk⟩ := stepK_ref hc hk
    obtain ⟨f', h', hr, hk⟩ := seqK_ref hc n ops _ _ K (putK_ref hk)
    exact ⟨f', h', by simp [seqOps, hv, hr], hk⟩

theorem traceK_ref (hc : CallRef call call') {all : Array Oper} : ∀ (n : Nat) (ops : List Oper) (f : Fr) (h : Hp) (K : List (Fr × Hp × Value) → Fr → Hp → Prop), traceK P call all n ops f h K →
    ∃ tr f' h', trace P call' all ops f h = some tr ∧ seqOps P call' all ops f h = some (f', h') ∧ K tr f' h'
  | 0, _, _, _, _, hk => hk.elim
  | n + 1, [], f, h, K, hk => ⟨_, f, h, rfl, rfl, hk⟩
  | n + 1, o :: ops, f, h, K, hk => by
    unfold traceK at hk
    dsimp only at hk
    obtain ⟨v, h1, hv, hk⟩ := stepK_ref hc hk
    obtain ⟨tr, f', h', ht, hr, hk⟩ := traceK_ref hc n ops _ _ (fun l => K ((f, h, v) :: l)) (putK_ref hk)
    exact ⟨_, f', h', by simp [trace, hv, ht], by simp [seqOps, hv, hr], hk⟩

theorem cellB_veq {x y : Value} (hb : cellB x y = true) : veq x y = true := by
  unfold cellB at hb
  split at hb
  · obtain ⟨h1, h2⟩ := andK_true hb
    simp [veq, ceq, Nat.eq_of_beq_eq_true h1, Nat.eq_of_beq_eq_true h2]
  · obtain ⟨h1, hb⟩ := andK_true hb
    obtain ⟨h2, hb⟩ := andK_true hb
    obtain ⟨h3, h4⟩ := andK_true hb
    simp [veq, ceq, Nat.eq_of_beq_eq_true h1, Nat.eq_of_beq_eq_true h2, Nat.eq_of_beq_eq_true h3, Nat.eq_of_beq_eq_true h4]
  · exact hb

theorem againK_ref {ops : Array Oper} {tr : List (Fr × Hp × Value)} {p : Nat × Nat} {A : Prop} (hk : againK P ops tr p A) : again P ops tr p = true ∧ A := by
  unfold againK at hk
  unfold again
  split at hk
  · rename_i oi f x v x' h1 x'' y h2 y' e1 e2 e3 e4
    simp only [e1, e2, e3, e4]
    split at hk
    · rename_i t a ho
      rcases wantsK_ref hk with ⟨hw, hk⟩ | ⟨hw, hk⟩
      · obtain ⟨q, hq, hk⟩ := evK_ref hk
        obtain ⟨u, hu, hk⟩ := loadK_ref hk
        obtain ⟨b1, hk⟩ := boolT hk
        obtain ⟨u2, hu2, hk⟩ := loadK_ref hk
        obtain ⟨b2, hk⟩ := boolT hk
        refine ⟨?_, hk⟩
        have r1 : rop P (T.get dep f) h1 oi = some u := by simp [rop, ho, hq, hu]
        have r2 : rop P (T.get dep f) h2 oi = some u2 := by simp [rop, ho, hq, hu2]
        simp [hw, r1, r2, cellB_veq b1, cellB_veq b2]
      · exact ⟨by simp [hw], hk⟩
    · exact hk.elim
  · exact hk.elim

theorem againsK_ref {ops : Array Oper} {tr : List (Fr × Hp × Value)} {A : Prop} : ∀ (n : Nat) (ps : List (Nat × Nat)), againsK P ops tr A n ps → ps.all (again P ops tr) = true ∧ A
  | 0, _, hk => hk.elim
  | n + 1, [], hk => ⟨rfl, hk⟩
  | n + 1, p :: ps, hk => by
    unfold againsK at hk
    dsimp only at hk
    obtain ⟨h1, hk⟩ := againK_ref hk
    obtain ⟨h2, hk⟩ := againsK_ref n ps hk
    exact ⟨by simp only [List.all_cons, h1, h2]; rfl, hk⟩

theorem drawK_ref (hc : CallRef call call') {ops : Array Oper} {K : Fr → Hp → Prop} (hk : drawK P call ops f h K) : ∃ f' h', drawOps P call' ops f h = some (f', h') ∧ K f' h' := by
  obtain ⟨ps, hp, hk⟩ := optT (x := plan ops) hk
  unfold plan at hp
  split at hp
  · rename_i hd
    simp at hp
    unfold drawOps
    rw [if_pos hd, hp]
    cases ps with
    | nil => exact seqK_ref hc _ _ _ _ _ hk
    | cons p ps =>
      obtain ⟨tr, f', h', ht, hr, hk⟩ := traceK_ref hc _ _ _ _ _ hk
      obtain ⟨ha, hk⟩ := againsK_ref _ _ hk
      refine ⟨f', h', ?_, hk⟩
      simp only [ht, Option.bind_some]
      rw [if_pos ha]
      exact hr
  · cases hp

theorem resultsK_ref : ∀ (n : Nat) (rs : List ResultVar) (K : List Value → Prop), resultsK P f h n rs K → ∃ vs, resultsOf P f h rs = some vs ∧ K vs
  | 0, _, _, hk => hk.elim
  | n + 1, [], K, hk => ⟨[], rfl, hk⟩
  | n + 1, .tmp t :: rs, K, hk => by
    unfold resultsK at hk
    dsimp only at hk
    obtain ⟨v, hv, hk⟩ := getK_ref _ _ _ _ hk
    obtain ⟨vs, hvs, hk⟩ := resultsK_ref n rs _ hk
    exact ⟨v :: vs, by simp [resultsOf, show T.get dep f t = some v from hv, hvs], hk⟩
  | n + 1, .cell a t :: rs, K, hk => by
    unfold resultsK at hk
    dsimp only at hk
    obtain ⟨p, hp, hk⟩ := getK_ref _ _ _ _ hk
    obtain ⟨v, hv, hk⟩ := loadK_ref hk
    obtain ⟨vs, hvs, hk⟩ := resultsK_ref n rs _ hk
    exact ⟨v :: vs, by simp [resultsOf, show T.get dep f a = some p from hp, hv, hvs], hk⟩

theorem fnO_some {k : FuncId} {q : Func × Code} (hq : fnO P k = some q) : P.funcs[k]? = some q.1 ∧ q.1.body = some q.2 ∧ (q.1.name == "runtime.NumGoroutine") = false ∧ dsts q.1.ntmps q.2 = true := by
  unfold fnO at hq
  split at hq
  · rename_i fn hf
    split at hq
    · rename_i c hb
      split at hq
      · rename_i hok
        simp at hq
        subst hq
        unfold fnOk at hok
        simp only [Bool.and_eq_true, Bool.not_eq_true'] at hok
        exact ⟨hf, hb, hok.1, hok.2⟩
      · cases hq
    · cases hq
  · cases hq

theorem callK_ref {ov : FuncId → List Value → Option Value} {ih : Code → Ct} {ih' : Code → Fr → Hp → Option (Exit × Fr × Hp)} (hi : ∀ c f h K, ih c f h K → ∃ e f' h', ih' c f h = some (e, f', h') ∧ K e f' h') : CallRef (callK P ov ih) (callG P ov ih') := by
  intro k vs h K hk
  unfold callG
  cases ho : ov k vs with
  | some v =>
    unfold callK at hk
    rw [ho] at hk
    exact ⟨v, h, rfl, hk⟩
  | none =>
    unfold callK at hk
    rw [ho] at hk
    obtain ⟨q, hq, hk⟩ := optT (x := fnO P k) hk
    obtain ⟨h1, h2, h3, h4⟩ := fnO_some hq
    obtain ⟨hl, hk⟩ := boolT hk
    have hk := layK_ref _ _ _ _ _ hk
    obtain ⟨e, f', h', hx, hk⟩ := hi _ _ _ _ hk
    have hl' : vs.length ≤ 1000 := Nat.le_of_ble_eq_true hl
    have fin : (resultsK P f' h' 100 q.1.results.toList fun vs => ansK vs fun v => K v h') → (e = .ret ∨ e = .normal) → ∃ v h'', callF P ih' k vs h = some (v, h'') ∧ K v h'' := fun hk he => by
      obtain ⟨rs, hrs, hk⟩ := resultsK_ref _ _ _ hk
      unfold ansK at hk
      split at hk
      · rename_i v hv
        refine ⟨v, h', ?_, hk⟩
        unfold callF
        simp only [h1, h2, Option.bind_some]
        rw [if_neg (by simp [h3, h4]; omega), hx]
        rcases he with rfl | rfl <;> simp [hrs, hv]
      · exact hk.elim
    cases e <;> first | exact hk.elim | exact fin hk (.inl rfl) | exact fin hk (.inr rfl)

theorem execK_ref {ov : FuncId → List Value → Option Value} : ∀ (n : Nat) (c : Code) (f : Fr) (h : Hp) (K : Kt), execK P ov n c f h K → ∃ e f' h', exec P ov n c f h = some (e, f', h') ∧ K e f' h' := by
  intro n
  induction n with
  | zero => intro c f h K hk; exact hk.elim
  | succ n ih =>
    intro c f h K hk
    have hc : CallRef (callK P ov (execK P ov n)) (callG P ov (exec P ov n)) := callK_ref ih
    have seqs : ∀ (a b : Code), cSeq (execK P ov n) a b f h K → ∃ e f' h', ((exec P ov n a f h).bind fun r => match r.1 with | .normal => exec P ov n b r.2.1 r.2.2 | _ => some r) = some (e, f', h') ∧ K e f' h' := fun a b hk => by
      obtain ⟨e, f1, h1, hx, hk⟩ := ih _ _ _ _ hk
      rw [hx]
      cases e with
      | normal =>
        obtain ⟨e, f', h', hy, hk⟩ := ih _ _ _ _ hk
        exact ⟨e, f', h', hy, hk⟩
      | _ => exact ⟨_, f1, h1, rfl, hk⟩
    cases c with
    | skip => exact ⟨_, f, h, rfl, hk⟩
    | region id ops d =>
      cases d with
      | true =>
        have hk : cReg P (callK P ov (execK P ov n)) ops true f h K := hk
        unfold cReg at hk
        dsimp only at hk
        obtain ⟨f', h', hr, hk⟩ := drawK_ref hc hk
        exact ⟨_, f', h', by simp [exec, hr], hk⟩
      | false =>
        have hk : cReg P (callK P ov (execK P ov n)) ops false f h K := hk
        unfold cReg at hk
        dsimp only at hk
        obtain ⟨f', h', hr, hk⟩ := seqK_ref hc _ _ _ _ _ hk
        exact ⟨_, f', h', by simp [exec, hr], hk⟩
    | seq a b =>
      obtain ⟨e, f', h', hr, hk⟩ := seqs a b hk
      exact ⟨e, f', h', by simp only [exec]; exact hr, hk⟩
    | cond x a b =>
      obtain ⟨v, hv, hk⟩ := evK_ref (x := x) hk
      rcases pickK_ref hk with ⟨rfl, hk⟩ | ⟨rfl, hk⟩
      · obtain ⟨e, f', h', hr, hk⟩ := ih _ _ _ _ hk
        exact ⟨e, f', h', by simp [exec, hv, hr], hk⟩
      · obtain ⟨e, f', h', hr, hk⟩ := ih _ _ _ _ hk
        exact ⟨e, f', h', by simp [exec, hv, hr], hk⟩
    | block id b =>
      obtain ⟨e, f1, h1, hx, hk⟩ := ih b f h (blockK id K) hk
      cases e with
      | exit j =>
        rcases boolRec (c := Nat.beq j id) hk with ⟨hj, hk⟩ | ⟨hj, hk⟩
        · exact ⟨_, f1, h1, by simp [exec, hx, Nat.eq_of_beq_eq_true hj], hk⟩
        · exact ⟨_, f1, h1, by simp [exec, hx, Nat.ne_of_beq_eq_false hj], hk⟩
      | _ => exact ⟨_, f1, h1, by simp [exec, hx], hk⟩
    | loop b =>
      obtain ⟨e, f', h', hr, hk⟩ := seqs b (.loop b) hk
      exact ⟨e, f', h', by simp only [exec]; exact hr, hk⟩
    | exit id => exact ⟨_, f, h, rfl, hk⟩
    | ret => exact ⟨_, f, h, rfl, hk⟩
    | _ => exact hk.elim

/-- a call, as the kernel runs it -/
theorem call_ref {ov : FuncId → List Value → Option Value} {n : Nat} {k : FuncId} {vs : List Value} {K : Value → Hp → Prop} (hk : callK P ov (execK P ov n) k vs h K) : ∃ v h', callG P ov (exec P ov n) k vs h = some (v, h') ∧ K v h' :=
  callK_ref (execK_ref n) k vs h K hk

end
end Go.Ai
