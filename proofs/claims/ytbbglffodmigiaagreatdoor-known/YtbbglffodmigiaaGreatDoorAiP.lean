/-
  The interpreter tells what the model does.
-/
import Derived.Test.YtbbglffodmigiaaGreatDoorAiO
namespace Go.Ai
open Go.RowKit

section
variable {P : Program} {W0 : World} {ov : FuncId → List Value → Option Value}

/-- the end of a piece of code -/
def Out (W0 : World) (n : Nat) (al : Al) (sz : Nat) (ex : Exit) (f' : Fr) (h' : Hp) (e : Exit) (a' : Act) (w' : World) : Prop := e = ex ∧ St W0 n al sz f' h' a' w'

theorem St.later {n0 n : Nat} {al0 al : Al} {sz : Nat} {f' : Fr} {h' : Hp} {a : Act} {w : World} (hN : Next n0 al0 al) (hn : n0 ≤ n) (h : St W0 n al sz f' h' a w) : St W0 n0 al0 sz f' h' a w := by
  obtain ⟨h1, h2, al', h3, h4, h5, h6⟩ := h
  exact ⟨h1, h2, al', hN.trans hn h3, Nat.le_trans hn h4, h5, h6⟩

theorem Out.later {n0 n : Nat} {al0 al : Al} {sz : Nat} {ex e : Exit} {f' : Fr} {h' : Hp} {a : Act} {w : World} (hN : Next n0 al0 al) (hn : n0 ≤ n) (h : Out W0 n al sz ex f' h' e a w) : Out W0 n0 al0 sz ex f' h' e a w := by
  exact ⟨h.1, h.2.later hN hn⟩

theorem dsts_ops {nt sz : Nat} {id : Nat} {ops : Array Oper} {d : Bool} (hd : dsts nt (.region id ops d) = true) (hsz : nt ≤ sz) : ∀ o ∈ ops.toList, dstOk sz o := fun o ho k hk => by
  simp only [dsts] at hd
  have := List.all_eq_true.1 hd o ho
  rw [hk] at this
  exact Nat.lt_of_lt_of_le (of_decide_eq_true this) hsz

/-- what the interpreter says of code, with fuel n -/
def Says (P : Program) (ov : FuncId → List Value → Option Value) (W0 : World) (n : Nat) : Prop :=
  ∀ (c : Code) (f : Fr) (h : Hp) (e : Exit) (f' : Fr) (h' : Hp), exec P ov n c f h = some (e, f', h') → ∀ (nt sz : Nat) (al : Al) (a : Act) (w : World), dsts nt c = true → nt ≤ sz → a.tmps.size = sz → a.defers = [] → HRel W0 al h w →
    FRel h.nx al (T.get dep f) a.tmps → c.wp P (Out W0 h.nx al sz e f' h') a w

theorem code_sound (hm : P.follows .mixedOrders = true) (n : Nat) (hS : ∀ k, k < n → Says P ov W0 k) (hC : ∀ k, k < n → CallOk P W0 (callG P ov (exec P ov k))) : Says P ov W0 n := by
  intro c f h e f' h' hv nt sz al a w hd hsz h1 h2 H hF
  cases n with
  | zero => simp [exec] at hv
  | succ n =>
    have IH := hS n (Nat.lt_succ_self _)
    cases c with
    | skip =>
      simp [exec] at hv
      obtain ⟨rfl, rfl, rfl⟩ := hv
      exact wp_skip ⟨rfl, ⟨h1, h2, al, Next.refl _ _, Nat.le_refl _, H, hF⟩⟩
    | region id ops d =>
      simp only [exec, Option.bind_eq_some_iff] at hv
      obtain ⟨⟨f1, h1'⟩, hr, hv⟩ := hv
      simp at hv
      obtain ⟨rfl, rfl, rfl⟩ := hv
      cases d with
      | true => exact draw_sound hm (hC n (Nat.lt_succ_self _)) (dsts_ops hd hsz) (fun a' w' hst => ⟨rfl, hst⟩) (by simpa using hr) h1 h2 H hF
      | false => exact seq_region (hC n (Nat.lt_succ_self _)) (dsts_ops hd hsz) (fun a' w' hst => ⟨rfl, hst⟩) (by simpa using hr) h1 h2 H hF
    | seq x y =>
      simp only [exec, Option.bind_eq_some_iff] at hv
      obtain ⟨⟨e1, f1, h1'⟩, hx, hv⟩ := hv
      simp only [dsts, Bool.and_eq_true] at hd
      refine wp_seq (wp_mono (IH x f h e1 f1 h1' hx nt sz al a w hd.1 hsz h1 h2 H hF) fun e2 a2 w2 hq => ?_)
      cases e2 with
      | normal =>
        obtain ⟨rfl, k1, k2, al', k3, k4, k5, k6⟩ := hq
        simp only at hv
        exact wp_mono (IH y f1 h1' e f' h' hv nt sz al' a2 w2 hd.2 hsz k1 k2 k5 k6) fun e3 a3 w3 hq3 => hq3.later k3 k4
      | _ =>
        obtain ⟨rfl, k⟩ := hq
        simp at hv
        obtain ⟨rfl, rfl, rfl⟩ := hv
        exact ⟨rfl, k⟩
    | cond x y z =>
      simp only [exec] at hv
      simp only [dsts, Bool.and_eq_true] at hd
      split at hv
      · rename_i hx
        exact wp_cond_true (ev_rel hF hx) (IH y f h e f' h' hv nt sz al a w hd.1 hsz h1 h2 H hF)
      · rename_i hx
        exact wp_cond_false (ev_rel hF hx) (IH z f h e f' h' hv nt sz al a w hd.2 hsz h1 h2 H hF)
      · cases hv
    | block id x =>
      simp only [exec, Option.bind_eq_some_iff] at hv
      obtain ⟨⟨e1, f1, h1'⟩, hx, hv⟩ := hv
      simp only [dsts] at hd
      refine wp_block (wp_mono (IH x f h e1 f1 h1' hx nt sz al a w hd hsz h1 h2 H hF) fun e2 a2 w2 hq => ?_)
      cases e2 with
      | exit j =>
        obtain ⟨rfl, k⟩ := hq
        simp only at hv
        split at hv
        · rename_i hj
          simp at hv
          obtain ⟨rfl, rfl, rfl⟩ := hv
          simp only [Exit.inBlock, hj, if_true]
          exact ⟨rfl, k⟩
        · rename_i hj
          simp at hv
          obtain ⟨rfl, rfl, rfl⟩ := hv
          simp only [Exit.inBlock, hj, if_false]
          exact ⟨rfl, k⟩
      | _ =>
        obtain ⟨rfl, k⟩ := hq
        simp at hv
        obtain ⟨rfl, rfl, rfl⟩ := hv
        exact ⟨rfl, k⟩
    | loop x =>
      have hd' : dsts nt x = true := by simpa only [dsts] using hd
      refine wp_loop_fuel (fun m a w => m ≤ n + 1 ∧ ∃ (f : Fr) (h1 : Hp) (al1 : Al), exec P ov m (.loop x) f h1 = some (e, f', h') ∧ a.tmps.size = sz ∧ a.defers = [] ∧ Next h.nx al al1 ∧ h.nx ≤ h1.nx ∧ HRel W0 al1 h1 w ∧ FRel h1.nx al1 (T.get dep f) a.tmps)
        (fun m a w hI => ?_) (n := n + 1) ⟨Nat.le_refl _, f, h, al, hv, h1, h2, Next.refl _ _, Nat.le_refl _, H, hF⟩
      obtain ⟨hmn, f0, h0, al0, hx0, j1, j2, j3, j4, j5, j6⟩ := hI
      cases m with
      | zero => simp [exec] at hx0
      | succ m =>
        simp only [exec, Option.bind_eq_some_iff] at hx0
        obtain ⟨⟨e1, f1, h1'⟩, hx, hx0⟩ := hx0
        refine wp_mono (hS m (by omega) x f0 h0 e1 f1 h1' hx nt sz al0 a w hd' hsz j1 j2 j5 j6) fun e2 a2 w2 hq => ?_
        cases e2 with
        | normal =>
          obtain ⟨rfl, k1, k2, al', k3, k4, k5, k6⟩ := hq
          simp only at hx0
          exact ⟨m, Nat.lt_succ_self _, by omega, f1, h1', al', hx0, k1, k2, j3.trans j4 k3, Nat.le_trans j4 k4, k5, k6⟩
        | _ =>
          obtain ⟨rfl, k⟩ := hq
          simp at hx0
          obtain ⟨rfl, rfl, rfl⟩ := hx0
          exact ⟨rfl, k.later j3 j4⟩
    | exit id =>
      simp [exec] at hv
      obtain ⟨rfl, rfl, rfl⟩ := hv
      exact wp_exit ⟨rfl, ⟨h1, h2, al, Next.refl _ _, Nat.le_refl _, H, hF⟩⟩
    | ret =>
      simp [exec] at hv
      obtain ⟨rfl, rfl, rfl⟩ := hv
      exact wp_ret ⟨rfl, ⟨h1, h2, al, Next.refl _ _, Nat.le_refl _, H, hF⟩⟩
    | _ => simp [exec] at hv

theorem results_run {al : Al} {h : Hp} {w : World} (H : HRel W0 al h w) {f : Fr} {tmps : Array Value} (hF : FRel h.nx al (T.get dep f) tmps) : ∀ {rs : List ResultVar} {vs : List Value}, resultsOf P f h rs = some vs →
    ∃ us, (rs.mapM fun (r : ResultVar) => match r with | .tmp t => (pure (tmps.getD t undef) : Sem Value) | .cell a t => do loadVar t (← asAddr (tmps.getD a undef))).run P w = .ok us w ∧ PW (VRel h.nx al) vs us
  | [], vs, hv => by
    simp [resultsOf] at hv
    subst hv
    exact ⟨[], rfl, trivial⟩
  | .tmp t :: rs, vs, hv => by
    simp only [resultsOf, Option.bind_eq_some_iff] at hv
    obtain ⟨v, h1, vs', h2, h3⟩ := hv
    simp at h3
    subst h3
    obtain ⟨us, hr, hp⟩ := results_run H hF h2
    refine ⟨tmps.getD t undef :: us, ?_, (hF t v h1).2, hp⟩
    simp only [List.mapM_cons, Sem.run_bind, Sem.run_pure, Result.andThen_ok, hr]
  | .cell a t :: rs, vs, hv => by
    simp only [resultsOf, Option.bind_eq_some_iff] at hv
    obtain ⟨p, h0, v, h1, vs', h2, h3⟩ := hv
    simp at h3
    subst h3
    obtain ⟨us, hr, hp⟩ := results_run H hF h2
    obtain ⟨u, ad, hc, hl, hu⟩ := load_sound H (hF a p h0).2 h1
    refine ⟨u :: us, ?_, hu, hp⟩
    have hA : (asAddr (tmps.getD a undef)).run P w = .ok ad w := by rw [hc]; rfl
    simp only [List.mapM_cons, Sem.run_bind, hA, Sem.run_pure, Result.andThen_ok, hl, hr]

theorem part_of {n : Nat} {al : Al} {v c : Value} (hn : noTuple v = true) (h : VRel n al v c) : ARel n al v c := by
  cases v <;> first | exact h | simp [noTuple] at hn

theorem parts_of {n : Nat} {al : Al} : ∀ {vs us : List Value}, vs.all noTuple = true → PW (VRel n al) vs us → PW (ARel n al) vs us
  | [], [], _, _ => trivial
  | v :: vs, u :: us, hn, ⟨a, b⟩ => by simp at hn; exact ⟨part_of hn.1 a, parts_of (by simpa using hn.2) b⟩
  | [], _ :: _, _, h => h.elim
  | _ :: _, [], _, h => h.elim

theorem results_sound {al : Al} {h : Hp} {w : World} (H : HRel W0 al h w) {f : Fr} {tmps : Array Value} (hF : FRel h.nx al (T.get dep f) tmps) {fn : Func} {vs : List Value} {v : Value} (hv : resultsOf P f h fn.results.toList = some vs) (ha : answer vs = some v) :
    ∃ c, (results fn tmps).run P w = .ok c w ∧ VRel h.nx al v c := by
  obtain ⟨us, hr, hp⟩ := results_run H hF hv
  have hrun : (results fn tmps).run P w = .ok (if h : us.toArray.size = 1 then us.toArray[0] else .tuple us.toArray) w := by
    unfold results
    rw [Array.mapM_eq_mapM_toList]
    simp only [Sem.run_bind, Sem.run_map]
    erw [hr]
    rfl
  refine ⟨_, hrun, ?_⟩
  unfold answer at ha
  split at ha
  · simp at ha
    subst ha
    match us, hp with
    | [u], ⟨h1, _⟩ => exact h1
  · rename_i hne
    split at ha
    · rename_i hall
      simp at ha
      subst ha
      have hl := hp.length
      have : ¬ us.toArray.size = 1 := fun he => by
        simp at he
        match vs, hne with
        | [x], hne => exact hne x rfl
        | [], _ => simp at hl; omega
        | _ :: _ :: _, _ => simp at hl; omega
      rw [dif_neg this]
      exact ⟨_, rfl, by simpa using parts_of hall hp⟩
    · cases ha

/-- the answers that are known are right -/
def OvOk (P : Program) (W0 : World) (ov : FuncId → List Value → Option Value) : Prop :=
  ∀ k vs v, ov k vs = some v → (∃ fn, P.funcs[k]? = some fn ∧ fn.body.isNone = false ∧ (fn.name == "runtime.NumGoroutine") = false) ∧
    ∀ h al w us, HRel W0 al h w → PW (VRel h.nx al) vs us.toList → Calls P k us w (Ends W0 h.nx al v h)

theorem call_sound (n : Nat) (hov : OvOk P W0 ov) (hS : Says P ov W0 n) : CallOk P W0 (callG P ov (exec P ov n)) := by
  intro k vs h v h' hv
  unfold callG at hv
  split at hv
  · rename_i u hu
    simp at hv
    obtain ⟨rfl, rfl⟩ := hv
    obtain ⟨h1, h2⟩ := hov k vs u hu
    exact ⟨h1, fun al w us H hp => h2 h al w us H hp⟩
  unfold callF at hv
  simp only [Option.bind_eq_some_iff] at hv
  obtain ⟨fn, hf, c, hb, hv⟩ := hv
  split at hv
  · cases hv
  · rename_i hcnd
    simp only [Bool.or_eq_true, not_or, Bool.not_eq_true, Bool.not_eq_false', decide_eq_false_iff_not, Nat.not_lt] at hcnd
    obtain ⟨⟨hname, hd⟩, hlen⟩ := hcnd
    refine ⟨⟨fn, hf, by simp [hb], hname⟩, fun al w us H hp => ?_⟩
    simp only [Option.bind_eq_some_iff] at hv
    obtain ⟨⟨e, f1, h1⟩, hx, hv⟩ := hv
    have hul := hp.length
    refine calls_of_wp hf hb ?_
    have hF : FRel h.nx al (T.get dep (lay vs T.emp 0)) (us ++ Array.replicate (fn.ntmps - us.size) undef) := fun t u hu => by
      rw [get_lay _ _ _ _ (by unfold top; omega)] at hu
      split at hu
      · rename_i hlt
        obtain ⟨c, hc, hr⟩ := hp.get hu
        have hcl : t < us.size := by simp at hul; omega
        refine ⟨by simp; omega, ?_⟩
        have : (us ++ Array.replicate (fn.ntmps - us.size) undef).getD t undef = c := by
          simp only [Array.getD_eq_getD_getElem?]
          rw [Array.getElem?_append_left hcl, ← Array.getElem?_toList]
          simp only [Nat.sub_zero] at hc
          rw [hc]
          rfl
        rw [this]
        exact hr
      · rw [T.get_emp] at hu; cases hu
    refine wp_mono (hS c _ h e f1 h1 hx fn.ntmps _ al _ w hd (by simp; omega) rfl rfl H hF) fun e2 a2 w2 hq => ?_
    have done : (resultsOf P f1 h1 fn.results.toList).bind (fun vs => (answer vs).bind fun v => some (v, h1)) = some (v, h') → St W0 h.nx al (us ++ Array.replicate (fn.ntmps - us.size) undef).size f1 h1 a2 w2 →
        a2.defers = [] ∧ ∃ v_1, (results fn a2.tmps).run P w2 = .ok v_1 w2 ∧ Ends W0 h.nx al v h' (.returned v_1) w2 := fun hv ⟨_, k2, al', k3, k4, k5, k6⟩ => by
      simp only [Option.bind_eq_some_iff] at hv
      obtain ⟨rs, hrs, r, hr, hv⟩ := hv
      simp at hv
      obtain ⟨rfl, rfl⟩ := hv
      obtain ⟨c, hc, hcr⟩ := results_sound k5 k6 hrs hr
      exact ⟨k2, c, hc, al', k3, k4, k5, hcr⟩
    cases e2 with
    | normal =>
      obtain ⟨rfl, k⟩ := hq
      exact done hv k
    | ret =>
      obtain ⟨rfl, k⟩ := hq
      exact done hv k
    | _ =>
      obtain ⟨rfl, k⟩ := hq
      simp at hv

theorem says_all (hm : P.follows .mixedOrders = true) (hov : OvOk P W0 ov) : ∀ n, Says P ov W0 n := by
  intro n
  induction n using Nat.strongRecOn with
  | _ n ih => exact code_sound hm n ih fun k hk => call_sound k hov (ih k hk)

/-- THE INTERPRETER TELLS WHAT THE MODEL DOES -/
theorem interp (hm : P.follows .mixedOrders = true) (hov : ∀ w, OvOk P w ov) {n : Nat} {k : FuncId} {vs : List Value} {nx : Nat} {v : Value} {h' : Hp} (hv : callG P ov (exec P ov n) k vs ⟨T.emp, nx⟩ = some (v, h')) (hp : vs.all plain = true) (hnx : 0 < nx) (w : World) :
    Calls P k vs.toArray w fun
      | .returned c, w' => (∃ al, VRel h'.nx al v c) ∧ Below w.heap.size w w'
      | .panicked _, _ => False
      | .outgrown, _ => False := by
  have H : HRel w (fun _ => none) ⟨T.emp, nx⟩ w := ⟨Below.refl _ _, (fun _ _ hg => by cases hg), (fun id b hb => by simp [blk, T.get_emp] at hb), (fun _ _ _ _ hg => by cases hg), hnx, rfl⟩
  have hpw : ∀ vs : List Value, vs.all plain = true → PW (VRel nx (fun _ => none)) vs vs := fun vs => by
    induction vs with
    | nil => intro _; trivial
    | cons x xs ih => intro h; simp at h; exact ⟨.plain h.1, ih (by simpa using h.2)⟩
  refine ((call_sound n (hov w) (says_all hm (hov w) n) k vs _ v h' hv).2 _ w vs.toArray H (hpw vs hp)).mono fun e w' he => ?_
  cases e with
  | returned c =>
    obtain ⟨al', _, _, HH, hr⟩ := he
    exact ⟨⟨al', hr⟩, HH.bel⟩
  | panicked _ => exact he.elim
  | outgrown => exact he.elim

end
end Go.Ai
