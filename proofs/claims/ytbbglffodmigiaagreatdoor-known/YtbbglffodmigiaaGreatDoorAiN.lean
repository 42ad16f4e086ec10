/-
  A region that draws its order.
-/
import Derived.Test.YtbbglffodmigiaaGreatDoorAiM
namespace Go.Ai
open Go.RowKit

section
variable {P : Program} {W0 : World} {call : FuncId → List Value → Hp → Option (Value × Hp)} {ops : Array Oper} {F : Nat → Fr} {H : Nat → Hp} {V : Nat → Value}

theorem getD_set (l : Array Bool) (i j : Nat) (hi : i < l.size) : (l.setIfInBounds i true).getD j false = if j = i then true else l.getD j false := by
  by_cases hj : j = i
  · subst hj
    simp [hi]
  · rw [if_neg hj]
    simp [Array.getElem?_setIfInBounds_ne (Ne.symm hj)]

/-- how many have not come up -/
def open_ (n : Nat) (l : Array Bool) : Nat := (List.range n).countP fun i => !l.getD i false

theorem open_set_out {l : Array Bool} {i : Nat} (hi : i < l.size) : ∀ n, n ≤ i → open_ n (l.setIfInBounds i true) = open_ n l
  | 0, _ => rfl
  | n + 1, h => by
    have ih := open_set_out hi n (by omega)
    unfold open_ at *
    rw [List.range_succ, List.countP_append, List.countP_append, ih]
    have he : (l.setIfInBounds i true).getD n false = l.getD n false := by rw [getD_set _ _ _ hi, if_neg (by omega)]
    simp only [List.countP_singleton, he]

theorem open_set {l : Array Bool} {i : Nat} (hi : i < l.size) (hf : l.getD i false = false) : ∀ n, i < n → open_ n (l.setIfInBounds i true) + 1 = open_ n l
  | 0, h => by omega
  | n + 1, h => by
    unfold open_
    rw [List.range_succ, List.countP_append, List.countP_append]
    simp only [List.countP_singleton]
    rw [getD_set _ _ _ hi]
    by_cases he : n = i
    · subst he
      have := open_set_out hi n (Nat.le_refl _)
      unfold open_ at this
      rw [this]
      simp [hf]
    · have ih := open_set hi hf n (by omega)
      unfold open_ at ih
      rw [if_neg he, ← ih]
      omega

theorem open_zero {l : Array Bool} : ∀ n, open_ n l = 0 → ∀ i, i < n → l.getD i false = true
  | 0, _, i, hi => by omega
  | n + 1, h, i, hi => by
    unfold open_ at h
    rw [List.range_succ, List.countP_append] at h
    by_cases he : i = n
    · subst he
      have h2 : (List.countP (fun i => !l.getD i false) [i]) = 0 := by omega
      cases hb : l.getD i false with
      | true => rfl
      | false => simp only [List.countP_singleton, hb] at h2; simp at h2
    · exact open_zero n (by unfold open_; omega) i (by omega)

structure Inv (W0 : World) (ops : Array Oper) (F : Nat → Fr) (H : Nat → Hp) (V : Nat → Value) (n0 : Nat) (al0 : Al) (sz : Nat) (listed : Array Bool) (a : Act) (w : World) : Prop where
  size : listed.size = ops.size
  closed : ∀ j o, ops[j]? = some o → listed.getD j false = true → ∀ e ∈ o.after, Region.binds .any e = true → listed.getD e.on false = true
  tm : a.tmps.size = sz
  df : a.defers = []
  ex : ∃ p al, p ≤ ops.size ∧ (∀ j o, ops[j]? = some o → isW o.op = true → (listed.getD j false = true ↔ j < p)) ∧ Next n0 al0 al ∧ n0 ≤ (H p).nx ∧ HRel W0 al (H p) w ∧
    ∀ t v, Val ops F V listed t v → t < a.tmps.size ∧ VRel (H p).nx al v (a.tmps.getD t undef)

/-- what an operation that may come up looks at is what it looks at in the text's order -/
theorem Run.looks (R : Run P call ops F H V) {listed : Array Bool} (hc : ∀ j o, ops[j]? = some o → listed.getD j false = true → ∀ e ∈ o.after, Region.binds .any e = true → listed.getD e.on false = true) {i : Nat} {o : Oper} (ho : ops[i]? = some o)
    (hni : listed.getD i false = false) (hr : ∀ e ∈ o.after, Region.binds .any e = true → listed.getD e.on false = true) {t : Nat} (ht : t ∈ o.looksAt ops) {v : Value} (hv : T.get dep (F i) t = some v) : Val ops F V listed t v := by
  have hi : i < ops.size := (Array.getElem?_eq_some_iff.1 ho).1
  -- a writer of t ahead of i has come up; one behind has not
  have ahead : ∀ k o', ops[k]? = some o' → k < i → o'.dst = some t → listed.getD k false = true := fun k o' hk hlt hd => by
    rcases R.two i o ho k o' hlt hk with hb | ⟨hap, _⟩
    · exact bits_ready hc ho hr hb
    · exact absurd ht ((Oper.apart_spec hap).1 t hd)
  have behind : ∀ k o', ops[k]? = some o' → i < k → o'.dst = some t → listed.getD k false = false := fun k o' hk hlt hd => by
    cases hb : listed.getD k false with
    | false => rfl
    | true =>
      rcases R.two k o' hk i o hlt ho with hb' | ⟨hap, _⟩
      · have := bits_listed hc k i (Array.getElem?_eq_some_iff.1 hk).1 hb hb'
        rw [hni] at this
        cases this
      · exact absurd ht ((Oper.apart_spec hap).2.2 t hd)
  rcases R.frame i (Nat.le_of_lt hi) hv with ⟨j, oj, h1, h2, h3, h4, h5⟩ | ⟨h1, h2⟩
  · refine .inl ⟨j, oj, h2, ahead j oj h2 h1 h3, h3, h4, fun k o' hk hl hd => ?_⟩
    by_cases hki : k < i
    · exact h5 k o' hk hki hd
    · by_cases hke : k = i
      · subst hke; rw [hni] at hl; cases hl
      · have := behind k o' hk (by omega) hd
        rw [this] at hl
        cases hl
  · refine .inr ⟨fun k o' hk hl hd => ?_, h2⟩
    by_cases hki : k < i
    · exact h1 k o' hk hki hd
    · by_cases hke : k = i
      · subst hke; rw [hni] at hl; cases hl
      · have := behind k o' hk (by omega) hd
        rw [this] at hl
        cases hl

theorem Val.put {listed : Array Bool} (R : Run P call ops F H V) (hc : ∀ j o, ops[j]? = some o → listed.getD j false = true → ∀ e ∈ o.after, Region.binds .any e = true → listed.getD e.on false = true) {i : Nat} {o : Oper} (ho : ops[i]? = some o)
    (hsz : listed.size = ops.size) (hni : listed.getD i false = false) {t : Nat} {v : Value} (hv : Val ops F V (listed.setIfInBounds i true) t v) :
    (o.dst = some t ∧ v = V i) ∨ (o.dst ≠ some t ∧ Val ops F V listed t v) := by
  have hi : i < ops.size := (Array.getElem?_eq_some_iff.1 ho).1
  have hil : i < listed.size := by omega
  by_cases hd : o.dst = some t
  · left
    refine ⟨hd, ?_⟩
    rcases hv with ⟨j, oj, h1, h2, h3, h4, h5⟩ | ⟨h1, _⟩
    · have hij : i ≤ j := h5 i o ho (by rw [getD_set _ _ _ hil, if_pos rfl]) hd
      by_cases he : j = i
      · rw [h4, he]
      · exfalso
        rw [getD_set _ _ _ hil, if_neg he] at h2
        rcases R.two j oj h1 i o (by omega) ho with hb | ⟨hap, _⟩
        · have := bits_listed hc j i (Array.getElem?_eq_some_iff.1 h1).1 h2 hb
          rw [hni] at this
          cases this
        · exact (Oper.apart_spec hap).2.1 t hd h3
    · exact absurd hd (h1 i o ho (by rw [getD_set _ _ _ hil, if_pos rfl]))
  · right
    refine ⟨hd, ?_⟩
    rcases hv with ⟨j, oj, h1, h2, h3, h4, h5⟩ | ⟨h1, h2⟩
    · have hji : j ≠ i := fun he => by subst he; rw [ho] at h1; cases h1; exact hd h3
      rw [getD_set _ _ _ hil, if_neg hji] at h2
      refine .inl ⟨j, oj, h1, h2, h3, h4, fun k o' hk hl hdk => h5 k o' hk ?_ hdk⟩
      rw [getD_set _ _ _ hil]
      split
      · rfl
      · exact hl
    · refine .inr ⟨fun k o' hk hl => h1 k o' hk ?_, h2⟩
      rw [getD_set _ _ _ hil]
      split
      · rfl
      · exact hl

/-- the operation, at the memory that stands: it yields what it yields in the text's order -/
theorem Run.at_ (R : Run P call ops F H V) {listed : Array Bool} (hc : ∀ j o, ops[j]? = some o → listed.getD j false = true → ∀ e ∈ o.after, Region.binds .any e = true → listed.getD e.on false = true) {i : Nat} {o : Oper} (ho : ops[i]? = some o)
    (hni : listed.getD i false = false) (hr : ∀ e ∈ o.after, Region.binds .any e = true → listed.getD e.on false = true) {p : Nat} (hsz : listed.size = ops.size) (hp : p ≤ ops.size) (hW : ∀ j o, ops[j]? = some o → isW o.op = true → (listed.getD j false = true ↔ j < p)) :
    ∃ h', step P call ops (T.get dep (F i)) (H p) o = some (V i, h') ∧ ((isW o.op = true ∧ h' = H (i + 1) ∧ ∀ j o', ops[j]? = some o' → isW o'.op = true → ((listed.setIfInBounds i true).getD j false = true ↔ j < i + 1)) ∨ (isW o.op = false ∧ h' = H p)) := by
  have hi : i < ops.size := (Array.getElem?_eq_some_iff.1 ho).1
  obtain ⟨hst, _⟩ := R.st i o ho
  cases hw : isW o.op with
  | true =>
    have hpi : p ≤ i := by
      rcases Nat.lt_or_ge i p with hlt | hge
      · have := (hW i o ho hw).2 hlt
        rw [hni] at this
        cases this
      · exact hge
    have early : ∀ j o', ops[j]? = some o' → isW o'.op = true → j < i → listed.getD j false = true := fun j o' hj hw' hlt => by
      rcases R.two i o ho j o' hlt hj with hb | ⟨_, hww⟩
      · exact bits_ready hc ho hr hb
      · exact absurd ⟨hw', hw⟩ hww
    have hsame : H i = H p := R.same' hpi (Nat.le_of_lt hi) fun j o' h1 h2 hj => by
      cases hwj : isW o'.op with
      | false => rfl
      | true =>
        have := (hW j o' hj hwj).1 (early j o' hj hwj h2)
        omega
    refine ⟨H (i + 1), hsame ▸ hst, .inl ⟨rfl, rfl, fun j o' hj hwj => ?_⟩⟩
    have hil : i < listed.size := by omega
    rw [getD_set _ _ _ hil]
    by_cases hji : j = i
    · simp [hji]
    · rw [if_neg hji]
      constructor
      · intro hl
        have := (hW j o' hj hwj).1 hl
        omega
      · intro hlt
        exact early j o' hj hwj (by omega)
  | false =>
    refine ⟨H p, ?_, .inr ⟨rfl, rfl⟩⟩
    have hH : H (i + 1) = H i := step_same hw hst
    unfold step at hst ⊢
    simp only [Option.bind_eq_some_iff] at hst ⊢
    obtain ⟨b, hb, hst⟩ := hst
    refine ⟨b, hb, ?_⟩
    cases b with
    | false =>
      simp at hst ⊢
      exact hst.1
    | true =>
      simp only [if_true, hw, Bool.false_eq_true, if_false, Option.bind_eq_some_iff] at hst ⊢
      obtain ⟨u, hu, hst⟩ := hst
      simp at hst
      obtain ⟨rfl, _⟩ := hst
      refine ⟨V i, ?_, rfl⟩
      cases hl : isLoad o.op with
      | false => rw [rop_heap (h' := H i) hl]; exact hu
      | true =>
        rcases Nat.lt_or_ge i p with hlt | hge
        · -- the memory is a later one
          rcases last_w (ops := ops) (p - i) i with hnone | ⟨j, oj, h1, h2, h3, h4, h5⟩
          · have : H p = H i := R.same' (Nat.le_of_lt hlt) hp fun j o' k1 k2 hj => hnone j o' k1 (by omega) hj
            rw [this]; exact hu
          · have hji : j ≠ i := fun he => by subst he; rw [ho] at h3; cases h3; rw [hw] at h4; cases h4
            have hpj : H p = H (j + 1) := R.same' (by omega) hp fun j' o' k1 k2 hj => h5 j' o' (by omega) (by omega) hj
            have hjl : listed.getD j false = true := (hW j oj h3 h4).2 (by omega)
            have hloose : loose (befores ops.toList []) i j = true := by
              unfold loose
              rw [Bool.and_eq_true, Bool.not_eq_true', Bool.not_eq_true']
              constructor
              · cases hb' : ((befores ops.toList []).getD j 0).testBit i with
                | false => rfl
                | true =>
                  have := bits_listed hc j i (Array.getElem?_eq_some_iff.1 h3).1 hjl hb'
                  rw [hni] at this
                  cases this
              · cases hb' : ((befores ops.toList []).getD i 0).testBit j with
                | false => rfl
                | true => have := R.bits_lt i j hi hb'; omega
            rw [hpj]
            exact (R.again i j o oj ho h3 hl h4 hloose hb).2
        · rcases first_w (ops := ops) (i - p) p with hnone | ⟨j, oj, h1, h2, h3, h4, h5⟩
          · have : H i = H p := R.same' hge (Nat.le_of_lt hi) fun j o' k1 k2 hj => hnone j o' k1 (by omega) hj
            rw [← this]; exact hu
          · have hpj : H j = H p := R.same' h1 (by omega) fun j' o' k1 k2 hj => h5 j' o' k1 k2 hj
            have hjl : listed.getD j false = false := by
              cases hb' : listed.getD j false with
              | false => rfl
              | true => have := (hW j oj h3 h4).1 hb'; omega
            have hloose : loose (befores ops.toList []) i j = true := by
              unfold loose
              rw [Bool.and_eq_true, Bool.not_eq_true', Bool.not_eq_true']
              constructor
              · cases hb' : ((befores ops.toList []).getD j 0).testBit i with
                | false => rfl
                | true => have := R.bits_lt j i (Array.getElem?_eq_some_iff.1 h3).1 hb'; omega
              · cases hb' : ((befores ops.toList []).getD i 0).testBit j with
                | false => rfl
                | true =>
                  have := bits_ready hc ho hr hb'
                  rw [hjl] at this
                  cases this
            rw [← hpj]
            exact (R.again i j o oj ho h3 hl h4 hloose hb).1

theorem getD_false {l : Array Bool} {i : Nat} (h : l.getD i true = false) : l.getD i false = false ∧ i < l.size := by
  by_cases hi : i < l.size
  · simp [Array.getD, hi] at h ⊢
    exact h
  · simp [Array.getD, hi] at h

theorem FRel.of_vals {n : Nat} {al : Al} {listed : Array Bool} {tmps : Array Value} {o : Oper} {i : Nat} (hvals : ∀ t v, Val ops F V listed t v → t < tmps.size ∧ VRel n al v (tmps.getD t undef))
    (hl : ∀ t ∈ o.looksAt ops, ∀ v, T.get dep (F i) t = some v → Val ops F V listed t v) : FRel n al (fun t => if t ∈ o.looksAt ops then T.get dep (F i) t else none) tmps := fun t v hv => by
  simp only at hv
  split at hv
  · rename_i ht
    exact hvals t v (hl t ht v hv)
  · cases hv

theorem draw_any (hcall : CallOk P W0 call) (R : Run P call ops F H V) {Q : Exit → Act → World → Prop} {sz n0 : Nat} {al0 : Al} (hd : ∀ o ∈ ops.toList, dstOk sz o)
    (hQ : ∀ a' w', St W0 n0 al0 sz (F ops.size) (H ops.size) a' w' → Q .normal a' w') : ∀ (fuel : Nat) (listed : Array Bool) (a : Act) (w : World), open_ ops.size listed ≤ fuel → Inv W0 ops F H V n0 al0 sz listed a w →
      wpAny P .any ops Q fuel listed a w := by
  -- all have come up
  have fin : ∀ (listed : Array Bool) (a : Act) (w : World), (∀ i, i < ops.size → listed.getD i false = true) → Inv W0 ops F H V n0 al0 sz listed a w → Q .normal a w := fun listed a w hall I => by
    obtain ⟨p, al, hp, hW, hN, hn, HR, hvals⟩ := I.ex
    have hsame : H ops.size = H p := R.same' hp (Nat.le_refl _) fun j o h1 h2 hj => by
      cases hw : isW o.op with
      | false => rfl
      | true => have := (hW j o hj hw).1 (hall j h2); omega
    refine hQ a w ⟨I.tm, I.df, al, hN, hsame ▸ hn, hsame ▸ HR, fun t v hv => ?_⟩
    rw [hsame]
    refine hvals t v ?_
    rcases R.frame ops.size (Nat.le_refl _) hv with ⟨j, oj, h1, h2, h3, h4, h5⟩ | ⟨h1, h2⟩
    · exact .inl ⟨j, oj, h2, hall j h1, h3, h4, fun k o' hk _ hdk => h5 k o' hk (Array.getElem?_eq_some_iff.1 hk).1 hdk⟩
    · exact .inr ⟨fun k o' hk _ => h1 k o' hk (Array.getElem?_eq_some_iff.1 hk).1, h2⟩
  -- where none may come up, all have come up
  have none_ : ∀ (listed : Array Bool) (a : Act) (w : World), Region.ready .any ops listed = [] → Inv W0 ops F H V n0 al0 sz listed a w → ∀ i, i < ops.size → listed.getD i false = true := fun listed a w hr I => by
    intro i
    induction i using Nat.strongRecOn with
    | _ i ih =>
      intro hi
      cases hb : listed.getD i false with
      | true => rfl
      | false =>
        exfalso
        have ho : ops[i]? = some ops[i] := by simp [hi]
        have hm : i ∈ Region.ready .any ops listed := mem_ready.2 ⟨by
          have hs := I.size
          have : i < listed.size := by omega
          simp [Array.getD, this] at hb ⊢
          exact hb, _, ho, fun e he hbd => by
            have hlt := R.edge i _ ho e he hbd
            exact ih e.on hlt (by omega)⟩
        rw [hr] at hm
        cases hm
  intro fuel
  induction fuel with
  | zero =>
    intro listed a w hf I
    have hall := open_zero ops.size (Nat.le_zero.1 hf)
    refine ⟨?_, fin listed a w hall I⟩
    refine List.eq_nil_iff_forall_not_mem.2 fun i hm => ?_
    obtain ⟨h1, o, ho, _⟩ := mem_ready.1 hm
    have := hall i (Array.getElem?_eq_some_iff.1 ho).1
    rw [(getD_false h1).1] at this
    cases this
  | succ fuel ih =>
    intro listed a w hf I
    refine ⟨fun hr => fin listed a w (none_ listed a w hr I) I, fun i hm => ?_⟩
    obtain ⟨h1, o, ho, hr⟩ := mem_ready.1 hm
    obtain ⟨hni, hil⟩ := getD_false h1
    have hi : i < ops.size := (Array.getElem?_eq_some_iff.1 ho).1
    obtain ⟨p, al, hp, hW, hN, hn, HR, hvals⟩ := I.ex
    obtain ⟨h', hst, hcase⟩ := R.at_ I.closed ho hni hr I.size hp hW
    have hdo : dstOk a.tmps.size o := I.tm ▸ hd o (by rw [Array.mem_toList_iff]; exact Array.mem_of_getElem? ho)
    unfold wpOp
    rw [ho]
    refine step_sound hcall HR (FRel.of_vals hvals fun t ht v hv => R.looks I.closed ho hni hr ht hv) ((step_congr fun t ht => by simp only [if_pos ht]).trans hst) fun c w' hA => ?_
    obtain ⟨al', n1, n2, n3, n4⟩ := hA
    refine ih _ _ _ (by have := open_set hil hni ops.size hi; omega) ⟨by simpa using I.size, ?_, (put_size _ _ _).trans I.tm, (put_defers _ _ _).trans I.df, ?_⟩
    · intro j oj hj hl e he hbd
      rw [getD_set _ _ _ hil] at hl ⊢
      by_cases hji : j = i
      · subst hji
        rw [ho] at hj
        cases hj
        split
        · rfl
        · exact hr e he hbd
      · rw [if_neg hji] at hl
        split
        · rfl
        · exact I.closed j oj hj hl e he hbd
    · have newvals : ∀ t v, Val ops F V (listed.setIfInBounds i true) t v → t < (a.put o.dst c).tmps.size ∧ VRel h'.nx al' v ((a.put o.dst c).tmps.getD t undef) := fun t v hv => by
        rcases hv.put R I.closed ho I.size hni with ⟨hdt, rfl⟩ | ⟨hdt, hv⟩
        · rw [put_size, hdt, put_getD _ _ _ _ (hdo t hdt), if_pos rfl]
          exact ⟨hdo t hdt, n4⟩
        · obtain ⟨k1, k2⟩ := hvals t v hv
          rw [put_size]
          refine ⟨k1, ?_⟩
          cases hdd : o.dst with
          | none => exact k2.next n2 n1
          | some d =>
            rw [put_getD _ _ _ _ (hdo d hdd), if_neg (fun he => hdt (by rw [hdd, he]))]
            exact k2.next n2 n1
      rcases hcase with ⟨_, rfl, hW'⟩ | ⟨hw, rfl⟩
      · exact ⟨i + 1, al', by omega, hW', hN.trans hn n1, Nat.le_trans hn n2, n3, newvals⟩
      · refine ⟨p, al', hp, fun j oj hj hwj => ?_, hN.trans hn n1, Nat.le_trans hn n2, n3, newvals⟩
        have hji : j ≠ i := fun he => by subst he; rw [ho] at hj; cases hj; rw [hw] at hwj; cases hwj
        rw [getD_set _ _ _ hil, if_neg hji]
        exact hW j oj hj hwj

end
end Go.Ai
