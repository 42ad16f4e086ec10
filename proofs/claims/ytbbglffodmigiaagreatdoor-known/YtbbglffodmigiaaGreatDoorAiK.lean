/-
  One operation; a region whose order is the text's.
-/
import Derived.Test.YtbbglffodmigiaaGreatDoorAiJ
import Derived.Tactics
namespace Go.Ai
open Go.RowKit

section
variable {P : Program} {W0 w : World} {al : Al} {h : Hp}

theorem getD_some {tmps : Array Value} {t : Nat} {v : Value} (hv : tmps.getD t undef = v) (hlt : t < tmps.size) : tmps[t]? = some v := by
  simp [Array.getD, hlt] at hv
  simp [hlt, hv]

theorem wants_sound {n : Nat} {all : Array Oper} {g : Nat → Option Value} {o : Oper} {b : Bool} {tmps : Array Value} (hF : FRel n al g tmps) (hw : wants all g o = some b) : Region.wanted o (yielded all tmps) = b := by
  unfold wants at hw
  unfold Region.wanted
  split at hw
  · rename_i hg
    simp at hw
    rw [hg, ← hw]
  · rename_i j want hg
    rw [hg]
    simp only [Option.bind_eq_some_iff] at hw
    obtain ⟨oj, hj, t, ht, v, hv, hw⟩ := hw
    obtain ⟨hlt, hr⟩ := hF t v hv
    split at hw
    · rename_i b'
      simp at hw
      have e : tmps.getD t undef = .bool b' := hr
      have hy : yielded all tmps j = some b' := by
        unfold yielded
        rw [hj]
        simp only [Option.bind_some, ht]
        rw [getD_some e hlt]
      simp only [hy]
      rw [← hw]
      cases b' <;> cases want <;> rfl
    · simp at hw
      obtain ⟨ds, e, _⟩ := hr
      have hy : yielded all tmps j = none := by
        unfold yielded
        rw [hj]
        simp only [Option.bind_some, ht]
        rw [getD_some e hlt]
      simp only [hy]
      rw [hw]
      rfl
    · cases hw

theorem undef_rel (n : Nat) (al : Al) : VRel n al undef undef := ⟨#[], rfl, trivial⟩

theorem step_sound {call : FuncId → List Value → Hp → Option (Value × Hp)} (hcall : CallOk P W0 call) (H : HRel W0 al h w) {all : Array Oper} {g : Nat → Option Value} {a : Act} {o : Oper} {v : Value} {h' : Hp} (hF : FRel h.nx al g a.tmps)
    (hv : step P call all g h o = some (v, h')) {K : Act → World → Prop} {Q : Exit → Act → World → Prop} (hK : ∀ c w', After W0 h.nx al v h' c w' → K (a.put o.dst c) w') :
    if Region.wanted o (yielded all a.tmps) then o.wp P a w K Q ∨ (o.asks P a w ∧ LetsOut Q) else K (a.put o.dst undef) w := by
  unfold step at hv
  simp only [Option.bind_eq_some_iff] at hv
  obtain ⟨b, hb, hv⟩ := hv
  rw [wants_sound hF hb]
  cases b with
  | false =>
    simp at hv
    obtain ⟨rfl, rfl⟩ := hv
    exact hK _ _ ⟨al, Next.refl _ _, Nat.le_refl _, H, undef_rel _ _⟩
  | true =>
    simp only [if_true] at hv ⊢
    split at hv
    · exact .inl (wop_sound hcall H hF hv hK)
    · simp only [Option.bind_eq_some_iff] at hv
      obtain ⟨u, hu, hv⟩ := hv
      simp at hv
      obtain ⟨rfl, rfl⟩ := hv
      obtain ⟨c, hr, hc⟩ := rop_sound H hF hu
      refine .inl ?_
      unfold Oper.wp
      rw [hr]
      exact hK _ _ ⟨al, Next.refl _ _, Nat.le_refl _, H, hc⟩

def dstOk (sz : Nat) (o : Oper) : Prop := ∀ d, o.dst = some d → d < sz

theorem put_size (a : Act) (d : Option Tmp) (v : Value) : (a.put d v).tmps.size = a.tmps.size := by
  cases d <;> simp [Act.put]

theorem put_defers (a : Act) (d : Option Tmp) (v : Value) : (a.put d v).defers = a.defers := by
  cases d <;> rfl

theorem put_getD (a : Act) (d t : Nat) (v : Value) (hd : d < a.tmps.size) : (a.put (some d) v).tmps.getD t undef = if t = d then v else a.tmps.getD t undef := by
  by_cases ht : t = d
  · subst ht
    simp [Act.put, hd]
  · simp only [Act.put, if_neg ht]
    simp [Array.getElem?_setIfInBounds_ne (Ne.symm ht)]

theorem FRel.put {n : Nat} {f : Fr} {a : Act} {o : Oper} {v c : Value} (hF : FRel n al (T.get dep f) a.tmps) (hd : dstOk a.tmps.size o) (hv : VRel n al v c) : FRel n al (T.get dep (put f o.dst v)) (a.put o.dst c).tmps := by
  intro t u hu
  cases ho : o.dst with
  | none => rw [ho] at hu; exact hF t u hu
  | some d =>
    rw [ho] at hu
    have hlt := hd d ho
    simp only [Ai.put] at hu
    rw [put_size, put_getD _ _ _ _ hlt]
    by_cases ht : t = d
    · subst ht
      rw [if_pos rfl]
      have := T.get_set_self _ _ _ hu
      subst this
      exact ⟨hlt, hv⟩
    · rw [if_neg ht]
      rw [T.get_set_ne _ _ _ _ _ ht] at hu
      exact hF t u hu

/-- the state behind a region or a piece of code -/
def St (W0 : World) (n : Nat) (al : Al) (sz : Nat) (f' : Fr) (h' : Hp) (a' : Act) (w' : World) : Prop :=
  a'.tmps.size = sz ∧ a'.defers = [] ∧ ∃ al', Next n al al' ∧ n ≤ h'.nx ∧ HRel W0 al' h' w' ∧ FRel h'.nx al' (T.get dep f') a'.tmps

theorem seq_sound {call : FuncId → List Value → Hp → Option (Value × Hp)} (hcall : CallOk P W0 call) {all : Array Oper} {Q : Exit → Act → World → Prop} {sz : Nat} {f' : Fr} {h' : Hp} {n0 : Nat} {al0 : Al}
    (hQ : ∀ a' w', St W0 n0 al0 sz f' h' a' w' → Q .normal a' w') : ∀ (ops : List Oper) (f : Fr) (h : Hp) (al : Al) (a : Act) (w : World), (∀ o ∈ ops, dstOk sz o) → seqOps P call all ops f h = some (f', h') →
      a.tmps.size = sz → a.defers = [] → Next n0 al0 al → n0 ≤ h.nx → HRel W0 al h w → FRel h.nx al (T.get dep f) a.tmps → wpList P all Q ops a w
  | [], f, h, al, a, w, _, hv, h1, h2, h3, h4, H, hF => by
    simp [seqOps] at hv
    obtain ⟨rfl, rfl⟩ := hv
    exact hQ _ _ ⟨h1, h2, al, h3, h4, H, hF⟩
  | o :: ops, f, h, al, a, w, hd, hv, h1, h2, h3, h4, H, hF => by
    simp only [seqOps, Option.bind_eq_some_iff] at hv
    obtain ⟨⟨v, h1'⟩, hst, hv⟩ := hv
    have hdo : dstOk a.tmps.size o := h1 ▸ hd o (by simp)
    refine step_sound hcall H hF hst fun c w' hA => ?_
    obtain ⟨al', n1, n2, n3, n4⟩ := hA
    exact seq_sound hcall hQ ops _ _ al' _ w' (fun o ho => hd o (by simp [ho])) hv ((put_size _ _ _).trans h1) ((put_defers _ _ _).trans h2) (h3.trans h4 n1) (Nat.le_trans h4 n2) n3 ((hF.next n2 n1).put hdo n4)

end
end Go.Ai
