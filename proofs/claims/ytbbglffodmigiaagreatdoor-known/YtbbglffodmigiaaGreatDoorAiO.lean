/-
  The interpreter tells what the model does: regions, code, calls.
-/
import Derived.Test.YtbbglffodmigiaaGreatDoorAiN
namespace Go.Ai
open Go.RowKit

theorem ceq_eq {x y : Value} (h : ceq x y = true) : x = y := by
  unfold ceq at h
  split at h
  · simp at h; rw [h]
  · simp at h; rw [h.1, h.2]
  · simp at h; rw [h]
  · simp at h; rw [h.1.1, h.1.2, h.2]
  · rename_i a b
    cases a; cases b
    simp at h
    rw [h]
  · cases h

theorem leq_eq : ∀ {xs ys : List Value}, leq xs ys = true → xs = ys
  | [], [], _ => rfl
  | x :: xs, y :: ys, h => by simp [leq] at h; rw [ceq_eq h.1, leq_eq h.2]
  | [], _ :: _, h => by simp [leq] at h
  | _ :: _, [], h => by simp [leq] at h

theorem veq_eq {x y : Value} (h : veq x y = true) : x = y := by
  unfold veq at h
  split at h
  · rw [Array.toList_inj.1 (leq_eq h)]
  · exact ceq_eq h

section
variable {P : Program} {W0 : World} {call : FuncId → List Value → Hp → Option (Value × Hp)} {ops : Array Oper}

theorem drawOk_edge (hd : drawOk ops (befores ops.toList []) = true) (j : Nat) (o : Oper) (ho : ops[j]? = some o) : ∀ e ∈ o.after, Region.binds .any e = true → e.on < j := fun e he hb => by
  unfold drawOk at hd
  have := List.all_eq_true.1 hd j (by simp [upto]; exact (Array.getElem?_eq_some_iff.1 ho).1)
  rw [ho] at this
  simp only [Bool.and_eq_true] at this
  have h1 := List.all_eq_true.1 this.1 e (by simpa using he)
  simpa [hb] using h1

theorem drawOk_two (hd : drawOk ops (befores ops.toList []) = true) (j : Nat) (oj : Oper) (hj : ops[j]? = some oj) (i : Nat) (oi : Oper) (hlt : i < j) (hi : ops[i]? = some oi) :
    ((befores ops.toList []).getD j 0).testBit i = true ∨ (oi.apart ops oj = true ∧ ¬ (isW oi.op = true ∧ isW oj.op = true)) := by
  unfold drawOk at hd
  have := List.all_eq_true.1 hd j (by simp [upto]; exact (Array.getElem?_eq_some_iff.1 hj).1)
  rw [hj] at this
  simp only [Bool.and_eq_true] at this
  have h1 := List.all_eq_true.1 this.2 i (by simp [upto]; exact hlt)
  rw [hi] at h1
  simp only [Bool.or_eq_true, Bool.and_eq_true, Bool.not_eq_true', Bool.and_eq_false_iff] at h1
  rcases h1 with h1 | ⟨h1, h2⟩
  · exact .inl h1
  · refine .inr ⟨h1, fun ⟨k1, k2⟩ => ?_⟩
    rcases h2 with h2 | h2
    · rw [k1] at h2; cases h2
    · rw [k2] at h2; cases h2

theorem mem_pairs {bf : List Nat} {i j : Nat} {oi oj : Oper} (hi : ops[i]? = some oi) (hj : ops[j]? = some oj) (hl : isLoad oi.op = true) (hw : isW oj.op = true) (hlo : loose bf i j = true) : (i, j) ∈ pairs ops bf := by
  unfold pairs
  refine List.mem_flatMap.2 ⟨i, by simp [upto]; exact (Array.getElem?_eq_some_iff.1 hi).1, List.mem_filterMap.2 ⟨j, by simp [upto]; exact (Array.getElem?_eq_some_iff.1 hj).1, ?_⟩⟩
  rw [hi, hj]
  simp [hl, hw, hlo]

theorem draw_run {f f' : Fr} {h h' : Hp} (hv : drawOps P call ops f h = some (f', h')) : ∃ F H V, Run P call ops F H V ∧ F 0 = f ∧ H 0 = h ∧ F ops.size = f' ∧ H ops.size = h' := by
  unfold drawOps at hv
  split at hv
  · rename_i hd
    split at hv
    · rename_i hps
      obtain ⟨F, H, V, e1, e2, e3, e4, e5, _⟩ := run_of_seq ops _ _ _ _ _ hv
      refine ⟨F, H, V, ⟨fun i o ho => e5 i o (by simpa using ho), drawOk_edge hd, drawOk_two hd, fun i j oi oj hi hj hl hw hlo _ => ?_⟩, e1, e2, by simpa using e3, by simpa using e4⟩
      have := mem_pairs hi hj hl hw hlo
      rw [hps] at this
      cases this
    · simp only [Option.bind_eq_some_iff] at hv
      obtain ⟨tr, htr, hv⟩ := hv
      split at hv
      · rename_i hag
        obtain ⟨F, H, V, e1, e2, e3, e4, e5, e6⟩ := run_of_seq ops _ _ _ _ _ hv
        refine ⟨F, H, V, ⟨fun i o ho => e5 i o (by simpa using ho), drawOk_edge hd, drawOk_two hd, fun i j oi oj hi hj hl hw hlo hwant => ?_⟩, e1, e2, by simpa using e3, by simpa using e4⟩
        have ha := List.all_eq_true.1 hag (i, j) (mem_pairs hi hj hl hw hlo)
        have li : i < ops.size := (Array.getElem?_eq_some_iff.1 hi).1
        have lj : j < ops.size := (Array.getElem?_eq_some_iff.1 hj).1
        obtain ⟨v1, t1, t1'⟩ := e6 tr htr i (by simp; omega)
        obtain ⟨v2, t2, _⟩ := e6 tr htr j (by simp; omega)
        obtain ⟨v3, t3, _⟩ := e6 tr htr (j + 1) (by simp; omega)
        have hv1 := t1' (by simpa using li)
        subst hv1
        unfold again at ha
        simp only [hi, t1, t2, t3, hwant, Bool.and_eq_true] at ha
        obtain ⟨a1, a2⟩ := ha
        constructor
        · split at a1
          · rename_i u hu; rw [hu, veq_eq a1]
          · cases a1
        · split at a2
          · rename_i u hu; rw [hu, veq_eq a2]
          · cases a2
      · cases hv
  · cases hv

theorem draw_sound (hm : P.follows .mixedOrders = true) (hcall : CallOk P W0 call) {Q : Exit → Act → World → Prop} {sz : Nat} {f f' : Fr} {h h' : Hp} {id : Nat} {al : Al} {a : Act} {w : World}
    (hd : ∀ o ∈ ops.toList, dstOk sz o) (hQ : ∀ a' w', St W0 h.nx al sz f' h' a' w' → Q .normal a' w') (hv : drawOps P call ops f h = some (f', h')) (h1 : a.tmps.size = sz) (h2 : a.defers = [])
    (HR : HRel W0 al h w) (hF : FRel h.nx al (T.get dep f) a.tmps) : (Code.region id ops true).wp P Q a w := by
  obtain ⟨F, H, V, R, rfl, rfl, rfl, rfl⟩ := draw_run hv
  have hz : ∀ j, (Array.replicate ops.size false).getD j false = false := fun j => by
    by_cases hj : j < ops.size <;> simp [Array.getD, hj]
  refine wp_region_any hm (draw_any hcall R hd hQ ops.size _ a _ ?_ ⟨by simp, fun j o _ hl => ?_, h1, h2, 0, al, Nat.zero_le _, fun j o _ _ => ?_, Next.refl _ _, Nat.le_refl _, HR.drew, fun t v hv => ?_⟩)
  · exact Nat.le_trans (List.countP_le_length) (by simp)
  · rw [hz] at hl; cases hl
  · rw [hz]; simp
  · rcases hv with ⟨j, o, _, hl, _⟩ | ⟨_, hv⟩
    · rw [hz] at hl; cases hl
    · exact hF t v hv

theorem seq_region (hcall : CallOk P W0 call) {Q : Exit → Act → World → Prop} {sz : Nat} {f f' : Fr} {h h' : Hp} {id : Nat} {al : Al} {a : Act} {w : World}
    (hd : ∀ o ∈ ops.toList, dstOk sz o) (hQ : ∀ a' w', St W0 h.nx al sz f' h' a' w' → Q .normal a' w') (hv : seqOps P call ops ops.toList f h = some (f', h')) (h1 : a.tmps.size = sz) (h2 : a.defers = [])
    (HR : HRel W0 al h w) (hF : FRel h.nx al (T.get dep f) a.tmps) : (Code.region id ops false).wp P Q a w :=
  wp_region_list (seq_sound hcall hQ ops.toList f h al a w hd hv h1 h2 (Next.refl _ _) (Nat.le_refl _) HR hF)

end

theorem least {p : Nat → Prop} (h : ∃ n, p n) : ∃ n, p n ∧ ∀ m, p m → n ≤ m := by
  obtain ⟨n, hn⟩ := h
  induction n using Nat.strongRecOn with
  | _ n ih =>
    by_cases hk : ∃ k, k < n ∧ p k
    · obtain ⟨k, hk, hp⟩ := hk
      exact ih k hk hp
    · exact ⟨n, hn, fun m hm => Nat.le_of_not_lt fun hlt => hk ⟨m, hlt, hm⟩⟩

theorem wp_loop_fuel {P : Program} {c : Code} {Q : Exit → Act → World → Prop} (I : Nat → Act → World → Prop) (round : ∀ n a w, I n a w → c.wp P (Exit.then (fun a' w' => ∃ m, m < n ∧ I m a' w') Q) a w) {n : Nat} {a : Act} {w : World} (h0 : I n a w) :
    (Code.loop c).wp P Q a w := by
  have hmu : ∀ a w, ∃ k : Nat, (∃ n, I n a w) → I k a w ∧ ∀ m, I m a w → k ≤ m := fun a w => by
    by_cases h : ∃ n, I n a w
    · obtain ⟨k, h1, h2⟩ := least h
      exact ⟨k, fun _ => ⟨h1, h2⟩⟩
    · exact ⟨0, fun h' => absurd h' h⟩
  refine wp_loop (fun a w => ∃ n, I n a w) (fun a w => Classical.choose (hmu a w)) ⟨n, h0⟩ fun a w hI => ?_
  obtain ⟨h1, h2⟩ := Classical.choose_spec (hmu a w) hI
  refine wp_mono (round _ a w h1) fun e a' w' hq => ?_
  cases e with
  | normal =>
    obtain ⟨m, hm, hI'⟩ := hq
    exact ⟨⟨m, hI'⟩, Nat.lt_of_le_of_lt ((Classical.choose_spec (hmu a' w') ⟨m, hI'⟩).2 m hI') hm⟩
  | _ => exact hq

end Go.Ai
