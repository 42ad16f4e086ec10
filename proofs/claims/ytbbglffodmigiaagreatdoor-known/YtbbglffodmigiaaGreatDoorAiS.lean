/-
  What the fast interpreter says, the interpreter says: values and memory.
-/
import Derived.Test.YtbbglffodmigiaaGreatDoorAiR
import Derived.Test.YtbbglffodmigiaaGreatDoorAiP
namespace Go.Ai

theorem getK_ref {α : Type} : ∀ (n : Nat) (t : T α) (k : Nat) (K : α → Prop), getK n t k K → ∃ v, T.get n t k = some v ∧ K v
  | 0, _, _, _, h => h.elim
  | n + 1, ⟨v, l, r⟩, 0, K, h => by
    cases v with
    | none => exact h.elim
    | some v => exact ⟨v, rfl, h⟩
  | n + 1, ⟨v, l, r⟩, k + 1, K, h => by
    have h : @Bool.rec (fun _ => Prop) (@Option.rec (T α) (fun _ => Prop) False (fun s => getK n s (k / 2) K) r) (@Option.rec (T α) (fun _ => Prop) False (fun s => getK n s (k / 2) K) l) (Nat.beq (k % 2) 0) := h
    simp only [T.get]
    cases hb : Nat.beq (k % 2) 0 with
    | true =>
      rw [hb] at h
      rw [if_pos (Nat.eq_of_beq_eq_true hb)]
      cases l with
      | none => exact h.elim
      | some s => exact getK_ref n s _ K h
    | false =>
      rw [hb] at h
      rw [if_neg (Nat.ne_of_beq_eq_false hb)]
      cases r with
      | none => exact h.elim
      | some s => exact getK_ref n s _ K h

theorem getO_ref {α : Type} : ∀ (n : Nat) (t : T α) (k : Nat) (N : Prop) (K : α → Prop), getO n t k N K → (T.get n t k = none ∧ N) ∨ ∃ v, T.get n t k = some v ∧ K v
  | 0, _, _, _, _, h => .inl ⟨rfl, h⟩
  | n + 1, ⟨v, l, r⟩, 0, N, K, h => by
    cases v with
    | none => exact .inl ⟨rfl, h⟩
    | some v => exact .inr ⟨v, rfl, h⟩
  | n + 1, ⟨v, l, r⟩, k + 1, N, K, h => by
    have h : @Bool.rec (fun _ => Prop) (@Option.rec (T α) (fun _ => Prop) N (fun s => getO n s (k / 2) N K) r) (@Option.rec (T α) (fun _ => Prop) N (fun s => getO n s (k / 2) N K) l) (Nat.beq (k % 2) 0) := h
    simp only [T.get]
    cases hb : Nat.beq (k % 2) 0 with
    | true =>
      rw [hb] at h
      rw [if_pos (Nat.eq_of_beq_eq_true hb)]
      cases l with
      | none => exact .inl ⟨T.get_emp _ _, h⟩
      | some s => exact getO_ref n s _ N K h
    | false =>
      rw [hb] at h
      rw [if_neg (Nat.ne_of_beq_eq_false hb)]
      cases r with
      | none => exact .inl ⟨T.get_emp _ _, h⟩
      | some s => exact getO_ref n s _ N K h

theorem setK_ref {α : Type} : ∀ (n : Nat) (t : T α) (k : Nat) (x : α) (K : T α → Prop), setK n t k x K → K (T.set n t k x)
  | 0, _, _, _, _, h => h
  | n + 1, ⟨v, l, r⟩, 0, x, K, h => h
  | n + 1, ⟨v, l, r⟩, k + 1, x, K, h => by
    have h : @Bool.rec (fun _ => Prop) (@Option.rec (T α) (fun _ => Prop) (setK n T.emp (k / 2) x (fun s => K ⟨v, l, some s⟩)) (fun t => setK n t (k / 2) x (fun s => K ⟨v, l, some s⟩)) r)
        (@Option.rec (T α) (fun _ => Prop) (setK n T.emp (k / 2) x (fun s => K ⟨v, some s, r⟩)) (fun t => setK n t (k / 2) x (fun s => K ⟨v, some s, r⟩)) l) (Nat.beq (k % 2) 0) := h
    simp only [T.set]
    cases hb : Nat.beq (k % 2) 0 with
    | true =>
      rw [hb] at h
      rw [if_pos (Nat.eq_of_beq_eq_true hb)]
      cases l with
      | none => exact setK_ref n _ _ x _ h
      | some s => exact setK_ref n _ _ x _ h
    | false =>
      rw [hb] at h
      rw [if_neg (Nat.ne_of_beq_eq_false hb)]
      cases r with
      | none => exact setK_ref n _ _ x _ h
      | some s => exact setK_ref n _ _ x _ h

theorem boolRec {c : Bool} {A N : Prop} (h : @Bool.rec (fun _ => Prop) N A c) : (c = true ∧ A) ∨ (c = false ∧ N) := by
  cases c
  · exact .inr ⟨rfl, h⟩
  · exact .inl ⟨rfl, h⟩

theorem boolT {c : Bool} {A : Prop} (h : @Bool.rec (fun _ => Prop) False A c) : c = true ∧ A := by
  rcases boolRec h with h | h
  · exact h
  · exact h.2.elim

theorem optT {T : Type} {x : Option T} {K : T → Prop} (h : @Option.rec T (fun _ => Prop) False K x) : ∃ v, x = some v ∧ K v := by
  cases x with
  | none => exact h.elim
  | some v => exact ⟨v, rfl, h⟩

theorem addrT {a : Option Addr} {K : Nat → Nat → Prop} (h : @Option.rec Addr (fun _ => Prop) False (fun ad => @Addr.rec (fun _ => Prop) (fun id o sp => @Option.rec Nat (fun _ => Prop) (K id o) (fun _ => False) sp) ad) a) :
    ∃ id o, a = some ⟨id, o, none⟩ ∧ K id o := by
  cases a with
  | none => exact h.elim
  | some ad =>
    obtain ⟨id, o, sp⟩ := ad
    cases sp with
    | none => exact ⟨id, o, rfl, h⟩
    | some _ => exact h.elim

theorem andK_true {a b : Bool} (h : andK a b = true) : a = true ∧ b = true := by
  cases a
  · cases h
  · exact ⟨rfl, h⟩

theorem evK_ref {f : Fr} {x : Operand} {K : Value → Prop} (h : evK f x K) : ∃ v, ev (T.get dep f) x = some v ∧ K v := by
  cases x with
  | tmp t => exact getK_ref 40 f t K h
  | const v =>
    obtain ⟨hp, hk⟩ := boolT h
    exact ⟨v, by simp [ev, hp], hk⟩
  | global g => exact h.elim
  | func f => exact h.elim

theorem blkK_ref {h : Hp} {id : Nat} {K : Blk → Prop} (hk : blkK h id K) : ∃ b, blk h id = some b ∧ K b := by
  obtain ⟨v, hv, hk⟩ := getK_ref 40 _ _ _ hk
  obtain ⟨b, rfl, hk⟩ := optT hk
  refine ⟨b, ?_, hk⟩
  unfold blk
  rw [show T.get dep h.m id = some (some b) from hv]

theorem forceK_ref {n : Nat} {K : Nat → Prop} (h : forceK n K) : K n := by
  cases n <;> exact h

theorem atK_ref {b : Blk} {o : Nat} {K : Value → Prop} (h : atK b o K) : ∃ v, b.at o = some v ∧ K v := by
  obtain ⟨bs, bz, bc⟩ := b
  obtain ⟨hb, h⟩ := boolT h
  have hlt : o < bs := Nat.le_of_ble_eq_true hb
  unfold Blk.at
  simp only [hlt, if_true]
  rcases getO_ref 40 _ _ _ _ h with ⟨hn, hz⟩ | ⟨v, hv, hk⟩
  · rw [show T.get dep bc o = none from hn]
    unfold zK at hz
    split at hz
    · rename_i v hv
      exact ⟨v, hv, hz⟩
    · exact hz.elim
  · rw [show T.get dep bc o = some v from hv]
    exact ⟨v, rfl, hk⟩

theorem takeK_ref {b : Blk} : ∀ (n o : Nat) (K : List Value → Prop), takeK b n o K → ∃ vs, b.take o n = some vs ∧ K vs
  | 0, o, K, h => ⟨[], rfl, h⟩
  | n + 1, o, K, h => by
    unfold takeK at h
    dsimp only at h
    obtain ⟨v, hv, h⟩ := atK_ref h
    obtain ⟨vs, hvs, h⟩ := takeK_ref n (o + 1) _ h
    exact ⟨v :: vs, by simp [Blk.take, hv, hvs], h⟩

theorem layK_ref : ∀ (n : Nat) (vs : List Value) (t : T Value) (o : Nat) (K : T Value → Prop), layK n vs t o K → K (lay vs t o)
  | 0, _, _, _, _, h => h.elim
  | n + 1, [], t, o, K, h => h
  | n + 1, v :: vs, t, o, K, h => by
    unfold layK at h
    dsimp only at h
    exact layK_ref n vs _ _ K (setK_ref _ _ _ _ _ h)

theorem loadK_ref {P : Program} {h : Hp} {t : TypeId} {p : Value} {K : Value → Prop} (hk : loadK P h t p K) : ∃ v, loadV P h t p = some v ∧ K v := by
  cases p <;> first | exact hk.elim | skip
  unfold loadK at hk
  dsimp only at hk
  obtain ⟨id, o, rfl, hk⟩ := addrT (K := fun id o => blkK h id fun b => loadB P t b o K) hk
  obtain ⟨b, hb, hk⟩ := blkK_ref hk
  unfold loadB at hk
  simp only [loadV, hb, Option.bind_some]
  split at hk
  · rename_i hag
    split at hk
    · rename_i i hi
      obtain ⟨vs, hvs, hk⟩ := takeK_ref _ _ _ hk
      exact ⟨_, by simp [hag, hi, hvs], hk⟩
    · exact hk.elim
  · rename_i hag
    obtain ⟨v, hv, hk⟩ := atK_ref hk
    exact ⟨v, by simp [hag, hv], hk⟩
  · exact hk.elim

theorem storeK_ref {P : Program} {h : Hp} {t : TypeId} {a x : Value} {K : Hp → Prop} (hk : storeK P h t a x K) : ∃ h', storeV P h t a x = some h' ∧ K h' := by
  cases a <;> first | exact hk.elim | skip
  obtain ⟨hm, nx⟩ := h
  unfold storeK at hk
  dsimp only at hk
  obtain ⟨id, o, rfl, hk⟩ := addrT (K := fun id o => getK 40 hm id fun b => @Option.rec Blk (fun _ => Prop) False (fun b => storeB P t hm nx id o x b K) b) hk
  obtain ⟨b, hb, hk⟩ := getK_ref _ _ _ _ hk
  obtain ⟨b, rfl, hk⟩ := optT hk
  unfold storeB at hk
  split at hk
  · rename_i i hi
    obtain ⟨bs, bz, bc⟩ := b
    obtain ⟨hc, hk⟩ := boolT hk
    obtain ⟨c1, hc⟩ := andK_true hc
    obtain ⟨c2, hc⟩ := andK_true hc
    obtain ⟨c3, c4⟩ := andK_true hc
    have hk := layK_ref _ _ _ _ _ hk
    have hk := setK_ref _ _ _ _ _ hk
    have hbk : blk ⟨hm, nx⟩ id = some ⟨bs, bz, bc⟩ := by
      unfold blk
      rw [show T.get dep hm id = _ from hb]
    have c1' : x.cells.size = i.size := by have := Nat.eq_of_beq_eq_true c1; simpa using this
    have c2' : o + i.size ≤ bs := Nat.le_of_ble_eq_true c2
    have c3' : o + i.size ≤ top := Nat.le_of_ble_eq_true c3
    refine ⟨_, ?_, hk⟩
    simp only [storeV, hbk, hi, Option.bind_some]
    rw [if_pos ⟨c1', c2', c3', c4⟩]
    rfl
  · exact hk.elim

theorem putK_ref {f : Fr} {d : Option Nat} {v : Value} {K : Fr → Prop} (h : putK f d v K) : K (put f d v) := by
  cases d with
  | none => exact h
  | some d => exact setK_ref 40 f d v K h

theorem evsK_ref {f : Fr} : ∀ (n : Nat) (xs : List Operand) (K : List Value → Prop), evsK f n xs K → ∃ vs, evs (T.get dep f) xs = some vs ∧ K vs
  | 0, _, _, h => h.elim
  | n + 1, [], K, h => ⟨[], rfl, h⟩
  | n + 1, x :: xs, K, h => by
    unfold evsK at h
    dsimp only at h
    obtain ⟨v, hv, h⟩ := evK_ref h
    obtain ⟨vs, hvs, h⟩ := evsK_ref n xs _ h
    exact ⟨v :: vs, by simp [evs, hv, hvs], h⟩

theorem evpK_ref {f : Fr} : ∀ (n : Nat) (xs : List (Nat × Operand)) (K : List (Nat × Value) → Prop), evpK f n xs K → ∃ vs, evp (T.get dep f) xs = some vs ∧ K vs
  | 0, _, _, h => h.elim
  | n + 1, [], K, h => ⟨[], rfl, h⟩
  | n + 1, x :: xs, K, h => by
    unfold evpK at h
    dsimp only at h
    obtain ⟨v, hv, h⟩ := evK_ref h
    obtain ⟨vs, hvs, h⟩ := evpK_ref n xs _ h
    exact ⟨(x.1, v) :: vs, by simp [evp, hv, hvs], h⟩

end Go.Ai
