import Derived.Test.YtnkbfdbbcaffmaaX23KpJ
import Derived.Test.YtnkbfdbbcaffmaaX20RunM
/-
  stands, blind.
-/
namespace Go.Proofs.Ytnkbfdbbcaffmaa
open Go.RowKit

/-- An answer, and what it says where it is no. -/
def Ans (w : World) (b : Bool) (P : Prop) (e : Ending) (w' : World) : Prop := ∃ bb, e = .returned (.bool bb) ∧ (bb = b → P) ∧ Below w.heap.size w w'

set_option maxHeartbeats 2000000 in
theorem stands_any (s : ByteArray) (hs : s.size ≤ 1000) (c : Int) (w : World) :
    Calls Try.prog 27 #[.string s, .int .u8 c] w (Ans w false (∀ z ∈ s.data.toList, (z.toNat : Int) ≠ c)) := by
  go_enter Try.func27, Try.ntmps27
  go_wp2_with fail
  go_loopw [5] (fun i wr => ∃ k : Nat, i = .int .i64 k ∧ k ≤ s.size ∧ Hid (∀ j (h : j < s.size), j < k → (s[j].toNat : Int) ≠ c) ∧ wr = w) (fun i _ => s.size - (intOf i).toNat)
  case atStart => exact ⟨0, rfl, Nat.zero_le _, fun j _ h => by omega, rfl⟩
  case round =>
    obtain ⟨k, rfl, hk, hn, rfl⟩ := hrel
    by_cases hlt : k < s.size
    · have hlI : (k : Int) < (s.size : Int) := by omega
      by_cases hc : (s[k].toNat : Int) = c
      · go_wp2_with fail
        go_ret
        exact ⟨true, rfl, fun e => Bool.noConfusion e, Below.refl _ _⟩
      · have hc2 : ((s[k].toNat : Int) == c) = false := by simpa using hc
        have Hc := hide hc
        clear hc
        go_wp2_with fail
        go_roundw
        case rel =>
          refine ⟨k + 1, by go_num, by omega, fun j h hj => ?_, by simp⟩
          by_cases e : j = k
          · subst e; exact unhide Hc
          · exact unhide hn j h (by omega)
        case measure => simp [intOf]; omega
    · go_wp2_with fail
      go_ret
      refine ⟨false, rfl, fun _ z hz => ?_, Below.refl _ _⟩
      obtain ⟨j, hj, rfl⟩ := List.mem_iff_getElem.1 hz
      have hj2 : j < s.size := by rw [size_list]; exact hj
      exact unhide hn j hj2 (by omega)

/-- No command reads the value i. -/
def NoRead (n i : Nat) (B : List UInt8) : Prop := (i < n → ∀ z ∈ B, (z.toNat : Int) ≠ 97 + i) ∧ (n ≤ i → ∀ z ∈ B, (z.toNat : Int) ≠ 108)

set_option maxHeartbeats 2000000 in
theorem blind_any (s ks : ByteArray) (W : Int) (n i : Nat) (hi : i ≤ 100) (hs : s.size ≤ 300) (hk : 3 + ks.size ≤ s.size) (w : World) :
    Calls Try.prog 17 #[.agg #[.string s, .string ks, .int .i64 W, .int .i64 n], .int .i64 i] w (Ans w true (NoRead n i (Lft s (3 + ks.size)))) := by
  have hBo := hide (fun w0 => Body_any s ks W n hs hk w0)
  have hll := lft_len s (3 + ks.size)
  have Hll := hide hll
  clear hll
  by_cases hlt : i < n
  · have hd : ¬ (n : Int) ≤ (i : Int) := by omega
    go_enter Try.func17, Try.ntmps17
    go_wp2_with fail
    refine (unhide hBo _).mono ?_
    rintro e w1 ⟨bb, rfl, hbb, hB1⟩
    have hA1 := (At.new w 24 #[.string s, .string ks, .int .i64 W, .int .i64 n]).below hB1 (by simp)
    obtain ⟨k0, k1, k2, k3⟩ := hA1.four
    have hst := hide (stands_any bb (by rw [size_list, hbb]; have := unhide Hll; omega) (97 + i) w1)
    rw [hbb] at hst
    go_wp2_with fail
    refine (unhide hst).mono ?_
    rintro e w2 ⟨b2, rfl, hb2, hB2⟩
    have HB := hide (((Below.refl w.heap.size w).alloc (Nat.le_refl _) (.cells #[.string s, .string ks, .int .i64 W, .int .i64 n] 24)).trans ((hB1.mono (by simp)).trans (hB2.mono (by have := hB1.size; simp at this; omega))))
    have Hb2 := hide hb2
    clear hB1 hB2 hb2 hbb
    go_wp2_with fail
    go_ret
    refine ⟨_, rfl, fun e => ⟨fun _ => unhide Hb2 (by simpa using e), fun h => by omega⟩, unhide HB⟩
  · have hd : (n : Int) ≤ (i : Int) := by omega
    go_enter Try.func17, Try.ntmps17
    go_wp2_with fail
    refine (unhide hBo _).mono ?_
    rintro e w1 ⟨bb, rfl, hbb, hB1⟩
    have hA1 := (At.new w 24 #[.string s, .string ks, .int .i64 W, .int .i64 n]).below hB1 (by simp)
    obtain ⟨k0, k1, k2, k3⟩ := hA1.four
    have hst := hide (stands_any bb (by rw [size_list, hbb]; have := unhide Hll; omega) 108 w1)
    rw [hbb] at hst
    go_wp2_with fail
    refine (unhide hst).mono ?_
    rintro e w2 ⟨b2, rfl, hb2, hB2⟩
    have HB := hide (((Below.refl w.heap.size w).alloc (Nat.le_refl _) (.cells #[.string s, .string ks, .int .i64 W, .int .i64 n] 24)).trans ((hB1.mono (by simp)).trans (hB2.mono (by have := hB1.size; simp at this; omega))))
    have Hb2 := hide hb2
    clear hB1 hB2 hb2 hbb
    go_wp2_with fail
    go_ret
    refine ⟨_, rfl, fun e => ⟨fun h => absurd h hlt, fun _ => unhide Hb2 (by simpa using e)⟩, unhide HB⟩
end Go.Proofs.Ytnkbfdbbcaffmaa
/-
  A value that no command reads.
-/
namespace Go.Proofs.Ytnkbfdbbcaffmaa
open Go.RowKit

/-- Two states that differ at most at i, where the one has x, the other y. -/
structure Br (n i : Nat) (x y : Int) (σ τ : List Int) : Prop where
  len : σ.length = τ.length
  lt : i < σ.length
  other : ∀ j, j ≠ i → σ.getD j 0 = τ.getD j 0
  here : (σ.getD i 0 = x ∧ τ.getD i 0 = y) ∨ (n ≤ i ∧ σ.getD i 0 = τ.getD i 0)

/-- A command that does not read the value i. -/
structure BlC (n i : Nat) (c : Cm) : Prop where
  var : i < n → c.kind = 61 ∨ c.kind = 108 → c.var.toNat ≠ i
  x : i < n → c.xn = true → c.xv.toNat ≠ i
  y : i < n → c.kind = 61 ∨ c.kind = 115 → c.yn = true → c.yv.toNat ≠ i
  load : n ≤ i → c.kind ≠ 108

theorem getD_set (σ : List Int) (j k : Nat) (v : Int) : (σ.set j v).getD k 0 = if j = k ∧ k < σ.length then v else σ.getD k 0 := by
  simp only [List.getD, List.getElem?_set]
  by_cases h : j = k
  · subst h
    by_cases h2 : j < σ.length
    · simp [h2]
    · simp [h2]
  · simp [h]

theorem Br.set {n i : Nat} {x y : Int} {σ τ : List Int} (h : Br n i x y σ τ) (j : Nat) (v : Int) (hj : j ≠ i ∨ n ≤ i) : Br n i x y (σ.set j v) (τ.set j v) := by
  refine ⟨by simp [h.len], by simpa using h.lt, fun k hk => ?_, ?_⟩
  · rw [getD_set, getD_set, h.other k hk, h.len]
  · rw [getD_set, getD_set, ← h.len]
    by_cases e : j = i
    · have hn : n ≤ i := by
        rcases hj with hj | hj
        · exact absurd e hj
        · exact hj
      right
      rw [if_pos ⟨e, h.lt⟩, if_pos ⟨e, h.lt⟩]
      exact ⟨hn, rfl⟩
    · rw [if_neg (fun hh => e hh.1), if_neg (fun hh => e hh.1)]
      exact h.here

theorem Br.vl {n i : Nat} {x y : Int} {σ τ : List Int} (h : Br n i x y σ τ) {nm : Bool} {v : Nat} (hv : nm = true → v ≠ i) : vl σ nm v = vl τ nm v := by
  unfold Go.Proofs.Ytnkbfdbbcaffmaa.vl
  cases nm with
  | true => exact h.other v (hv rfl)
  | false => rfl

theorem act_blind {V view : Int} {n m i : Nat} {x y : Int} {σ τ : List Int} {c : Cm} (h : Br n i x y σ τ) (hc : CmOK V n c) (hb : BlC n i c) :
    (act V view n m τ c).2 = (act V view n m σ c).2 ∧ Br n i x y (act V view n m σ c).1 (act V view n m τ c).1 := by
  have hx : vl σ c.xn c.xv.toNat = vl τ c.xn c.xv.toNat := h.vl fun e => by
    by_cases hi : i < n
    · exact hb.x hi e
    · have := hc.x.1 e; omega
  have hy : c.kind = 61 ∨ c.kind = 115 → vl σ c.yn c.yv.toNat = vl τ c.yn c.yv.toNat := fun hk => h.vl fun e => by
    by_cases hi : i < n
    · exact hb.y hi hk e
    · have := (hc.y hk).1 e; omega
  have hvar : c.kind = 61 ∨ c.kind = 108 → c.var.toNat ≠ i := fun hk => by
    by_cases hi : i < n
    · exact hb.var hi hk
    · have := hc.var hk; omega
  unfold act
  by_cases h1 : c.kind = 61
  · rw [if_pos h1, if_pos h1]
    unfold actSet
    rw [← hx, ← hy (.inl h1)]
    by_cases hd : isDiv c.op = true
    · rw [if_pos hd, if_pos hd]
      by_cases h0 : vl σ c.yn c.yv.toNat = 0
      · rw [if_pos h0, if_pos h0]; exact ⟨rfl, h⟩
      · rw [if_neg h0, if_neg h0]; exact ⟨rfl, h.set _ _ (.inl (hvar (.inl h1)))⟩
    · rw [if_neg hd, if_neg hd]; exact ⟨rfl, h.set _ _ (.inl (hvar (.inl h1)))⟩
  · rw [if_neg h1, if_neg h1]
    by_cases h2 : c.kind = 108
    · rw [if_pos h2, if_pos h2, ← hx]
      have hi : i < n := by
        by_cases hi : i < n
        · exact hi
        · exact absurd h2 (hb.load (by omega))
      by_cases hm : (m : Int) ≤ vl σ c.xn c.xv.toNat
      · rw [if_pos hm, if_pos hm]; exact ⟨rfl, h⟩
      · rw [if_neg hm, if_neg hm]
        refine ⟨rfl, ?_⟩
        show Br n i x y (σ.set c.var.toNat (σ.getD (n + (vl σ c.xn c.xv.toNat).toNat) 0)) (τ.set c.var.toNat (τ.getD (n + (vl σ c.xn c.xv.toNat).toNat) 0))
        rw [h.other (n + (vl σ c.xn c.xv.toNat).toNat) (by omega)]
        exact h.set _ _ (.inl (hvar (.inr h2)))
    · rw [if_neg h2, if_neg h2]
      by_cases h3 : c.kind = 115
      · rw [if_pos h3, if_pos h3, ← hx, ← hy (.inr h3)]
        by_cases hm : (m : Int) ≤ vl σ c.xn c.xv.toNat
        · rw [if_pos hm, if_pos hm]; exact ⟨rfl, h⟩
        · rw [if_neg hm, if_neg hm]
          refine ⟨rfl, h.set _ _ ?_⟩
          by_cases hi : i < n
          · left; omega
          · right; omega
      · rw [if_neg h3, if_neg h3, ← hx]
        split <;> exact ⟨rfl, h⟩

theorem Does.next {V : Int} {n : Nat} {c : Cm} {t a b : List UInt8} (h : Does V n c t a b) (view : Int) (m : Nat) (σ : List Int) : ((act V view n m σ c).2.2.2 = c.yes ∧ ∀ z ∈ a, z ∈ t) ∨ ((act V view n m σ c).2.2.2 = c.no ∧ ∀ z ∈ b, z ∈ t) := by
  rcases h with ⟨v, x, o, y, r, rfl, rfl, hk, _, _, _, _⟩ | ⟨v, x, r, rfl, rfl, hk, _, _⟩ | ⟨x, y, r, rfl, rfl, hk, _, _⟩ | ⟨x, A, B, r, rfl, rfl, rfl, hk, _, _, _⟩ | ⟨x, A, r, rfl, rfl, rfl, hk, _, _⟩
  · left
    refine ⟨by unfold act; rw [if_pos hk], fun z hz => by simp [hz]⟩
  · left
    refine ⟨?_, fun z hz => by simp [hz]⟩
    unfold act
    rw [if_neg (by rw [hk]; decide), if_pos hk]
    split <;> rfl
  · left
    refine ⟨?_, fun z hz => by simp [hz]⟩
    unfold act
    rw [if_neg (by rw [hk]; decide), if_neg (by rw [hk]; decide), if_pos hk]
    split <;> rfl
  · rcases act_or V view n m σ c with e | e
    · exact .inl ⟨e, fun z hz => by
        rcases List.mem_append.1 hz with hz | hz <;> simp [hz]⟩
    · exact .inr ⟨e, fun z hz => by
        rcases List.mem_append.1 hz with hz | hz <;> simp [hz]⟩
  · rcases act_or V view n m σ c with e | e
    · exact .inl ⟨e, fun z hz => by
        rcases List.mem_append.1 hz with hz | hz
        · simp [hz]
        · exact hz⟩
    · exact .inr ⟨e, fun z hz => by simp [hz]⟩

theorem OpRel.away {V : Int} {n i : Nat} {x : UInt8} {nm : Bool} {v : Int} (h : OpRel V n x nm v) (hx : (x.toNat : Int) ≠ 97 + i) : nm = true → v.toNat ≠ i := by
  intro e1 e2
  rcases h with ⟨_, h1, h2, _⟩ | ⟨h1, _⟩
  · omega
  · rw [e1] at h1; cases h1

theorem Does.blind {V : Int} {n i : Nat} {c : Cm} {t a b : List UInt8} (h : Does V n c t a b) (hc : CmOK V n c) (h1 : i < n → ∀ z ∈ t, (z.toNat : Int) ≠ 97 + i) (h2 : n ≤ i → ∀ z ∈ t, (z.toNat : Int) ≠ 108) : BlC n i c := by
  have hv0 := hc.v0
  rcases h with ⟨v, x, o, y, r, rfl, rfl, hk, hv, hx, ho, hy⟩ | ⟨v, x, r, rfl, rfl, hk, hv, hx⟩ | ⟨x, y, r, rfl, rfl, hk, hx, hy⟩ | ⟨x, A, B, r, rfl, rfl, rfl, hk, hx, _, _⟩ | ⟨x, A, r, rfl, rfl, rfl, hk, hx, _⟩
  · exact ⟨fun hi _ e => h1 hi v (by simp) (by omega), fun hi => hx.away (h1 hi x (by simp)), fun hi _ => hy.away (h1 hi y (by simp)), fun _ => by rw [hk]; decide⟩
  · exact ⟨fun hi _ e => h1 hi v (by simp) (by omega), fun hi => hx.away (h1 hi x (by simp)), fun _ hk' => absurd hk' (by rw [hk]; decide), fun hi => absurd rfl (h2 hi 108 (by simp))⟩
  · exact ⟨fun _ hk' => absurd hk' (by rw [hk]; decide), fun hi => hx.away (h1 hi x (by simp)), fun hi _ => hy.away (h1 hi y (by simp)), fun _ => by rw [hk]; decide⟩
  · exact ⟨fun _ hk' => absurd hk' (by rw [hk]; decide), fun hi => hx.away (h1 hi x (by simp)), fun _ hk' => absurd hk' (by rw [hk]; decide), fun _ => by rw [hk]; decide⟩
  · exact ⟨fun _ hk' => absurd hk' (by rw [hk]; decide), fun hi => hx.away (h1 hi x (by simp)), fun _ hk' => absurd hk' (by rw [hk]; decide), fun _ => by rw [hk]; decide⟩

theorem runP_blind {V view : Int} {n m i : Nat} {x y : Int} {cs : List Cm} {κ : Nat → List UInt8} {B : List UInt8} (hcs : CsOK V n cs) (hf : Flow V n cs 0 cs.length κ) (h1 : i < n → ∀ z ∈ B, (z.toNat : Int) ≠ 97 + i) (h2 : n ≤ i → ∀ z ∈ B, (z.toNat : Int) ≠ 108) (f : Nat) :
    ∀ (g p : Nat) (σ τ sn : List Int) (st : Nat), p ≤ cs.length → (∀ z ∈ κ p, z ∈ B) → Br n i x y σ τ →
      ∃ τ', runP V view n m f cs g (p : Int) τ sn st = ⟨(runP V view n m f cs g (p : Int) σ sn st).tag, (runP V view n m f cs g (p : Int) σ sn st).steps, (runP V view n m f cs g (p : Int) σ sn st).sn, τ'⟩ ∧ Br n i x y (runP V view n m f cs g (p : Int) σ sn st).σ τ'
  | 0, p, σ, τ, sn, st, _, _, hb => ⟨τ, rfl, hb⟩
  | g + 1, p, σ, τ, sn, st, hp, hκ, hb => by
    cases hc : cs[(p : Int).toNat]? with
    | none => rw [runP_none _ _ _ _ _ hc, runP_none _ _ _ _ _ hc]; exact ⟨τ, rfl, hb⟩
    | some c =>
      by_cases hfu : f ≤ st
      · rw [runP_dry _ _ _ _ _ hc hfu, runP_dry _ _ _ _ _ hc hfu]; exact ⟨τ, rfl, hb⟩
      · have hpl : p < cs.length := by
          have := (List.getElem?_eq_some_iff.1 hc).1
          simpa using this
        obtain ⟨c', yy, oo, hc', e1, e2, _, hy, _, ho, hd⟩ := hf p (Nat.zero_le _) hpl
        have hcc : c' = c := by
          rw [Int.toNat_natCast, hc'] at hc; exact Option.some.inj hc
        subst hcc
        have hco := (hcs c' (List.mem_of_getElem? hc')).1
        have hbl := hd.blind hco (fun hi z hz => h1 hi z (hκ z hz)) (fun hi z hz => h2 hi z (hκ z hz))
        obtain ⟨a1, a2⟩ := act_blind (view := view) (m := m) hb hco hbl
        by_cases ht : (act V view n m σ c').2.2.1 = true
        · have ht' : (act V view n m τ c').2.2.1 = true := by rw [a1]; exact ht
          rw [runP_trap _ _ _ _ _ hc hfu ht, runP_trap _ _ _ _ _ hc hfu ht', a1]
          exact ⟨_, rfl, a2⟩
        · have ht' : ¬ (act V view n m τ c').2.2.1 = true := by rw [a1]; exact ht
          rw [runP_step _ _ _ _ _ hc hfu ht, runP_step _ _ _ _ _ hc hfu ht', a1]
          rcases hd.next view m σ with ⟨e, hs⟩ | ⟨e, hs⟩
          · rw [e, e1]
            exact runP_blind hcs hf h1 h2 f g yy _ _ _ _ hy (fun z hz => hκ z (hs z hz)) a2
          · rw [e, e2]
            exact runP_blind hcs hf h1 h2 f g oo _ _ _ _ ho (fun z hz => hκ z (hs z hz)) a2
end Go.Proofs.Ytnkbfdbbcaffmaa
