import Derived.Test.YtnkbfdbbcaffmabX28LwE
import Derived.Test.YtnkbfdbbcaffmabX29LnC
import Derived.Test.YtnkbfdbbcaffmabX14Agree2
import Derived.Test.YtnkbfdbbcaffmabX20RunM
/-
  What Lower tells is read as a code. (No walk here.)
-/
namespace Go.Proofs.Ytnkbfdbbcaffmab
open Go.RowKit

section
variable {t : ByteArray} {p : Nat} {V : Int} {n : Nat} {R : List UInt8} {x y : UInt8}

theorem lft_cons (h : Lft t p = x :: R) : p < t.size ∧ pk t p false = (x.toNat : Int) ∧ Lft t (p + 1) = R := by
  have hp : p < t.size := by
    by_cases hp : p < t.size
    · exact hp
    · unfold Lft at h
      rw [List.drop_of_length_le (by rw [← size_list]; omega)] at h
      cases h
  have h2 := h
  unfold Lft at h2 ⊢
  rw [drop_at t p hp] at h2
  simp at h2
  refine ⟨hp, ?_, h2.2⟩
  rw [pk_at t p hp, h2.1]

theorem tk_read (h : Lft t p = x :: R) {c : Int} (hc : (x.toNat : Int) = c) : tk t p false c = (p + 1, false) := by
  obtain ⟨hp, hk, _⟩ := lft_cons h
  unfold tk
  rw [if_neg (by simp), if_pos ⟨by omega, hp⟩]
theorem tb_read (h : Lft t p = x :: R) {lo hi : Int} (h1 : lo ≤ (x.toNat : Int)) (h2 : (x.toNat : Int) ≤ hi) : tb t p false lo hi = (p + 1, false, (x.toNat : Int) - lo) := by
  obtain ⟨hp, hk, _⟩ := lft_cons h
  unfold tb
  rw [hk, if_pos ⟨h1, h2⟩, tk_read h rfl]
theorem opnd_read (h : Lft t p = x :: R) {nm : Bool} {v : Int} (hx : OpRel V n x nm v) : opnd t p false V n = (p + 1, false, nm, v) := by
  obtain ⟨hp, hk, _⟩ := lft_cons h
  unfold opnd
  rw [hk]
  rcases hx with ⟨rfl, h1, h2, h3⟩ | ⟨rfl, h1, h2, h3⟩
  · rw [if_neg (by omega), tb_read h (by omega) (by omega)]
    simp only [Prod.mk.injEq, true_and]
    omega
  · rw [if_pos ⟨h1, h2⟩, tb_read h h1 h2, h3]
theorem opn_read (h : Lft t p = x :: R) (ho : isOp (x.toNat : Int) = true) : opn t p false = (p + 1, false, (x.toNat : Int)) := by
  obtain ⟨hp, hk, _⟩ := lft_cons h
  unfold opn
  rw [hk, if_pos ho, tk_read h rfl]
theorem dgt_read (h : Lft t p = x :: R) {u : Int} (hx : IsHx x u) : dgt t p false = (p + 1, false, u) := by
  obtain ⟨hp, hk, _⟩ := lft_cons h
  unfold dgt
  rw [hk]
  rcases hx with ⟨h1, h2, h3⟩ | ⟨h1, h2, h3⟩
  · rw [if_pos ⟨h1, h2⟩, tb_read h h1 h2, h3]
  · rw [if_neg (by omega), tb_read h h1 h2]
    simp only [Prod.mk.injEq, true_and]
    omega
theorem nmb_read (h : Lft t p = x :: y :: R) {u v : Int} (hx : IsHx x u) (hy : IsHx y v) : nmb t p false = (p + 2, false, u * 16 + v) := by
  have h2 := (lft_cons h).2.2
  unfold nmb
  rw [dgt_read h hx]
  dsimp only
  rw [dgt_read h2 hy]

/-- A line as takeCommand leaves it. -/
def RawL (V : Int) (n : Nat) (c : Cm) (T : List UInt8) : Prop :=
  (∃ v x o y : UInt8, T = [61, v, x, o, y] ∧ c = ⟨61, c.var, c.xn, c.xv, c.op, c.yn, c.yv, 0, 0, 0, 0⟩ ∧ (v.toNat : Int) = 97 + c.var ∧ 0 ≤ c.var ∧ c.var < n ∧ OpRel V n x c.xn c.xv ∧ (o.toNat : Int) = c.op ∧ isOp c.op = true ∧ OpRel V n y c.yn c.yv) ∨
  (∃ v x : UInt8, T = [108, v, x] ∧ c = ⟨108, c.var, c.xn, c.xv, 0, false, 0, 0, 0, 0, 0⟩ ∧ (v.toNat : Int) = 97 + c.var ∧ 0 ≤ c.var ∧ c.var < n ∧ OpRel V n x c.xn c.xv) ∨
  (∃ x y : UInt8, T = [115, x, y] ∧ c = ⟨115, 0, c.xn, c.xv, 0, c.yn, c.yv, 0, 0, 0, 0⟩ ∧ OpRel V n x c.xn c.xv ∧ OpRel V n y c.yn c.yv) ∨
  (∃ (x a b : UInt8) (u v : Int), T = [122, x, a, b] ∧ c = ⟨122, 0, c.xn, c.xv, 0, false, 0, 0, u * 16 + v, 0, 0⟩ ∧ OpRel V n x c.xn c.xv ∧ IsHx a u ∧ IsHx b v) ∨
  (∃ (a b : UInt8) (u v : Int), T = [106, a, b] ∧ c = ⟨106, 0, false, 0, 0, false, 0, u * 16 + v, 0, 0, 0⟩ ∧ IsHx a u ∧ IsHx b v) ∨
  (T = [104] ∧ c = ⟨104, 0, false, 0, 0, false, 0, 0, 0, 0, 0⟩)

theorem tlin_read {c : Cm} {T : List UInt8} (hc : RawL V n c T) (h : Lft t p = T ++ R) : isLn (pk t p false) = true ∧ tlin t p V n (pk t p false) = (p + T.length, false, c) ∧ Lft t (p + T.length) = R := by
  rcases hc with ⟨v, x, o, y, rfl, hcc, hv, hv0, hv1, hx, ho, hio, hy⟩ | ⟨v, x, rfl, hcc, hv, hv0, hv1, hx⟩ | ⟨x, y, rfl, hcc, hx, hy⟩ | ⟨x, a, b, u, v, rfl, hcc, hx, ha, hb⟩ | ⟨a, b, u, v, rfl, hcc, ha, hb⟩ | ⟨rfl, hcc⟩
  · have l0 : Lft t p = 61 :: v :: x :: o :: y :: R := h
    obtain ⟨_, k0, l1⟩ := lft_cons l0
    obtain ⟨_, _, l2⟩ := lft_cons l1
    obtain ⟨_, _, l3⟩ := lft_cons l2
    obtain ⟨_, _, l4⟩ := lft_cons l3
    obtain ⟨_, _, l5⟩ := lft_cons l4
    have k0' : pk t p false = 61 := k0
    rw [k0']
    refine ⟨rfl, ?_, l5⟩
    unfold tlin
    rw [if_pos rfl]
    unfold cmSet
    rw [tb_read l1 (by omega) (by omega)]
    dsimp only
    rw [opnd_read l2 hx]
    dsimp only
    rw [opn_read l3 (by rw [ho]; exact hio)]
    dsimp only
    rw [opnd_read l4 hy, hcc]
    dsimp only
    rw [ho, show (v.toNat : Int) - 97 = c.var from by omega]
    rfl
  · have l0 : Lft t p = 108 :: v :: x :: R := h
    obtain ⟨_, k0, l1⟩ := lft_cons l0
    obtain ⟨_, _, l2⟩ := lft_cons l1
    obtain ⟨_, _, l3⟩ := lft_cons l2
    have k0' : pk t p false = 108 := k0
    rw [k0']
    refine ⟨rfl, ?_, l3⟩
    unfold tlin
    rw [if_neg (by decide), if_pos rfl]
    unfold cmLoad
    rw [tb_read l1 (by omega) (by omega)]
    dsimp only
    rw [opnd_read l2 hx, hcc]
    dsimp only
    rw [show (v.toNat : Int) - 97 = c.var from by omega]
    rfl
  · have l0 : Lft t p = 115 :: x :: y :: R := h
    obtain ⟨_, k0, l1⟩ := lft_cons l0
    obtain ⟨_, _, l2⟩ := lft_cons l1
    obtain ⟨_, _, l3⟩ := lft_cons l2
    have k0' : pk t p false = 115 := k0
    rw [k0']
    refine ⟨rfl, ?_, l3⟩
    unfold tlin
    rw [if_neg (by decide), if_neg (by decide), if_pos rfl]
    unfold cmStore
    rw [opnd_read l1 hx]
    dsimp only
    rw [opnd_read l2 hy, hcc]
    rfl
  · have l0 : Lft t p = 122 :: x :: a :: b :: R := h
    obtain ⟨_, k0, l1⟩ := lft_cons l0
    obtain ⟨_, _, l2⟩ := lft_cons l1
    obtain ⟨_, _, l3⟩ := lft_cons l2
    obtain ⟨_, _, l4⟩ := lft_cons l3
    have k0' : pk t p false = 122 := k0
    rw [k0']
    refine ⟨rfl, ?_, l4⟩
    unfold tlin
    rw [if_neg (by decide), if_neg (by decide), if_neg (by decide), if_pos rfl]
    unfold cmZero
    rw [opnd_read l1 hx]
    dsimp only
    rw [nmb_read l2 ha hb, hcc]
    rfl
  · have l0 : Lft t p = 106 :: a :: b :: R := h
    obtain ⟨_, k0, l1⟩ := lft_cons l0
    obtain ⟨_, _, l2⟩ := lft_cons l1
    obtain ⟨_, _, l3⟩ := lft_cons l2
    have k0' : pk t p false = 106 := k0
    rw [k0']
    refine ⟨rfl, ?_, l3⟩
    unfold tlin
    rw [if_neg (by decide), if_neg (by decide), if_neg (by decide), if_neg (by decide), if_pos rfl]
    unfold cmJump
    rw [nmb_read l1 ha hb, hcc]
    rfl
  · have l0 : Lft t p = 104 :: R := h
    obtain ⟨_, k0, l1⟩ := lft_cons l0
    have k0' : pk t p false = 104 := k0
    rw [k0']
    refine ⟨rfl, ?_, l1⟩
    unfold tlin
    rw [if_neg (by decide), if_neg (by decide), if_neg (by decide), if_neg (by decide), if_neg (by decide), hcc]
    rfl

/-- Lines with their texts. -/
def lcms : List Cm → Nat → List Cm
  | [], _ => []
  | c :: r, j => lcm c j :: lcms r (j + 1)
theorem lcms_get : ∀ (cs : List Cm) (j i : Nat), (lcms cs j)[i]? = (cs[i]?).map fun c => lcm c (j + i)
  | [], j, i => by simp [lcms]
  | c :: r, j, 0 => by simp [lcms]
  | c :: r, j, i + 1 => by
    have := lcms_get r (j + 1) i
    simp only [lcms, List.getElem?_cons_succ, this]
    congr 1
    funext c
    rw [show j + 1 + i = j + (i + 1) from by omega]
theorem lcms_len (cs : List Cm) (j : Nat) : (lcms cs j).length = cs.length := by
  induction cs generalizing j with
  | nil => rfl
  | cons c r ih => simp [lcms, ih]

theorem RawL.pos {c : Cm} {T : List UInt8} (h : RawL V n c T) : 0 < T.length := by
  rcases h with ⟨_, _, _, _, rfl, _⟩ | ⟨_, _, rfl, _⟩ | ⟨_, _, rfl, _⟩ | ⟨_, _, _, _, _, rfl, _⟩ | ⟨_, _, _, _, rfl, _⟩ | ⟨rfl, _⟩ <;> simp

theorem rdL_read : ∀ (ls : List (List UInt8 × Cm)) (p f : Nat) (pre : List Cm), (∀ q ∈ ls, RawL V n q.2 q.1) → Lft t p = (ls.map (·.1)).flatten → p ≤ t.size → t.size - p ≤ f → rdL t V n f ⟨p, false, pre⟩ = ⟨t.size, false, pre ++ lcms (ls.map (·.2)) pre.length⟩
  | [], p, f, pre, _, h, hp, hf => by
    have hpe : p = t.size := by
      unfold Lft at h
      have := congrArg List.length h
      rw [List.length_drop, ← size_list] at this
      simp at this
      omega
    subst hpe
    simp only [List.map_nil, lcms, List.append_nil]
    cases f with
    | zero => rfl
    | succ f => rw [rdL, if_neg (by dsimp only; rw [pk_end t t.size (by omega)]; decide)]
  | (T, c) :: r, p, f, pre, hr, h, hp, hf => by
    have hT := hr (T, c) (List.mem_cons_self ..)
    have hpos := hT.pos
    simp only [List.map_cons, List.flatten_cons] at h
    obtain ⟨k1, k2, k3⟩ := tlin_read hT h
    have hlen : p + T.length ≤ t.size := by
      unfold Lft at h
      have := congrArg List.length h
      rw [List.length_drop, ← size_list, List.length_append] at this
      dsimp only at this hpos
      omega
    dsimp only at k1 k2 k3 hpos hlen
    obtain ⟨f, rfl⟩ : ∃ f', f = f' + 1 := ⟨f - 1, by omega⟩
    rw [rdL, if_pos k1]
    have e : ln1 t V n ⟨p, false, pre⟩ = ⟨p + T.length, false, pre ++ [lcm c pre.length]⟩ := by
      unfold ln1
      dsimp only
      rw [k2]
    rw [e, rdL_read r (p + T.length) f (pre ++ [lcm c pre.length]) (fun q hq => hr q (List.mem_cons_of_mem _ hq)) k3 hlen (by omega)]
    simp [lcms]
end
end Go.Proofs.Ytnkbfdbbcaffmab
/-
  Lines that are read fit.
-/
namespace Go.Proofs.Ytnkbfdbbcaffmab
open Go.RowKit

theorem opOK_zero (V : Int) (n : Nat) (hV : 1 ≤ V) : OpOK V n false (0 : Int).toNat := ⟨fun e => (by cases e), fun _ => by simp; omega⟩

theorem tlin_ok {s : ByteArray} {p : Nat} {V : Int} {n : Nat} {k : Int} (hV : 1 ≤ V) (hp : p < s.size) (hb : (tlin s p V n k).2.1 = false) : CmOK V n (tlin s p V n k).2.2 ∧ 0 ≤ (tlin s p V n k).2.2.yes ∧ 0 ≤ (tlin s p V n k).2.2.no := by
  have hx0 : p + 1 ≤ s.size := hp
  unfold tlin at *
  by_cases k1 : k = 61
  · rw [if_pos k1] at hb ⊢
    unfold cmSet at hb ⊢
    dsimp only at *
    have f1 := tb_fwd s (p + 1) false 97 (97 + (n : Int) - 1) hx0
    have f2 := opnd_fwd s _ (tb s (p + 1) false 97 (97 + (n : Int) - 1)).2.1 V n f1.2.1
    have f3 := opn_fwd s _ (opnd s (tb s (p + 1) false 97 (97 + (n : Int) - 1)).1 (tb s (p + 1) false 97 (97 + (n : Int) - 1)).2.1 V n).2.1 f2.2.1
    have f4 := opnd_fwd s _ (opn s (opnd s (tb s (p + 1) false 97 (97 + (n : Int) - 1)).1 (tb s (p + 1) false 97 (97 + (n : Int) - 1)).2.1 V n).1 (opnd s (tb s (p + 1) false 97 (97 + (n : Int) - 1)).1 (tb s (p + 1) false 97 (97 + (n : Int) - 1)).2.1 V n).2.1).2.1 V n f3.2.1
    have b3 := f4.back hb
    have b2 := f3.back b3
    have b1 := f2.back b2
    have v1 := tb_ok b1
    have x1 := opnd_ok hV b2
    have o1 := opn_ok b3
    have y1 := opnd_ok hV hb
    exact ⟨⟨.inl (by rfl), v1.1, x1.1, y1.1, fun _ => by dsimp only; omega, x1.2, fun _ => y1.2, fun _ => o1⟩, Int.le_refl _, Int.le_refl _⟩
  · rw [if_neg k1] at hb ⊢
    by_cases k2 : k = 108
    · rw [if_pos k2] at hb ⊢
      unfold cmLoad at hb ⊢
      dsimp only at *
      have f1 := tb_fwd s (p + 1) false 97 (97 + (n : Int) - 1) hx0
      have f2 := opnd_fwd s _ (tb s (p + 1) false 97 (97 + (n : Int) - 1)).2.1 V n f1.2.1
      have b1 := f2.back hb
      have v1 := tb_ok b1
      have x1 := opnd_ok hV hb
      exact ⟨⟨.inl (by rfl), v1.1, x1.1, Int.le_refl _, fun _ => by dsimp only; omega, x1.2, fun e => (by rcases e with e | e <;> (dsimp only at e; omega)), fun e => (by dsimp only at e; omega)⟩, Int.le_refl _, Int.le_refl _⟩
    · rw [if_neg k2] at hb ⊢
      by_cases k3 : k = 115
      · rw [if_pos k3] at hb ⊢
        unfold cmStore at hb ⊢
        dsimp only at *
        have f1 := opnd_fwd s (p + 1) false V n hx0
        have f2 := opnd_fwd s _ (opnd s (p + 1) false V n).2.1 V n f1.2.1
        have b1 := f2.back hb
        have x1 := opnd_ok hV b1
        have y1 := opnd_ok hV hb
        exact ⟨⟨.inl (by rfl), Int.le_refl _, x1.1, y1.1, fun e => (by rcases e with e | e <;> (dsimp only at e; omega)), x1.2, fun _ => y1.2, fun e => (by dsimp only at e; omega)⟩, Int.le_refl _, Int.le_refl _⟩
      · rw [if_neg k3] at hb ⊢
        by_cases k4 : k = 122
        · rw [if_pos k4] at hb ⊢
          unfold cmZero at hb ⊢
          dsimp only at *
          have f1 := opnd_fwd s (p + 1) false V n hx0
          have f2 := nmb_fwd s _ (opnd s (p + 1) false V n).2.1 f1.2.1
          have b1 := f2.back hb
          have x1 := opnd_ok hV b1
          have n1 := nmb_bd s (opnd s (p + 1) false V n).1 (opnd s (p + 1) false V n).2.1
          exact ⟨⟨.inr (by rfl), Int.le_refl _, x1.1, Int.le_refl _, fun e => (by rcases e with e | e <;> (dsimp only at e; omega)), x1.2, fun e => (by rcases e with e | e <;> (dsimp only at e; omega)), fun e => (by dsimp only at e; omega)⟩, Int.le_refl _, n1.1⟩
        · rw [if_neg k4] at hb ⊢
          by_cases k5 : k = 106
          · rw [if_pos k5] at hb ⊢
            unfold cmJump at hb ⊢
            dsimp only at *
            have n1 := nmb_bd s (p + 1) false
            exact ⟨⟨.inr (by rfl), Int.le_refl _, Int.le_refl _, Int.le_refl _, fun e => (by rcases e with e | e <;> (dsimp only at e; omega)), opOK_zero V n hV, fun e => (by rcases e with e | e <;> (dsimp only at e; omega)), fun e => (by dsimp only at e; omega)⟩, n1.1, Int.le_refl _⟩
          · rw [if_neg k5]
            unfold cmEnd
            dsimp only at *
            exact ⟨⟨.inr (by rfl), Int.le_refl _, Int.le_refl _, Int.le_refl _, fun e => (by rcases e with e | e <;> (dsimp only at e; omega)), opOK_zero V n hV, fun e => (by rcases e with e | e <;> (dsimp only at e; omega)), fun e => (by dsimp only at e; omega)⟩, Int.le_refl _, Int.le_refl _⟩

section
variable {s : ByteArray} {V : Int} {n : Nat}
theorem ln1_good (hV : 1 ≤ V) {st : PS} (hc : isLn (pk s st.p st.bad) = true) : Good V n st (ln1 s V n st) := by
  obtain ⟨hb0, hp⟩ := isLn_pk hc
  intro hb hcs d hd
  have hd' : d ∈ st.cs ++ [lcm (tlin s st.p V n (pk s st.p st.bad)).2.2 st.cs.length] := hd
  rcases List.mem_append.1 hd' with hd' | hd'
  · exact hcs d hd'
  · simp at hd'
    subst hd'
    obtain ⟨h1, h2, h3⟩ := tlin_ok hV hp hb
    refine ⟨h1.at_ _ _, ?_, h3⟩
    unfold lcm
    dsimp only
    split
    · exact h2
    · omega

theorem rdL_good (hV : 1 ≤ V) : ∀ (f : Nat) (st : PS), Inv s st → lft s st ≤ f → Good V n st (rdL s V n f st)
  | 0, st, _, _ => fun _ h => h
  | f + 1, st, h, hl => by
    unfold rdL
    split
    · rename_i hc
      obtain ⟨nx, lx⟩ := ln1_nxt (hv := V) (hn := (n : Int)) h hc
      have n2 := rdL_nxt s V n f _ nx.2.2 (by omega)
      intro hb hcs
      exact rdL_good hV f _ nx.2.2 (by omega) hb (ln1_good hV hc (n2.1.back hb) hcs)
    · exact fun _ h => h

theorem CsOK.fixE {cs : List Cm} (h : CsOK V n cs) : CsOK V n (fixE cs) := by
  intro d hd
  unfold Proofs.Ytnkbfdbbcaffmab.fixE at hd
  obtain ⟨c, hc, rfl⟩ := List.mem_map.1 hd
  have := h c hc
  unfold fix1
  split
  · exact ⟨this.1.at_ _ _, Int.natCast_nonneg _, this.2.2⟩
  · exact this
end

theorem cod_csok (s : ByteArray) (h : codBad s = false) : CsOK (pw (hdr s).2.2.1) (hdr s).2.2.2.1 (cod s).cs := by
  simp [codBad] at h
  have hV := (pw_bd _ (hdr_wid s).2).1
  have hI2 : Inv s ⟨(hdr s).1, (hdr s).2.1 || !(isLn (pk s (hdr s).1 (hdr s).2.1)), []⟩ := ⟨Nat.zero_le _, hdr_le s⟩
  have := rdL_good (n := (hdr s).2.2.2.1) hV s.size _ hI2 (by unfold lft; split <;> simp) h.1 (fun c hc => by cases hc)
  exact this.fixE

theorem codP_ok {s : ByteArray} (h : (codP s).e = 0) : (codP s).OK := by
  obtain ⟨h1, h2, h3, h4⟩ := cod_ok h
  rw [h4]
  exact ⟨(hdr_wid s).1, (hdr_wid s).2, rfl, hdr_vars s, hdr_words s, cod_csok s h2, by have := cod_len s; dsimp only; omega⟩
end Go.Proofs.Ytnkbfdbbcaffmab
