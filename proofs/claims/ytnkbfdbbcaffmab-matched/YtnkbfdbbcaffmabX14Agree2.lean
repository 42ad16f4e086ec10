import Derived.Test.YtnkbfdbbcaffmabX13Flow
/-
  The reader's answer is the document's: bodies, and the whole. (No walk here.)
-/
namespace Go.Proofs.Ytnkbfdbbcaffmab
open Go.RowKit

section
variable {s : ByteArray} {n hv : Int}

/-- A body is read from p on. -/
def Bd (s : ByteArray) (n : Int) (p : Nat) (a : Bool) (q : Nat) (b : Bool) : Prop :=
  (a = true → q = p ∧ b = true) ∧ (a = false → ∀ φ, Sh s n p (66 :: φ) = if b = true then some q else Sh s n q (66 :: φ)) ∧ (a = false → b = false → isCmd (pk s q false) = false)

theorem Bd.close {p q r : Nat} {a b c : Bool} (h : Bd s n p a q b) (k : Ex s n [41] q b r c) : Ex s n (66 :: [41]) p a r c := by
  refine ⟨fun e => ?_, fun e φ => ?_⟩
  · obtain ⟨h1, h2⟩ := h.1 e
    obtain ⟨h3, h4⟩ := k.1 h2
    exact ⟨h3.trans h1, h4⟩
  · have h1 := h.2.1 e (41 :: φ)
    show Sh s n p (66 :: 41 :: φ) = _
    rw [h1]
    cases b with
    | true =>
      obtain ⟨h3, h4⟩ := k.1 rfl
      rw [h3, h4]; rfl
    | false =>
      rw [if_neg (by simp), Sh_skip (by simp [plainB]) (h.2.2 e rfl)]
      exact k.2 rfl φ

theorem blk_ex {rdb : PS → PS} {N : Nat} (hr : ∀ st, Inv s st → lft s st ≤ N → Bd s n st.p st.bad (rdb st).p (rdb st).bad) {st : PS} (h : Inv s st) (hl : lft s st ≤ N) :
    Ex s n [40, 66, 41] st.p st.bad (blk rdb s st).p (blk rdb s st).bad := by
  unfold blk
  have h1 := nxt_tk h 40
  have h2 := hr _ h1.2.2 (Nat.le_trans h1.lft hl)
  have e1 : Ex s n [40] st.p st.bad (tk s st.p st.bad 40).1 (tk s st.p st.bad 40).2 := ex_sign (x := 40) (by simp)
  exact Ex.seq e1 (h2.close (ex_sign (x := 41) (by simp)))

/-- A command's own bytes behind the first. -/
theorem tcmd_ex (p : Nat) (k : Int) :
    Ex s n (if k = 61 then [118, 120, 111, 120] else if k = 108 then [118, 120] else if k = 115 then [120, 120] else [120]) (p + 1) false (tcmd s p hv n k).1 (tcmd s p hv n k).2.1 := by
  unfold tcmd
  by_cases h1 : k = 61
  · rw [if_pos h1, if_pos h1]
    exact Ex.seq ex_var (Ex.seq ex_opnd (Ex.seq ex_opn ex_opnd))
  · rw [if_neg h1, if_neg h1]
    by_cases h2 : k = 108
    · rw [if_pos h2, if_pos h2]
      exact Ex.seq ex_var ex_opnd
    · rw [if_neg h2, if_neg h2]
      by_cases h3 : k = 115
      · rw [if_pos h3, if_pos h3]
        exact Ex.seq ex_opnd ex_opnd
      · rw [if_neg h3, if_neg h3]
        exact ex_opnd

theorem step_ex {rdb : PS → PS} {N : Nat} (hr : ∀ st, Inv s st → lft s st ≤ N → Bd s n st.p st.bad (rdb st).p (rdb st).bad) (hn : ∀ st, Inv s st → lft s st ≤ N → Nxt s st (rdb st)) {st : PS} (h : Inv s st) (hl : lft s st ≤ N + 1) (hc : isCmd (pk s st.p st.bad) = true) :
    Ex s n (opS (pk s st.p st.bad)) (st.p + 1) false (cmdStep rdb s hv n st).p (cmdStep rdb s hv n st).bad := by
  obtain ⟨i1, _, _, l1⟩ := ps1_nxt (hv := hv) (hn := n) h hc
  have t := tcmd_ex (s := s) (n := n) (hv := hv) st.p (pk s st.p st.bad)
  unfold cmdStep
  by_cases k63 : pk s st.p st.bad = 63
  · rw [if_pos k63]
    have a := blk_ex hr i1 (by omega)
    have na := blk_nxt hn i1 (by omega)
    have c := blk_ex hr na.2.2 (by have := na.lft; omega)
    rw [k63] at t ⊢
    have t2 : Ex s n [120] (st.p + 1) false (ps1 s hv n st).p (ps1 s hv n st).bad := by
      unfold ps1; rw [k63]; simpa using t
    exact Ex.seq t2 (Ex.seq a c)
  · rw [if_neg k63]
    by_cases k33 : pk s st.p st.bad = 33
    · rw [if_pos k33]
      have a := blk_ex hr i1 (by omega)
      rw [k33] at t ⊢
      have t2 : Ex s n [120] (st.p + 1) false (ps1 s hv n st).p (ps1 s hv n st).bad := by
        unfold ps1; rw [k33]; simpa using t
      exact Ex.seq t2 a
    · rw [if_neg k33]
      have e : opS (pk s st.p st.bad) = (if pk s st.p st.bad = 61 then [118, 120, 111, 120] else if pk s st.p st.bad = 108 then [118, 120] else if pk s st.p st.bad = 115 then [120, 120] else [120]) := by
        simp [isCmd] at hc
        unfold opS
        split
        · rfl
        · split
          · rfl
          · split
            · rfl
            · omega
      rw [e]
      exact t

theorem rdB_bd : ∀ (f : Nat) (st : PS), Inv s st → lft s st ≤ f → Bd s n st.p st.bad (rdB s hv n f st).p (rdB s hv n f st).bad
  | 0, st, h, hl => by
    unfold rdB
    refine ⟨fun e => ⟨rfl, e⟩, fun e φ => by rw [e]; simp, fun e _ => ?_⟩
    unfold lft at hl
    rw [e] at hl
    simp at hl
    rw [pk_end s st.p (by omega)]
    rfl
  | f + 1, st, h, hl => by
    unfold rdB
    by_cases hc : isCmd (pk s st.p st.bad) = true
    · rw [if_pos hc]
      obtain ⟨hb, hp⟩ := isCmd_pk hc
      have hrn : ∀ st, Inv s st → lft s st ≤ f → Nxt s st (rdB s hv n f st) := rdB_nxt s hv n f
      have hrb : ∀ st, Inv s st → lft s st ≤ f → Bd s n st.p st.bad (rdB s hv n f st).p (rdB s hv n f st).bad := rdB_bd f
      have x := step_ex (hv := hv) hrb hrn h hl hc
      obtain ⟨nx, lx⟩ := step_nxt (hv := hv) (hn := n) hrn h hl hc
      have y := hrb _ nx.2.2 (by omega)
      generalize cmdStep (rdB s hv n f) s hv n st = st1 at *
      generalize rdB s hv n f st1 = st2 at *
      refine ⟨fun e => (by rw [hb] at e; cases e), fun _ φ => ?_, fun _ e2 => ?_⟩
      · rw [hb] at hc x
        rw [Sh_open hc, x.2 rfl]
        cases hb1 : st1.bad with
        | true =>
          obtain ⟨y1, y2⟩ := y.1 hb1
          rw [y1, y2]
        | false =>
          rw [if_neg (by simp)]
          exact y.2.1 hb1 φ
      · cases hb1 : st1.bad with
        | true =>
          obtain ⟨_, y2⟩ := y.1 hb1
          rw [y2] at e2; cases e2
        | false => exact y.2.2 hb1 e2
    · rw [if_neg hc]
      refine ⟨fun e => ⟨rfl, e⟩, fun e φ => by rw [e]; simp, fun e _ => ?_⟩
      rw [e] at hc
      simpa using hc
end

theorem kernF_eq : kernF = ([87] ++ ((107 :: (List.replicate 7 75 ++ [47])) ++ (List.replicate 16 75 ++ [58]))) ++ [66] := rfl

theorem shape_kernel (s : ByteArray) : shL (nvar s) s.data.toList kernF = if krnBad s = true then some (krn s).p else none := by
  have e0 : shL (nvar s) s.data.toList kernF = Sh s (nvar s) 0 kernF := by
    unfold Sh
    simp
  rw [e0, kernF_eq, (ex_head (s := s) (n := nvar s)).2 rfl [66]]
  unfold krnBad
  cases hb : (hdr s).2.1 with
  | true =>
    rw [if_pos rfl]
    have hI : Inv s ⟨(hdr s).1, (hdr s).2.1, []⟩ := ⟨Nat.zero_le _, hdr_le s⟩
    have hl : lft s ⟨(hdr s).1, (hdr s).2.1, []⟩ ≤ s.size := by unfold lft; split <;> simp
    have hn := rdB_nxt s (pw (hdr s).2.2.1) (hdr s).2.2.2.1 s.size _ hI hl
    obtain ⟨h1, h2⟩ := hn.1.2.2 hb
    have h1' : (krn s).p = (hdr s).1 := h1
    have h2' : (krn s).bad = true := h2
    rw [h2', h1']; rfl
  | false =>
    rw [if_neg (by simp)]
    have hI : Inv s ⟨(hdr s).1, (hdr s).2.1, []⟩ := ⟨Nat.zero_le _, hdr_le s⟩
    have hl : lft s ⟨(hdr s).1, (hdr s).2.1, []⟩ ≤ s.size := by unfold lft; split <;> simp
    have hv := nvar_head hb
    have bd := rdB_bd (n := nvar s) (hv := pw (hdr s).2.2.1) s.size _ hI hl
    rw [hv] at bd ⊢
    have bd' : Bd s (hdr s).2.2.2.1 (hdr s).1 (hdr s).2.1 (krn s).p (krn s).bad := bd
    rw [hb] at bd'
    rw [bd'.2.1 rfl []]
    cases hk : (krn s).bad with
    | true => simp
    | false =>
      rw [if_neg (by simp), Sh_last (bd'.2.2 rfl hk)]
      simp

/-- Check answers as the document's does. -/
theorem chk_eq (s : ByteArray) : chk s = rchk s := by
  unfold chk rchk
  split
  · rfl
  · rw [shape_kernel]
    split
    · rfl
    · rfl
end Go.Proofs.Ytnkbfdbbcaffmab
/-
  What a good head says.
-/
namespace Go.Proofs.Ytnkbfdbbcaffmab
open Go.RowKit

section
variable {s : ByteArray}

theorem head_facts (h : (hdr s).2.1 = false) : ∃ h0 : 0 < s.size, (s[0].toNat : Int) = 48 + (hdr s).2.2.1 ∧ fnd s 47 s.size 0 = 1 + (hdr s).2.2.2.1 ∧ fnd s 58 s.size 0 = 2 + (hdr s).2.2.2.1 + (hdr s).2.2.2.2 ∧ (hdr s).1 = 3 + (hdr s).2.2.2.1 + (hdr s).2.2.2.2 ∧ 3 + (hdr s).2.2.2.1 + (hdr s).2.2.2.2 ≤ s.size ∧ 1 ≤ (hdr s).2.2.2.1 := by
  have hv := nvar_head h
  unfold nvar at hv
  generalize fnd s 47 s.size 0 = q at *
  unfold hdr at *
  dsimp only at *
  obtain ⟨h1, g1, g2, g3⟩ := tk_good h
  obtain ⟨h2, h3, h4, h7⟩ := tk_good h1
  simp only [Bool.or_eq_false_iff] at h2
  obtain ⟨h5, h6⟩ := h2
  obtain ⟨_, t1, x, t2, t3, t4, t5⟩ := tb_eat h5
  have h0 : 0 < s.size := by omega
  have t6 : s[0] = x := by
    have := drop_at s 0 h0
    have e : Lft s 0 = s[0] :: s.data.toList.drop (0 + 1) := this
    rw [t2] at e
    exact (List.cons.inj e).1.symm
  rw [h5, t1] at h3 h4 h6 h7 hv
  rw [h5, t1, h7] at g1 g2 g3
  rw [h5, t1] at h1
  rw [h1] at g1 g2 g3
  rw [h5, t1, h7]
  simp only [Nat.zero_add] at *
  rw [h1, g3]
  generalize hn : cnt s false 8 1 = n at *
  generalize hm : cnt s false 16 (1 + n + 1) = m at *
  have hl : ∀ j, j < n + m + 2 → pk s (0 + j) false ≠ 58 ∧ 0 + j < s.size := by
    intro j hj
    rw [Nat.zero_add]
    refine ⟨?_, by omega⟩
    by_cases j0 : j = 0
    · subst j0
      rw [pk_at s 0 h0, t6]; omega
    · by_cases j1 : j < n + 1
      · have := cnt_letter (s := s) 8 1 (j - 1) (by omega)
        rw [show 1 + (j - 1) = j from by omega] at this
        omega
      · by_cases j2 : j = 1 + n
        · rw [j2, h4]; decide
        · have := cnt_letter (s := s) 16 (1 + n + 1) (j - (1 + n + 1)) (by omega)
          rw [show 1 + n + 1 + (j - (1 + n + 1)) = j from by omega] at this
          omega
  have hf := fnd_skip (s := s) 58 (s.size - (n + m + 2)) (n + m + 2) 0 hl
  rw [show s.size - (n + m + 2) + (n + m + 2) = s.size from by omega] at hf
  obtain ⟨f, hf2⟩ : ∃ f, s.size - (n + m + 2) = f + 1 := ⟨s.size - (n + m + 2) - 1, by omega⟩
  have hp : 0 + (n + m + 2) < s.size := by omega
  refine ⟨h0, by rw [t6]; omega, by omega, ?_, by omega, by omega, ?_⟩
  · rw [hf, hf2, fnd, dif_pos hp, if_pos]
    · omega
    · rw [← pk_at s _ hp, ← g2]; congr 1; omega
  · simp at h6; omega
end

theorem act_or (V view : Int) (n m : Nat) (σ : List Int) (c : Cm) : (act V view n m σ c).2.2.2 = c.yes ∨ (act V view n m σ c).2.2.2 = c.no := by
  unfold act
  split
  · exact .inl rfl
  · split
    · split <;> exact .inl rfl
    · split
      · split <;> exact .inl rfl
      · split
        · exact .inl rfl
        · dsimp only
          split
          · exact .inr rfl
          · exact .inl rfl

theorem krn_head {s : ByteArray} (h : krnBad s = false) : (hdr s).2.1 = false := by
  simp [krnBad] at h
  have := rdB_nxt s (pw (hdr s).2.2.1) (hdr s).2.2.2.1 s.size ⟨(hdr s).1, (hdr s).2.1, []⟩ ⟨Nat.zero_le _, hdr_le s⟩ (by unfold lft; split <;> simp)
  exact this.1.back h.1

theorem Does.pos {V : Int} {n : Nat} {c : Cm} {t a b : List UInt8} (h : Does V n c t a b) : 0 < t.length := by
  rcases h with ⟨_, _, _, _, _, rfl, _⟩ | ⟨_, _, _, rfl, _⟩ | ⟨_, _, _, rfl, _⟩ | ⟨_, _, _, _, rfl, _⟩ | ⟨_, _, _, rfl, _⟩ <;> simp
end Go.Proofs.Ytnkbfdbbcaffmab
