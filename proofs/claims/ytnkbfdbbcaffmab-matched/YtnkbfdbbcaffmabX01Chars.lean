import Derived.Test.YtnkbfdbbcaffmabX00Base
/-
  isCommand, isOperation; takeVariable, takeOperand, takeOperation, takeLetters.
-/
namespace Go.Proofs.Ytnkbfdbbcaffmab
open Go.RowKit

/-- A byte that a command begins with. -/
def isCmd (c : Int) : Bool := c == 61 || c == 108 || c == 115 || c == 63 || c == 33
/-- A byte that is an operation. -/
def isOp (c : Int) : Bool := c == 43 || c == 45 || c == 38 || c == 124 || c == 94 || c == 60 || c == 61 || c == 85 || c == 68 || c == 47 || c == 37

/-- A byte that a line begins with. -/
def isLn (c : Int) : Bool := c == 61 || c == 108 || c == 115 || c == 122 || c == 106 || c == 104

set_option maxHeartbeats 400000 in
theorem isLine_any (c : Int) (w : World) :
    Calls Try.prog 63 #[.int .u8 c] w fun e w' => e = .returned (.bool (isLn c)) ∧ w' = w := by
  generalize hr : isLn c = r
  have Hr := hide hr
  clear hr
  go_enter Try.func63, Try.ntmps63
  go_wp2
  all_goals
    go_ret
    refine ⟨?_, rfl⟩
    rw [← unhide Hr]
    simp_all [isLn]

set_option maxHeartbeats 400000 in
theorem isCommand_any (c : Int) (w : World) :
    Calls Try.prog 54 #[.int .u8 c] w fun e w' => e = .returned (.bool (isCmd c)) ∧ w' = w := by
  generalize hr : isCmd c = r
  have Hr := hide hr
  clear hr
  go_enter Try.func54, Try.ntmps54
  go_wp2
  all_goals
    go_ret
    refine ⟨?_, rfl⟩
    rw [← unhide Hr]
    simp_all [isCmd]

set_option maxHeartbeats 800000 in
theorem isOperation_any (c : Int) (w : World) :
    Calls Try.prog 106 #[.int .u8 c] w fun e w' => e = .returned (.bool (isOp c)) ∧ w' = w := by
  generalize hr : isOp c = r
  have Hr := hide hr
  clear hr
  go_enter Try.func106, Try.ntmps106
  go_wp2
  all_goals
    go_ret
    refine ⟨?_, rfl⟩
    rw [← unhide Hr]
    simp_all [isOp]

section
variable {w : World} {b : Nat} {s : ByteArray} {p : Nat} {bad : Bool} {ht : ByteArray} {hw hv hn hm : Int} {cv : Value}

set_option maxHeartbeats 400000 in
theorem takeVariable_any (hR : Rd w b s p bad ht hw hv hn hm cv) (hs : s.size ≤ maxLen) (h0 : 0 ≤ hn) (h1 : hn ≤ 8) :
    Calls Try.prog 83 #[.pointer (some ⟨b, 0, none⟩)] w fun e w' => e = .returned (.int .i64 (tb s p bad 97 (97 + hn - 1)).2.2) ∧ Rd w' b s (tb s p bad 97 (97 + hn - 1)).1 (tb s p bad 97 (97 + hn - 1)).2.1 ht hw hv hn hm cv ∧ w.grownBy w' (some b) := by
  have c5 := hR.cell 6
  simp at c5
  generalize hq : tb s p bad 97 (97 + hn - 1) = q
  have Hq := hide hq
  clear hq
  go_enter Try.func83, Try.ntmps83
  go_wp2_with fail
  refine (takeBetween_any hR hs 97 (97 + hn - 1) (by omega) (by omega) (by omega) (by omega)).mono ?_
  rintro e w2 ⟨rfl, hR2, hg⟩
  rw [unhide Hq] at hR2 ⊢
  go_wp2_with fail
  go_ret
  exact ⟨rfl, hR2, hg⟩

/-- What 'takeOperand' makes of place and mark; is it a name; the number. -/
def opnd (s : ByteArray) (p : Nat) (bad : Bool) (hv hn : Int) : Nat × Bool × Bool × Int :=
  if 48 ≤ pk s p bad ∧ pk s p bad ≤ 57 then ((tb s p bad 48 57).1, (tb s p bad 48 57).2.1, false, (tb s p bad 48 57).2.2 % hv)
  else ((tb s p bad 97 (97 + hn - 1)).1, (tb s p bad 97 (97 + hn - 1)).2.1, true, (tb s p bad 97 (97 + hn - 1)).2.2)

theorem tb_num (s : ByteArray) (p : Nat) (bad : Bool) (lo hi : Int) : 0 ≤ (tb s p bad lo hi).2.2 ∧ (tb s p bad lo hi).2.2 ≤ 255 + (if lo < 0 then -lo else 0) := by
  have := pk_range s p bad
  unfold tb
  split
  · dsimp only; split <;> omega
  · dsimp only; split <;> omega

set_option maxHeartbeats 400000 in
theorem takeOperand_any (hR : Rd w b s p bad ht hw hv hn hm cv) (hs : s.size ≤ maxLen) (h0 : 0 ≤ hn) (h1 : hn ≤ 8) (h2 : 1 ≤ hv) (h3 : hv ≤ 256) :
    Calls Try.prog 84 #[.pointer (some ⟨b, 0, none⟩)] w fun e w' => e = .returned (.agg #[.bool (opnd s p bad hv hn).2.2.1, .int .i64 (opnd s p bad hv hn).2.2.2]) ∧ Rd w' b s (opnd s p bad hv hn).1 (opnd s p bad hv hn).2.1 ht hw hv hn hm cv ∧ w.grownBy w' (some b) := by
  have hr := pk_range s p bad
  generalize hk : pk s p bad = k at *
  have Hk := hide hk
  clear hk
  obtain ⟨hr1, hr2⟩ := hr
  have hR1 : ∀ o, Rd (w.alloc o) b s p bad ht hw hv hn hm cv := fun o => At.alloc hR o
  by_cases hd : 48 ≤ k ∧ k ≤ 57
  · obtain ⟨hd1, hd2⟩ := hd
    have ht : opnd s p bad hv hn = ((tb s p bad 48 57).1, (tb s p bad 48 57).2.1, false, (tb s p bad 48 57).2.2 % hv) := by unfold opnd; rw [unhide Hk, if_pos ⟨hd1, hd2⟩]
    rw [ht]; clear ht
    have hb := tb_num s p bad 48 57
    simp at hb
    obtain ⟨hb1, hb2⟩ := hb
    generalize hq : tb s p bad 48 57 = q at *
    have Hq := hide hq
    clear hq
    go_enter Try.func84, Try.ntmps84
    go_wp2_with fail
    refine (peek_any (hR1 _) hs).mono ?_
    rintro e w' ⟨rfl, n, rfl⟩
    rw [unhide Hk]
    go_wp2_with fail
    refine (takeBetween_any (Rd.drewN (hR1 _) n) hs 48 57 (by omega) (by omega) (by omega) (by omega)).mono ?_
    rintro e w2 ⟨rfl, hR2, hg⟩
    rw [unhide Hq] at hR2 ⊢
    have c4 := hR2.cell 5
    simp at c4
    have hA : At w2 w.heap.size _ _ := At.grown (At.drewN (At.new w _ _) n) hg (by have := At.lt hR; simp; omega)
    have r0 := hA.cell 0
    have r1 := hA.cell 1
    have g0 := hA.frozen 0
    have g1 := hA.frozen 1
    simp at r0 r1
    go_wp2_with fail
    refine bodyPost_ret (v := .agg #[.bool false, .int .i64 (q.2.2 % hv)]) (by simp [results, Try.results84, go_sem, r0, r1]) rfl ⟨rfl, ?_, ?_⟩
    · exact At.other (At.other hR2 _ (by have := At.lt hR; simp; omega)) _ (by have := At.lt hR; simp; omega)
    · exact gb_set (gb_set (gb_trans (gb_drewN (gb_alloc (gb_refl _ _) _) _) hg) _ (.inr (Nat.le_refl _))) _ (.inr (Nat.le_refl _))
  · have ht : opnd s p bad hv hn = ((tb s p bad 97 (97 + hn - 1)).1, (tb s p bad 97 (97 + hn - 1)).2.1, true, (tb s p bad 97 (97 + hn - 1)).2.2) := by unfold opnd; rw [unhide Hk, if_neg hd]
    rw [ht]; clear ht
    generalize hq : tb s p bad 97 (97 + hn - 1) = q
    have Hq := hide hq
    clear hq
    by_cases hk1 : k < 48
    · clear hd
      go_enter Try.func84, Try.ntmps84
      go_wp2_with fail
      refine (peek_any (hR1 _) hs).mono ?_
      rintro e w' ⟨rfl, n, rfl⟩
      rw [unhide Hk]
      go_wp2_with fail
      refine (takeVariable_any (Rd.drewN (hR1 _) n) hs h0 h1).mono ?_
      rintro e w2 ⟨rfl, hR2, hg⟩
      rw [unhide Hq] at hR2 ⊢
      have hA : At w2 w.heap.size _ _ := At.grown (At.drewN (At.new w _ _) n) hg (by have := At.lt hR; simp; omega)
      have r0 := hA.cell 0
      have r1 := hA.cell 1
      have g0 := hA.frozen 0
      have g1 := hA.frozen 1
      simp at r0 r1
      go_wp2_with fail
      refine bodyPost_ret (v := .agg #[.bool true, .int .i64 q.2.2]) (by simp [results, Try.results84, go_sem, r0, r1]) rfl ⟨rfl, ?_, ?_⟩
      · exact At.other (At.other hR2 _ (by have := At.lt hR; simp; omega)) _ (by have := At.lt hR; simp; omega)
      · exact gb_set (gb_set (gb_trans (gb_drewN (gb_alloc (gb_refl _ _) _) _) hg) _ (.inr (Nat.le_refl _))) _ (.inr (Nat.le_refl _))
    · have hk2 : 57 < k := by omega
      clear hd
      go_enter Try.func84, Try.ntmps84
      go_wp2_with fail
      refine (peek_any (hR1 _) hs).mono ?_
      rintro e w' ⟨rfl, n, rfl⟩
      rw [unhide Hk]
      go_wp2_with fail
      refine (takeVariable_any (Rd.drewN (hR1 _) n) hs h0 h1).mono ?_
      rintro e w2 ⟨rfl, hR2, hg⟩
      rw [unhide Hq] at hR2 ⊢
      have hA : At w2 w.heap.size _ _ := At.grown (At.drewN (At.new w _ _) n) hg (by have := At.lt hR; simp; omega)
      have r0 := hA.cell 0
      have r1 := hA.cell 1
      have g0 := hA.frozen 0
      have g1 := hA.frozen 1
      simp at r0 r1
      go_wp2_with fail
      refine bodyPost_ret (v := .agg #[.bool true, .int .i64 q.2.2]) (by simp [results, Try.results84, go_sem, r0, r1]) rfl ⟨rfl, ?_, ?_⟩
      · exact At.other (At.other hR2 _ (by have := At.lt hR; simp; omega)) _ (by have := At.lt hR; simp; omega)
      · exact gb_set (gb_set (gb_trans (gb_drewN (gb_alloc (gb_refl _ _) _) _) hg) _ (.inr (Nat.le_refl _))) _ (.inr (Nat.le_refl _))

/-- What 'takeOperation' makes of place and mark, and what it tells. -/
def opn (s : ByteArray) (p : Nat) (bad : Bool) : Nat × Bool × Int :=
  if isOp (pk s p bad) then ((tk s p bad (pk s p bad)).1, (tk s p bad (pk s p bad)).2, pk s p bad) else (p, true, 0)

set_option maxHeartbeats 400000 in
theorem takeOperation_any (hR : Rd w b s p bad ht hw hv hn hm cv) (hs : s.size ≤ maxLen) :
    Calls Try.prog 85 #[.pointer (some ⟨b, 0, none⟩)] w fun e w' => e = .returned (.int .u8 (opn s p bad).2.2) ∧ Rd w' b s (opn s p bad).1 (opn s p bad).2.1 ht hw hv hn hm cv ∧ w.grownBy w' (some b) := by
  generalize hk : pk s p bad = k
  have Hk := hide hk
  clear hk
  cases ho : isOp k with
  | true =>
    have Ho := hide ho
    clear ho
    have ht : opn s p bad = ((tk s p bad k).1, (tk s p bad k).2, k) := by unfold opn; rw [unhide Hk, if_pos (unhide Ho)]
    rw [ht]; clear ht
    generalize hq : tk s p bad k = q
    have Hq := hide hq
    clear hq
    go_enter Try.func85, Try.ntmps85
    go_wp2_with fail
    refine (peek_any hR hs).mono ?_
    rintro e w' ⟨rfl, n, rfl⟩
    rw [unhide Hk]
    go_wp2_with fail
    refine (isOperation_any _ _).mono ?_
    rintro e w' ⟨rfl, rfl⟩
    rw [unhide Ho]
    go_wp2_with fail
    refine (take_any (Rd.drewN hR n) hs k).mono ?_
    rintro e w2 ⟨rfl, hR2, hg⟩
    rw [unhide Hq] at hR2
    go_wp2_with fail
    go_ret
    exact ⟨rfl, hR2, gb_trans (gb_drewN (gb_refl _ _) _) hg⟩
  | false =>
    have Ho := hide ho
    clear ho
    have ht : opn s p bad = (p, true, 0) := by unfold opn; rw [unhide Hk, unhide Ho]; rfl
    rw [ht]; clear ht
    have f2 := hR.frozen 2
    have c2 := hR.cell 2
    simp at c2
    go_enter Try.func85, Try.ntmps85
    go_wp2_with fail
    refine (peek_any hR hs).mono ?_
    rintro e w' ⟨rfl, n, rfl⟩
    rw [unhide Hk]
    go_wp2_with fail
    refine (isOperation_any _ _).mono ?_
    rintro e w' ⟨rfl, rfl⟩
    rw [unhide Ho]
    go_wp2_with fail
    go_ret
    exact ⟨rfl, Rd.setBad (Rd.drewN hR _), gb_set (gb_drewN (gb_refl _ _) _) _ (.inl rfl)⟩

/-- What 'takeDigit' makes of place and mark, and what it tells. -/
def dgt (s : ByteArray) (p : Nat) (bad : Bool) : Nat × Bool × Int :=
  if 48 ≤ pk s p bad ∧ pk s p bad ≤ 57 then ((tb s p bad 48 57).1, (tb s p bad 48 57).2.1, (tb s p bad 48 57).2.2) else ((tb s p bad 97 102).1, (tb s p bad 97 102).2.1, 10 + (tb s p bad 97 102).2.2)

theorem tb_top (s : ByteArray) (p : Nat) (bad : Bool) (lo hi : Int) (h : lo ≤ hi) : 0 ≤ (tb s p bad lo hi).2.2 ∧ (tb s p bad lo hi).2.2 ≤ hi - lo := by
  unfold tb
  split
  · dsimp only; omega
  · dsimp only; omega
theorem dgt_bd (s : ByteArray) (p : Nat) (bad : Bool) : 0 ≤ (dgt s p bad).2.2 ∧ (dgt s p bad).2.2 ≤ 15 := by
  have h1 := tb_top s p bad 48 57 (by omega)
  have h2 := tb_top s p bad 97 102 (by omega)
  unfold dgt
  split
  · dsimp only; omega
  · dsimp only; omega

set_option maxHeartbeats 400000 in
theorem takeDigit_any (hR : Rd w b s p bad ht hw hv hn hm cv) (hs : s.size ≤ maxLen) :
    Calls Try.prog 107 #[.pointer (some ⟨b, 0, none⟩)] w fun e w' => e = .returned (.int .i64 (dgt s p bad).2.2) ∧ Rd w' b s (dgt s p bad).1 (dgt s p bad).2.1 ht hw hv hn hm cv ∧ w.grownBy w' (some b) := by
  have hr := pk_range s p bad
  generalize hk : pk s p bad = k at *
  have Hk := hide hk
  clear hk
  obtain ⟨hr1, hr2⟩ := hr
  by_cases hd : 48 ≤ k ∧ k ≤ 57
  · obtain ⟨hd1, hd2⟩ := hd
    have ht' : dgt s p bad = ((tb s p bad 48 57).1, (tb s p bad 48 57).2.1, (tb s p bad 48 57).2.2) := by unfold dgt; rw [unhide Hk, if_pos ⟨hd1, hd2⟩]
    rw [ht']; clear ht'
    have hb := tb_top s p bad 48 57 (by omega)
    obtain ⟨hb1, hb2⟩ := hb
    generalize hq : tb s p bad 48 57 = q at *
    have Hq := hide hq
    clear hq
    go_enter Try.func107, Try.ntmps107
    go_wp2_with fail
    refine (peek_any hR hs).mono ?_
    rintro e w' ⟨rfl, n, rfl⟩
    rw [unhide Hk]
    go_wp2_with fail
    refine (takeBetween_any (Rd.drewN hR n) hs 48 57 (by omega) (by omega) (by omega) (by omega)).mono ?_
    rintro e w2 ⟨rfl, hR2, hg⟩
    rw [unhide Hq] at hR2 ⊢
    go_wp2_with fail
    go_ret
    exact ⟨rfl, hR2, gb_trans (gb_drewN (gb_refl _ _) _) hg⟩
  · have ht' : dgt s p bad = ((tb s p bad 97 102).1, (tb s p bad 97 102).2.1, 10 + (tb s p bad 97 102).2.2) := by unfold dgt; rw [unhide Hk, if_neg hd]
    rw [ht']; clear ht'
    have hb := tb_top s p bad 97 102 (by omega)
    obtain ⟨hb1, hb2⟩ := hb
    generalize hq : tb s p bad 97 102 = q at *
    have Hq := hide hq
    clear hq
    by_cases hk1 : 48 ≤ k
    · have hk2 : 57 < k := by omega
      clear hd
      go_enter Try.func107, Try.ntmps107
      go_wp2_with fail
      refine (peek_any hR hs).mono ?_
      rintro e w' ⟨rfl, n, rfl⟩
      rw [unhide Hk]
      go_wp2_with fail
      refine (takeBetween_any (Rd.drewN hR n) hs 97 102 (by omega) (by omega) (by omega) (by omega)).mono ?_
      rintro e w2 ⟨rfl, hR2, hg⟩
      rw [unhide Hq] at hR2 ⊢
      go_wp2_with fail
      go_ret
      exact ⟨rfl, hR2, gb_trans (gb_drewN (gb_refl _ _) _) hg⟩
    · clear hd
      go_enter Try.func107, Try.ntmps107
      go_wp2_with fail
      refine (peek_any hR hs).mono ?_
      rintro e w' ⟨rfl, n, rfl⟩
      rw [unhide Hk]
      go_wp2_with fail
      refine (takeBetween_any (Rd.drewN hR n) hs 97 102 (by omega) (by omega) (by omega) (by omega)).mono ?_
      rintro e w2 ⟨rfl, hR2, hg⟩
      rw [unhide Hq] at hR2 ⊢
      go_wp2_with fail
      go_ret
      exact ⟨rfl, hR2, gb_trans (gb_drewN (gb_refl _ _) _) hg⟩

/-- What 'takeNumber' makes of place and mark, and what it tells. -/
def nmb (s : ByteArray) (p : Nat) (bad : Bool) : Nat × Bool × Int :=
  ((dgt s (dgt s p bad).1 (dgt s p bad).2.1).1, (dgt s (dgt s p bad).1 (dgt s p bad).2.1).2.1, (dgt s p bad).2.2 * 16 + (dgt s (dgt s p bad).1 (dgt s p bad).2.1).2.2)

theorem nmb_bd (s : ByteArray) (p : Nat) (bad : Bool) : 0 ≤ (nmb s p bad).2.2 ∧ (nmb s p bad).2.2 ≤ 255 := by
  have h1 := dgt_bd s p bad
  have h2 := dgt_bd s (dgt s p bad).1 (dgt s p bad).2.1
  unfold nmb
  dsimp only
  omega

set_option maxHeartbeats 400000 in
theorem takeNumber_any (hR : Rd w b s p bad ht hw hv hn hm cv) (hs : s.size ≤ maxLen) :
    Calls Try.prog 86 #[.pointer (some ⟨b, 0, none⟩)] w fun e w' => e = .returned (.int .i64 (nmb s p bad).2.2) ∧ Rd w' b s (nmb s p bad).1 (nmb s p bad).2.1 ht hw hv hn hm cv ∧ w.grownBy w' (some b) := by
  have h1 := dgt_bd s p bad
  have h2 := dgt_bd s (dgt s p bad).1 (dgt s p bad).2.1
  unfold nmb
  dsimp only
  generalize hq : dgt s p bad = q at *
  have Hq := hide hq
  clear hq
  generalize hr : dgt s q.1 q.2.1 = r at *
  have Hr := hide hr
  clear hr
  obtain ⟨a1, a2⟩ := h1
  obtain ⟨a3, a4⟩ := h2
  go_enter Try.func86, Try.ntmps86
  go_wp2_with fail
  refine (takeDigit_any hR hs).mono ?_
  rintro e w1 ⟨rfl, hR1, hg1⟩
  rw [unhide Hq] at hR1 ⊢
  go_wp2_with fail
  refine (takeDigit_any hR1 hs).mono ?_
  rintro e w2 ⟨rfl, hR2, hg2⟩
  rw [unhide Hr] at hR2 ⊢
  go_wp2_with fail
  go_ret
  exact ⟨rfl, hR2, gb_trans hg1 hg2⟩

/-- How many letters p or s stand next, at most so many. -/
def cnt (s : ByteArray) (bad : Bool) : Nat → Nat → Nat
  | 0, _ => 0
  | f + 1, p => if pk s p bad = 112 ∨ pk s p bad = 115 then cnt s bad f (p + 1) + 1 else 0

theorem cnt_le (s : ByteArray) (bad : Bool) : ∀ f p, cnt s bad f p ≤ f
  | 0, _ => Nat.le_refl _
  | f + 1, p => by
    unfold cnt
    split
    · have := cnt_le s bad f (p + 1); omega
    · omega

theorem tk_pk (s : ByteArray) (p : Nat) (bad : Bool) (h : pk s p bad ≠ 0) : tk s p bad (pk s p bad) = (p + 1, false) ∧ bad = false ∧ p < s.size := by
  cases bad with
  | true => exact absurd (pk_bad s p) h
  | false =>
    by_cases hp : p < s.size
    · exact ⟨by rw [pk_at s p hp]; exact tk_yes s p hp _ rfl, rfl, hp⟩
    · exact absurd (pk_end s p hp) h

set_option maxHeartbeats 400000 in
theorem takeLetters_any (hR : Rd w b s p bad ht hw hv hn hm cv) (hs : s.size ≤ maxLen) (most : Nat) (h0 : most ≤ 16) :
    Calls Try.prog 52 #[.pointer (some ⟨b, 0, none⟩), .int .i64 most] w fun e w' => e = .returned (.int .i64 (cnt s bad most p)) ∧ Rd w' b s (p + cnt s bad most p) bad ht hw hv hn hm cv ∧ w.grownBy w' (some b) := by
  generalize hN : cnt s bad most p = N
  have HN := hide hN
  clear hN
  go_enter Try.func52, Try.ntmps52
  go_wp2_with fail
  go_loopw [5] (fun i wr => ∃ k : Nat, i = .int .i64 k ∧ k ≤ most ∧ Rd wr b s (p + k) bad ht hw hv hn hm cv ∧ w.grownBy wr (some b) ∧ Hid (N = k + cnt s bad (most - k) (p + k))) (fun i _ => most - (intOf i).toNat)
  case atStart => exact ⟨0, rfl, Nat.zero_le _, hR, gb_refl _ _, by rw [← unhide HN]; simp [Hid]⟩
  case round =>
    obtain ⟨k, rfl, hk, hRk, hg, HK⟩ := hrel
    generalize hc : pk s (p + k) bad = c
    have Hc := hide hc
    clear hc
    by_cases hlt : k < most
    · have hcn : cnt s bad (most - k) (p + k) = if c = 112 ∨ c = 115 then cnt s bad (most - (k + 1)) (p + (k + 1)) + 1 else 0 := by
        obtain ⟨f, hf⟩ : ∃ f, most - k = f + 1 := ⟨most - k - 1, by omega⟩
        rw [hf, cnt, unhide Hc, show most - (k + 1) = f from by omega, show p + (k + 1) = p + k + 1 from by omega]
      have Hcn := hide hcn
      clear hcn
      by_cases h1 : c = 112 ∨ c = 115
      · have ht := tk_pk s (p + k) bad (by rw [unhide Hc]; omega)
        rw [unhide Hc] at ht
        obtain ⟨ht, hbad, _⟩ := ht
        have Ht := hide ht
        have Hbad := hide hbad
        clear ht hbad
        rcases h1 with rfl | rfl
        all_goals
          go_wp2_with fail
          refine (peek_any hRk hs).mono ?_
          rintro e w' ⟨rfl, n, rfl⟩
          rw [unhide Hc]
          go_wp2_with fail
          refine (take_any (Rd.drewN hRk n) hs _).mono ?_
          rintro e w2 ⟨rfl, hR2, hg2⟩
          rw [unhide Ht] at hR2
          go_wp2_with fail
          go_roundw
          case rel => exact ⟨k + 1, by go_num, by omega, by rw [unhide Hbad]; exact hR2, gb_trans (gb_drewN hg _) hg2, by have e := unhide HK; rw [unhide Hcn, if_pos (by simp)] at e; exact hide (by omega)⟩
          case measure => simp [intOf]; omega
      · have hn1 : (c != 112) = true := by simp; omega
        have hn2 : (c != 115) = true := by simp; omega
        have H1 := hide h1
        clear h1
        go_wp2_with fail
        refine (peek_any hRk hs).mono ?_
        rintro e w' ⟨rfl, n, rfl⟩
        rw [unhide Hc]
        go_wp2_with fail
        go_ret
        have hNk : N = k := by rw [unhide HK, unhide Hcn, if_neg (unhide H1)]; rfl
        rw [hNk]
        exact ⟨rfl, hRk, gb_drewN hg _⟩
    · have hNk : N = k := by rw [unhide HK, show most - k = 0 from by omega]; rfl
      have HNk := hide hNk
      clear hNk
      go_wp2_with fail
      go_ret
      rw [unhide HNk]
      exact ⟨rfl, hRk, hg⟩
end
end Go.Proofs.Ytnkbfdbbcaffmab
/-
  The document's forms, as plain functions.
-/
namespace Go.Proofs.Ytnkbfdbbcaffmab
open Go.RowKit

theorem ret_int {k : IntKind} {a b : Int} (h : a = b) : Ending.returned (.int k a) = .returned (.int k b) := by rw [h]
theorem ret_bool {a b : Bool} (h : a = b) : Ending.returned (.bool a) = .returned (.bool b) := by rw [h]

/-- The place of the first byte c from i on; -1: there is none. -/
def fnd (s : ByteArray) (c : Int) : Nat → Nat → Int
  | 0, _ => -1
  | f + 1, i => if h : i < s.size then (if (s[i].toNat : Int) = c then (i : Int) else fnd s c f (i + 1)) else -1

/-- What must stand behind the first byte. -/
def opS (c : Int) : List UInt8 :=
  if c = 61 then [118, 120, 111, 120] else if c = 108 then [118, 120] else if c = 115 then [120, 120] else if c = 63 then [120, 40, 66, 41, 40, 66, 41] else if c = 33 then [120, 40, 66, 41]
  else if c = 122 then [120, 110, 110] else if c = 106 then [110, 110] else []
def opB (e c : Int) : Bool :=
  if c = 61 then true else if c = 108 then true else if c = 115 then true else if c = 63 then e == 66 else if c = 33 then e == 66 else if c = 122 then e != 66 else if c = 106 then e != 66 else if c = 104 then e != 66 else false

def isName (c n : Int) : Bool := decide (97 ≤ c) && decide (c - 97 < n)
def isDig (c : Int) : Bool := decide (48 ≤ c) && decide (c ≤ 57)

/-- May the byte c stand where x may, in a text of n variables? -/
def stn (x c n : Int) : Bool :=
  if x = 87 then (decide (49 ≤ c) && decide (c ≤ 56))
  else if x = 107 ∨ x = 75 then (c == 112 || c == 115)
  else if x = 118 then isName c n
  else if x = 120 then (isName c n || isDig c)
  else if x = 111 then isOp c
  else if x = 110 then (isDig c || (decide (97 ≤ c) && decide (c ≤ 102)))
  else c == x

/-- What may stand behind the byte c, where now stands a form. -/
def nxtL (c n : Int) : List UInt8 → Option (List UInt8)
  | [] => none
  | x :: rest =>
    if (x.toNat : Int) = 66 ∨ (x.toNat : Int) = 67 ∨ (x.toNat : Int) = 76 then
      if opB x.toNat c = true then some (opS c ++ (if (x.toNat : Int) = 76 then 67 :: rest else x :: rest))
      else if (x.toNat : Int) = 76 then none else nxtL c n rest
    else if stn x.toNat c n = true then some rest
    else if (x.toNat : Int) = 75 then nxtL c n rest else none

theorem drop_at (s : ByteArray) (k : Nat) (h : k < s.size) : s.data.toList.drop k = s[k] :: s.data.toList.drop (k + 1) := by
  rw [List.drop_eq_getElem_cons (by simpa using h)]; rfl

theorem opS_len (c : Int) : (opS c).length ≤ 7 := by
  unfold opS
  repeat' split
  all_goals simp

theorem ext_data (s : ByteArray) (a b : Nat) : (s.extract a b).data.toList = (s.data.toList.drop a).take (b - a) := by
  obtain ⟨⟨l⟩⟩ := s
  rw [ByteArray.extract_mk]
theorem ext_list (s : ByteArray) (k : Nat) : (s.extract k s.size).data.toList = s.data.toList.drop k := by
  rw [ext_data, List.take_of_length_le]
  rw [List.length_drop, Array.length_toList, ByteArray.size_data]
  exact Nat.le_refl _

theorem cat_list (a : List UInt8) (s : ByteArray) : ((⟨a.toArray⟩ : ByteArray) ++ s).data.toList = a ++ s.data.toList := by
  simp [ByteArray.data_append]
theorem cat_list3 (a : List UInt8) (s : ByteArray) : ((⟨a.toArray⟩ : ByteArray) ++ ⟨#[67]⟩ ++ s).data.toList = a ++ 67 :: s.data.toList := by
  simp [ByteArray.data_append]

/-- A text against a form: none: it fits; else how far it fits. -/
def shL (n : Int) : List UInt8 → List UInt8 → Option Nat
  | [], form => if form = [66] ∨ form = [67] then none else some 0
  | c :: t, form => match nxtL c.toNat n form with
    | none => some 0
    | some f => (shL n t f).map (· + 1)

theorem nxtL_len (c n : Int) : ∀ (l l' : List UInt8), nxtL c n l = some l' → l'.length ≤ l.length + 7
  | [], l', h => by simp [nxtL] at h
  | x :: rest, l', h => by
    have ho := opS_len c
    unfold nxtL at h
    split at h
    · split at h
      · simp only [Option.some.injEq] at h
        subst h
        split <;> simp <;> omega
      · split at h
        · cases h
        · have := nxtL_len c n rest l' h
          simp; omega
    · split at h
      · simp only [Option.some.injEq] at h
        subst h
        simp; omega
      · split at h
        · have := nxtL_len c n rest l' h
          simp; omega
        · cases h

theorem fnd_bd (s : ByteArray) (c : Int) : ∀ f i, -1 ≤ fnd s c f i ∧ fnd s c f i ≤ s.size
  | 0, i => by unfold fnd; omega
  | f + 1, i => by
    unfold fnd
    split
    · split
      · omega
      · exact fnd_bd s c f (i + 1)
    · omega

/-- The number of variables, as the document's shape reckons it. -/
def nvar (s : ByteArray) : Int := fnd s 47 s.size 0 - 1

theorem toList_data' (s : ByteArray) : s.toList = s.data.toList := ByteArray.toList_eq s

/-- The form of kernels. -/
def kernF : List UInt8 := [87, 107, 75, 75, 75, 75, 75, 75, 75, 47, 75, 75, 75, 75, 75, 75, 75, 75, 75, 75, 75, 75, 75, 75, 75, 75, 58, 66]

/-- What the document's Check answers. -/
def rchk (s : ByteArray) : Int × Int := if 300 < s.size then (1, 0) else match shL (nvar s) s.data.toList kernF with
  | none => (0, 0)
  | some k => (2, k)
end Go.Proofs.Ytnkbfdbbcaffmab
