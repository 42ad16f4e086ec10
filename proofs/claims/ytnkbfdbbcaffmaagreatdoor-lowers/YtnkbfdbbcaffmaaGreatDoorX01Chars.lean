import Derived.Test.YtnkbfdbbcaffmaaGreatDoorX00Base
/-
  isCommand, isOperation; takeVariable, takeOperand, takeOperation, takeLetters.
-/
namespace Go.Proofs.YtnkbfdbbcaffmaaGreatDoor
open Go.RowKit

/-- A byte that a command begins with. -/
def isCmd (c : Int) : Bool := c == 61 || c == 108 || c == 115 || c == 63 || c == 33
/-- A byte that is an operation. -/
def isOp (c : Int) : Bool := c == 43 || c == 45 || c == 38 || c == 124 || c == 94 || c == 60 || c == 61 || c == 85 || c == 68 || c == 47 || c == 37

/-- A byte that a line begins with. -/
def isLn (c : Int) : Bool := c == 61 || c == 108 || c == 115 || c == 122 || c == 106 || c == 104

set_option maxHeartbeats 400000 in
theorem isLine_any (c : Int) (w : World) :
    Calls Tryz.prog 85 #[.int .u8 c] w fun e w' => e = .returned (.bool (isLn c)) ∧ w' = w := by
  generalize hr : isLn c = r
  have Hr := hide hr
  clear hr
  go_enter Tryz.func85, Tryz.ntmps85
  go_wp2
  all_goals
    go_ret
    refine ⟨?_, rfl⟩
    rw [← unhide Hr]
    simp_all [isLn]

set_option maxHeartbeats 400000 in
theorem isCommand_any (c : Int) (w : World) :
    Calls Tryz.prog 80 #[.int .u8 c] w fun e w' => e = .returned (.bool (isCmd c)) ∧ w' = w := by
  generalize hr : isCmd c = r
  have Hr := hide hr
  clear hr
  go_enter Tryz.func80, Tryz.ntmps80
  go_wp2
  all_goals
    go_ret
    refine ⟨?_, rfl⟩
    rw [← unhide Hr]
    simp_all [isCmd]

set_option maxHeartbeats 800000 in
theorem isOperation_any (c : Int) (w : World) :
    Calls Tryz.prog 169 #[.int .u8 c] w fun e w' => e = .returned (.bool (isOp c)) ∧ w' = w := by
  generalize hr : isOp c = r
  have Hr := hide hr
  clear hr
  go_enter Tryz.func169, Tryz.ntmps169
  go_wp2
  all_goals
    go_ret
    refine ⟨?_, rfl⟩
    rw [← unhide Hr]
    simp_all [isOp]

section
variable {w : World} {b : Nat} {s : ByteArray} {p : Nat} {bad : Bool} {ht : ByteArray} {hw hv hn hm : Int} {cv : Value}

set_option maxHeartbeats 400000 in
theorem takeVariable_any (hR : Rd w b s p bad ht hw hv hn hm cv) (hs : s.size ≤ maxLen) (h0 : 0 ≤ hn) (h1 : hn ≤ 8) :
    Calls Tryz.prog 137 #[.pointer (some ⟨b, 0, none⟩)] w fun e w' => e = .returned (.int .i64 (tb s p bad 97 (97 + hn - 1)).2.2) ∧ Rd w' b s (tb s p bad 97 (97 + hn - 1)).1 (tb s p bad 97 (97 + hn - 1)).2.1 ht hw hv hn hm cv ∧ w.grownBy w' (some b) := by
  have c5 := hR.cell 6
  simp at c5
  generalize hq : tb s p bad 97 (97 + hn - 1) = q
  have Hq := hide hq
  clear hq
  go_enter Tryz.func137, Tryz.ntmps137
  go_wp2_with fail
  refine (takeBetween_any hR hs 97 (97 + hn - 1) (by omega) (by omega) (by omega) (by omega)).mono ?_
  rintro e w2 ⟨rfl, hR2, hg⟩
  rw [unhide Hq] at hR2 ⊢
  go_wp2_with fail
  go_ret
  exact ⟨rfl, hR2, hg⟩

/-- What 'takeOperand' makes of place and mark; is it a name; the number. -/
def opnd (s : ByteArray) (p : Nat) (bad : Bool) (hv hn : Int) : Nat × Bool × Bool × Int :=
  if 48 ≤ pk s p bad ∧ pk s p bad ≤ 57 then ((tb s p bad 48 57).1, (tb s p bad 48 57).2.1, false, (tb s p bad 48 57).2.2 % hv)
  else ((tb s p bad 97 (97 + hn - 1)).1, (tb s p bad 97 (97 + hn - 1)).2.1, true, (tb s p bad 97 (97 + hn - 1)).2.2)

theorem tb_num (s : ByteArray) (p : Nat) (bad : Bool) (lo hi : Int) : 0 ≤ (tb s p bad lo hi).2.2 ∧ (tb s p bad lo hi).2.2 ≤ 255 + (if lo < 0 then -lo else 0) := by
  have := pk_range s p bad
  unfold tb
  split
  · dsimp only; split <;> omega
  · dsimp only; split <;> omega

set_option maxHeartbeats 400000 in
theorem takeOperand_any (hR : Rd w b s p bad ht hw hv hn hm cv) (hs : s.size ≤ maxLen) (h0 : 0 ≤ hn) (h1 : hn ≤ 8) (h2 : 1 ≤ hv) (h3 : hv ≤ 256) :
    Calls Tryz.prog 138 #[.pointer (some ⟨b, 0, none⟩)] w fun e w' => e = .returned (.agg #[.bool (opnd s p bad hv hn).2.2.1, .int .i64 (opnd s p bad hv hn).2.2.2]) ∧ Rd w' b s (opnd s p bad hv hn).1 (opnd s p bad hv hn).2.1 ht hw hv hn hm cv ∧ w.grownBy w' (some b) := by
  have hr := pk_range s p bad
  generalize hk : pk s p bad = k at *
  have Hk := hide hk
  clear hk
  obtain ⟨hr1, hr2⟩ := hr
  have hR1 : ∀ o, Rd (w.alloc o) b s p bad ht hw hv hn hm cv := fun o => At.alloc hR o
  by_cases hd : 48 ≤ k ∧ k ≤ 57
  · obtain ⟨hd1, hd2⟩ := hd
    have ht : opnd s p bad hv hn = ((tb s p bad 48 57).1, (tb s p bad 48 57).2.1, false, (tb s p bad 48 57).2.2 % hv) := by unfold opnd; rw [unhide Hk, if_pos ⟨hd1, hd2⟩]
    rw [ht]; clear ht
    have hb := tb_num s p bad 48 57
    simp at hb
    obtain ⟨hb1, hb2⟩ := hb
    generalize hq : tb s p bad 48 57 = q at *
    have Hq := hide hq
    clear hq
    go_enter Tryz.func138, Tryz.ntmps138
    go_wp2_with fail
    refine (peek_any (hR1 _) hs).mono ?_
    rintro e w' ⟨rfl, n, rfl⟩
    rw [unhide Hk]
    go_wp2_with fail
    refine (takeBetween_any (Rd.drewN (hR1 _) n) hs 48 57 (by omega) (by omega) (by omega) (by omega)).mono ?_
    rintro e w2 ⟨rfl, hR2, hg⟩
    rw [unhide Hq] at hR2 ⊢
    have c4 := hR2.cell 5
    simp at c4
    have hA : At w2 w.heap.size _ _ := At.grown (At.drewN (At.new w _ _) n) hg (by have := At.lt hR; simp; omega)
    have r0 := hA.cell 0
    have r1 := hA.cell 1
    have g0 := hA.frozen 0
    have g1 := hA.frozen 1
    simp at r0 r1
    go_wp2_with fail
    refine bodyPost_ret (v := .agg #[.bool false, .int .i64 (q.2.2 % hv)]) (by simp [results, Tryz.results138, go_sem, r0, r1]) rfl ⟨rfl, ?_, ?_⟩
    · exact At.other (At.other hR2 _ (by have := At.lt hR; simp; omega)) _ (by have := At.lt hR; simp; omega)
    · exact gb_set (gb_set (gb_trans (gb_drewN (gb_alloc (gb_refl _ _) _) _) hg) _ (.inr (Nat.le_refl _))) _ (.inr (Nat.le_refl _))
  · have ht : opnd s p bad hv hn = ((tb s p bad 97 (97 + hn - 1)).1, (tb s p bad 97 (97 + hn - 1)).2.1, true, (tb s p bad 97 (97 + hn - 1)).2.2) := by unfold opnd; rw [unhide Hk, if_neg hd]
    rw [ht]; clear ht
    generalize hq : tb s p bad 97 (97 + hn - 1) = q
    have Hq := hide hq
    clear hq
    by_cases hk1 : k < 48
    · clear hd
      go_enter Tryz.func138, Tryz.ntmps138
      go_wp2_with fail
      refine (peek_any (hR1 _) hs).mono ?_
      rintro e w' ⟨rfl, n, rfl⟩
      rw [unhide Hk]
      go_wp2_with fail
      refine (takeVariable_any (Rd.drewN (hR1 _) n) hs h0 h1).mono ?_
      rintro e w2 ⟨rfl, hR2, hg⟩
      rw [unhide Hq] at hR2 ⊢
      have hA : At w2 w.heap.size _ _ := At.grown (At.drewN (At.new w _ _) n) hg (by have := At.lt hR; simp; omega)
      have r0 := hA.cell 0
      have r1 := hA.cell 1
      have g0 := hA.frozen 0
      have g1 := hA.frozen 1
      simp at r0 r1
      go_wp2_with fail
      refine bodyPost_ret (v := .agg #[.bool true, .int .i64 q.2.2]) (by simp [results, Tryz.results138, go_sem, r0, r1]) rfl ⟨rfl, ?_, ?_⟩
      · exact At.other (At.other hR2 _ (by have := At.lt hR; simp; omega)) _ (by have := At.lt hR; simp; omega)
      · exact gb_set (gb_set (gb_trans (gb_drewN (gb_alloc (gb_refl _ _) _) _) hg) _ (.inr (Nat.le_refl _))) _ (.inr (Nat.le_refl _))
    · have hk2 : 57 < k := by omega
      clear hd
      go_enter Tryz.func138, Tryz.ntmps138
      go_wp2_with fail
      refine (peek_any (hR1 _) hs).mono ?_
      rintro e w' ⟨rfl, n, rfl⟩
      rw [unhide Hk]
      go_wp2_with fail
      refine (takeVariable_any (Rd.drewN (hR1 _) n) hs h0 h1).mono ?_
      rintro e w2 ⟨rfl, hR2, hg⟩
      rw [unhide Hq] at hR2 ⊢
      have hA : At w2 w.heap.size _ _ := At.grown (At.drewN (At.new w _ _) n) hg (by have := At.lt hR; simp; omega)
      have r0 := hA.cell 0
      have r1 := hA.cell 1
      have g0 := hA.frozen 0
      have g1 := hA.frozen 1
      simp at r0 r1
      go_wp2_with fail
      refine bodyPost_ret (v := .agg #[.bool true, .int .i64 q.2.2]) (by simp [results, Tryz.results138, go_sem, r0, r1]) rfl ⟨rfl, ?_, ?_⟩
      · exact At.other (At.other hR2 _ (by have := At.lt hR; simp; omega)) _ (by have := At.lt hR; simp; omega)
      · exact gb_set (gb_set (gb_trans (gb_drewN (gb_alloc (gb_refl _ _) _) _) hg) _ (.inr (Nat.le_refl _))) _ (.inr (Nat.le_refl _))

/-- What 'takeOperation' makes of place and mark, and what it tells. -/
def opn (s : ByteArray) (p : Nat) (bad : Bool) : Nat × Bool × Int :=
  if isOp (pk s p bad) then ((tk s p bad (pk s p bad)).1, (tk s p bad (pk s p bad)).2, pk s p bad) else (p, true, 0)

set_option maxHeartbeats 400000 in
theorem takeOperation_any (hR : Rd w b s p bad ht hw hv hn hm cv) (hs : s.size ≤ maxLen) :
    Calls Tryz.prog 139 #[.pointer (some ⟨b, 0, none⟩)] w fun e w' => e = .returned (.int .u8 (opn s p bad).2.2) ∧ Rd w' b s (opn s p bad).1 (opn s p bad).2.1 ht hw hv hn hm cv ∧ w.grownBy w' (some b) := by
  generalize hk : pk s p bad = k
  have Hk := hide hk
  clear hk
  cases ho : isOp k with
  | true =>
    have Ho := hide ho
    clear ho
    have ht : opn s p bad = ((tk s p bad k).1, (tk s p bad k).2, k) := by unfold opn; rw [unhide Hk, if_pos (unhide Ho)]
    rw [ht]; clear ht
    generalize hq : tk s p bad k = q
    have Hq := hide hq
    clear hq
    go_enter Tryz.func139, Tryz.ntmps139
    go_wp2_with fail
    refine (peek_any hR hs).mono ?_
    rintro e w' ⟨rfl, n, rfl⟩
    rw [unhide Hk]
    go_wp2_with fail
    refine (isOperation_any _ _).mono ?_
    rintro e w' ⟨rfl, rfl⟩
    rw [unhide Ho]
    go_wp2_with fail
    refine (take_any (Rd.drewN hR n) hs k).mono ?_
    rintro e w2 ⟨rfl, hR2, hg⟩
    rw [unhide Hq] at hR2
    go_wp2_with fail
    go_ret
    exact ⟨rfl, hR2, gb_trans (gb_drewN (gb_refl _ _) _) hg⟩
  | false =>
    have Ho := hide ho
    clear ho
    have ht : opn s p bad = (p, true, 0) := by unfold opn; rw [unhide Hk, unhide Ho]; rfl
    rw [ht]; clear ht
    have f2 := hR.frozen 2
    have c2 := hR.cell 2
    simp at c2
    go_enter Tryz.func139, Tryz.ntmps139
    go_wp2_with fail
    refine (peek_any hR hs).mono ?_
    rintro e w' ⟨rfl, n, rfl⟩
    rw [unhide Hk]
    go_wp2_with fail
    refine (isOperation_any _ _).mono ?_
    rintro e w' ⟨rfl, rfl⟩
    rw [unhide Ho]
    go_wp2_with fail
    go_ret
    exact ⟨rfl, Rd.setBad (Rd.drewN hR _), gb_set (gb_drewN (gb_refl _ _) _) _ (.inl rfl)⟩

/-- What 'takeDigit' makes of place and mark, and what it tells. -/
def dgt (s : ByteArray) (p : Nat) (bad : Bool) : Nat × Bool × Int :=
  if 48 ≤ pk s p bad ∧ pk s p bad ≤ 57 then ((tb s p bad 48 57).1, (tb s p bad 48 57).2.1, (tb s p bad 48 57).2.2) else ((tb s p bad 97 102).1, (tb s p bad 97 102).2.1, 10 + (tb s p bad 97 102).2.2)

theorem tb_top (s : ByteArray) (p : Nat) (bad : Bool) (lo hi : Int) (h : lo ≤ hi) : 0 ≤ (tb s p bad lo hi).2.2 ∧ (tb s p bad lo hi).2.2 ≤ hi - lo := by
  unfold tb
  split
  · dsimp only; omega
  · dsimp only; omega
theorem dgt_bd (s : ByteArray) (p : Nat) (bad : Bool) : 0 ≤ (dgt s p bad).2.2 ∧ (dgt s p bad).2.2 ≤ 15 := by
  have h1 := tb_top s p bad 48 57 (by omega)
  have h2 := tb_top s p bad 97 102 (by omega)
  unfold dgt
  split
  · dsimp only; omega
  · dsimp only; omega

set_option maxHeartbeats 400000 in
theorem takeDigit_any (hR : Rd w b s p bad ht hw hv hn hm cv) (hs : s.size ≤ maxLen) :
    Calls Tryz.prog 170 #[.pointer (some ⟨b, 0, none⟩)] w fun e w' => e = .returned (.int .i64 (dgt s p bad).2.2) ∧ Rd w' b s (dgt s p bad).1 (dgt s p bad).2.1 ht hw hv hn hm cv ∧ w.grownBy w' (some b) := by
  have hr := pk_range s p bad
  generalize hk : pk s p bad = k at *
  have Hk := hide hk
  clear hk
  obtain ⟨hr1, hr2⟩ := hr
  by_cases hd : 48 ≤ k ∧ k ≤ 57
  · obtain ⟨hd1, hd2⟩ := hd
    have ht' : dgt s p bad = ((tb s p bad 48 57).1, (tb s p bad 48 57).2.1, (tb s p bad 48 57).2.2) := by unfold dgt; rw [unhide Hk, if_pos ⟨hd1, hd2⟩]
    rw [ht']; clear ht'
    have hb := tb_top s p bad 48 57 (by omega)
    obtain ⟨hb1, hb2⟩ := hb
    generalize hq : tb s p bad 48 57 = q at *
    have Hq := hide hq
    clear hq
    go_enter Tryz.func170, Tryz.ntmps170
    go_wp2_with fail
    refine (peek_any hR hs).mono ?_
    rintro e w' ⟨rfl, n, rfl⟩
    rw [unhide Hk]
    go_wp2_with fail
    refine (takeBetween_any (Rd.drewN hR n) hs 48 57 (by omega) (by omega) (by omega) (by omega)).mono ?_
    rintro e w2 ⟨rfl, hR2, hg⟩
    rw [unhide Hq] at hR2 ⊢
    go_wp2_with fail
    go_ret
    exact ⟨rfl, hR2, gb_trans (gb_drewN (gb_refl _ _) _) hg⟩
  · have ht' : dgt s p bad = ((tb s p bad 97 102).1, (tb s p bad 97 102).2.1, 10 + (tb s p bad 97 102).2.2) := by unfold dgt; rw [unhide Hk, if_neg hd]
    rw [ht']; clear ht'
    have hb := tb_top s p bad 97 102 (by omega)
    obtain ⟨hb1, hb2⟩ := hb
    generalize hq : tb s p bad 97 102 = q at *
    have Hq := hide hq
    clear hq
    by_cases hk1 : 48 ≤ k
    · have hk2 : 57 < k := by omega
      clear hd
      go_enter Tryz.func170, Tryz.ntmps170
      go_wp2_with fail
      refine (peek_any hR hs).mono ?_
      rintro e w' ⟨rfl, n, rfl⟩
      rw [unhide Hk]
      go_wp2_with fail
      refine (takeBetween_any (Rd.drewN hR n) hs 97 102 (by omega) (by omega) (by omega) (by omega)).mono ?_
      rintro e w2 ⟨rfl, hR2, hg⟩
      rw [unhide Hq] at hR2 ⊢
      go_wp2_with fail
      go_ret
      exact ⟨rfl, hR2, gb_trans (gb_drewN (gb_refl _ _) _) hg⟩
    · clear hd
      go_enter Tryz.func170, Tryz.ntmps170
      go_wp2_with fail
      refine (peek_any hR hs).mono ?_
      rintro e w' ⟨rfl, n, rfl⟩
      rw [unhide Hk]
      go_wp2_with fail
      refine (takeBetween_any (Rd.drewN hR n) hs 97 102 (by omega) (by omega) (by omega) (by omega)).mono ?_
      rintro e w2 ⟨rfl, hR2, hg⟩
      rw [unhide Hq] at hR2 ⊢
      go_wp2_with fail
      go_ret
      exact ⟨rfl, hR2, gb_trans (gb_drewN (gb_refl _ _) _) hg⟩

/-- What 'takeNumber' makes of place and mark, and what it tells. -/
def nmb (s : ByteArray) (p : Nat) (bad : Bool) : Nat × Bool × Int :=
  ((dgt s (dgt s p bad).1 (dgt s p bad).2.1).1, (dgt s (dgt s p bad).1 (dgt s p bad).2.1).2.1, (dgt s p bad).2.2 * 16 + (dgt s (dgt s p bad).1 (dgt s p bad).2.1).2.2)

theorem nmb_bd (s : ByteArray) (p : Nat) (bad : Bool) : 0 ≤ (nmb s p bad).2.2 ∧ (nmb s p bad).2.2 ≤ 255 := by
  have h1 := dgt_bd s p bad
  have h2 := dgt_bd s (dgt s p bad).1 (dgt s p bad).2.1
  unfold nmb
  dsimp only
  omega

set_option maxHeartbeats 400000 in
theorem takeNumber_any (hR : Rd w b s p bad ht hw hv hn hm cv) (hs : s.size ≤ maxLen) :
    Calls Tryz.prog 140 #[.pointer (some ⟨b, 0, none⟩)] w fun e w' => e = .returned (.int .i64 (nmb s p bad).2.2) ∧ Rd w' b s (nmb s p bad).1 (nmb s p bad).2.1 ht hw hv hn hm cv ∧ w.grownBy w' (some b) := by
  have h1 := dgt_bd s p bad
  have h2 := dgt_bd s (dgt s p bad).1 (dgt s p bad).2.1
  unfold nmb
  dsimp only
  generalize hq : dgt s p bad = q at *
  have Hq := hide hq
  clear hq
  generalize hr : dgt s q.1 q.2.1 = r at *
  have Hr := hide hr
  clear hr
  obtain ⟨a1, a2⟩ := h1
  obtain ⟨a3, a4⟩ := h2
  go_enter Tryz.func140, Tryz.ntmps140
  go_wp2_with fail
  refine (takeDigit_any hR hs).mono ?_
  rintro e w1 ⟨rfl, hR1, hg1⟩
  rw [unhide Hq] at hR1 ⊢
  go_wp2_with fail
  refine (takeDigit_any hR1 hs).mono ?_
  rintro e w2 ⟨rfl, hR2, hg2⟩
  rw [unhide Hr] at hR2 ⊢
  go_wp2_with fail
  go_ret
  exact ⟨rfl, hR2, gb_trans hg1 hg2⟩

/-- How many letters p or s stand next, at most so many. -/
def cnt (s : ByteArray) (bad : Bool) : Nat → Nat → Nat
  | 0, _ => 0
  | f + 1, p => if pk s p bad = 112 ∨ pk s p bad = 115 then cnt s bad f (p + 1) + 1 else 0

theorem cnt_le (s : ByteArray) (bad : Bool) : ∀ f p, cnt s bad f p ≤ f
  | 0, _ => Nat.le_refl _
  | f + 1, p => by
    unfold cnt
    split
    · have := cnt_le s bad f (p + 1); omega
    · omega

theorem tk_pk (s : ByteArray) (p : Nat) (bad : Bool) (h : pk s p bad ≠ 0) : tk s p bad (pk s p bad) = (p + 1, false) ∧ bad = false ∧ p < s.size := by
  cases bad with
  | true => exact absurd (pk_bad s p) h
  | false =>
    by_cases hp : p < s.size
    · exact ⟨by rw [pk_at s p hp]; exact tk_yes s p hp _ rfl, rfl, hp⟩
    · exact absurd (pk_end s p hp) h

set_option maxHeartbeats 400000 in
theorem takeLetters_any (hR : Rd w b s p bad ht hw hv hn hm cv) (hs : s.size ≤ maxLen) (most : Nat) (h0 : most ≤ 16) :
    Calls Tryz.prog 78 #[.pointer (some ⟨b, 0, none⟩), .int .i64 most] w fun e w' => e = .returned (.int .i64 (cnt s bad most p)) ∧ Rd w' b s (p + cnt s bad most p) bad ht hw hv hn hm cv ∧ w.grownBy w' (some b) := by
  generalize hN : cnt s bad most p = N
  have HN := hide hN
  clear hN
  go_enter Tryz.func78, Tryz.ntmps78
  go_wp2_with fail
  go_loopw [5] (fun i wr => ∃ k : Nat, i = .int .i64 k ∧ k ≤ most ∧ Rd wr b s (p + k) bad ht hw hv hn hm cv ∧ w.grownBy wr (some b) ∧ Hid (N = k + cnt s bad (most - k) (p + k))) (fun i _ => most - (intOf i).toNat)
  case atStart => exact ⟨0, rfl, Nat.zero_le _, hR, gb_refl _ _, by rw [← unhide HN]; simp [Hid]⟩
  case round =>
    obtain ⟨k, rfl, hk, hRk, hg, HK⟩ := hrel
    generalize hc : pk s (p + k) bad = c
    have Hc := hide hc
    clear hc
    by_cases hlt : k < most
    · have hcn : cnt s bad (most - k) (p + k) = if c = 112 ∨ c = 115 then cnt s bad (most - (k + 1)) (p + (k + 1)) + 1 else 0 := by
        obtain ⟨f, hf⟩ : ∃ f, most - k = f + 1 := ⟨most - k - 1, by omega⟩
        rw [hf, cnt, unhide Hc, show most - (k + 1) = f from by omega, show p + (k + 1) = p + k + 1 from by omega]
      have Hcn := hide hcn
      clear hcn
      by_cases h1 : c = 112 ∨ c = 115
      · have ht := tk_pk s (p + k) bad (by rw [unhide Hc]; omega)
        rw [unhide Hc] at ht
        obtain ⟨ht, hbad, _⟩ := ht
        have Ht := hide ht
        have Hbad := hide hbad
        clear ht hbad
        rcases h1 with rfl | rfl
        all_goals
          go_wp2_with fail
          refine (peek_any hRk hs).mono ?_
          rintro e w' ⟨rfl, n, rfl⟩
          rw [unhide Hc]
          go_wp2_with fail
          refine (take_any (Rd.drewN hRk n) hs _).mono ?_
          rintro e w2 ⟨rfl, hR2, hg2⟩
          rw [unhide Ht] at hR2
          go_wp2_with fail
          go_roundw
          case rel => exact ⟨k + 1, by go_num, by omega, by rw [unhide Hbad]; exact hR2, gb_trans (gb_drewN hg _) hg2, by have e := unhide HK; rw [unhide Hcn, if_pos (by simp)] at e; exact hide (by omega)⟩
          case measure => simp [intOf]; omega
      · have hn1 : (c != 112) = true := by simp; omega
        have hn2 : (c != 115) = true := by simp; omega
        have H1 := hide h1
        clear h1
        go_wp2_with fail
        refine (peek_any hRk hs).mono ?_
        rintro e w' ⟨rfl, n, rfl⟩
        rw [unhide Hc]
        go_wp2_with fail
        go_ret
        have hNk : N = k := by rw [unhide HK, unhide Hcn, if_neg (unhide H1)]; rfl
        rw [hNk]
        exact ⟨rfl, hRk, gb_drewN hg _⟩
    · have hNk : N = k := by rw [unhide HK, show most - k = 0 from by omega]; rfl
      have HNk := hide hNk
      clear hNk
      go_wp2_with fail
      go_ret
      rw [unhide HNk]
      exact ⟨rfl, hRk, hg⟩
end
end Go.Proofs.YtnkbfdbbcaffmaaGreatDoor
/-
  takeCommand, kind by kind.
-/
namespace Go.Proofs.YtnkbfdbbcaffmaaGreatDoor
open Go.RowKit

/-- A command, as it is held. -/
structure Cm where
  kind : Int
  var : Int
  xn : Bool
  xv : Int
  op : Int
  yn : Bool
  yv : Int
  yes : Int
  no : Int
  sec : Int
  beh : Int

def Cm.cells (c : Cm) : Array Value := #[.int .u8 c.kind, .int .i64 c.var, .bool c.xn, .int .i64 c.xv, .int .u8 c.op, .bool c.yn, .int .i64 c.yv, .int .i64 c.yes, .int .i64 c.no, .int .i64 c.sec, .int .i64 c.beh]

section
variable {w : World} {b : Nat} {s : ByteArray} {p : Nat} {bad : Bool} {ht : ByteArray} {hw hv hn hm : Int} {cv : Value}

theorem Rd.other (h : Rd w b s p bad ht hw hv hn hm cv) {a : Addr} (v : Value) (ha : a.block ≠ b) : Rd (w.setCell a v) b s p bad ht hw hv hn hm cv := At.other h v ha
theorem Rd.alloc (h : Rd w b s p bad ht hw hv hn hm cv) (o : Obj) : Rd (w.alloc o) b s p bad ht hw hv hn hm cv := At.alloc h o
theorem At.nine {c : Nat} {t : TypeId} {v0 v1 v2 v3 v4 v5 v6 v7 v8 : Value} (h : At w c t #[v0, v1, v2, v3, v4, v5, v6, v7, v8]) :
    w.cell? ⟨c, 0, none⟩ = some v0 ∧ w.cell? ⟨c, 1, none⟩ = some v1 ∧ w.cell? ⟨c, 2, none⟩ = some v2 ∧ w.cell? ⟨c, 3, none⟩ = some v3 ∧ w.cell? ⟨c, 4, none⟩ = some v4 ∧ w.cell? ⟨c, 5, none⟩ = some v5 ∧ w.cell? ⟨c, 6, none⟩ = some v6 ∧ w.cell? ⟨c, 7, none⟩ = some v7 ∧ w.cell? ⟨c, 8, none⟩ = some v8 ∧ (∀ j, w.frozen? ⟨c, j, none⟩ = false) := by
  refine ⟨?_, ?_, ?_, ?_, ?_, ?_, ?_, ?_, ?_, fun j => h.frozen j⟩ <;> (rw [h.cell]; rfl)
theorem At.elv {c : Nat} {t : TypeId} {v0 v1 v2 v3 v4 v5 v6 v7 v8 v9 v10 : Value} (h : At w c t #[v0, v1, v2, v3, v4, v5, v6, v7, v8, v9, v10]) :
    w.cell? ⟨c, 0, none⟩ = some v0 ∧ w.cell? ⟨c, 1, none⟩ = some v1 ∧ w.cell? ⟨c, 2, none⟩ = some v2 ∧ w.cell? ⟨c, 3, none⟩ = some v3 ∧ w.cell? ⟨c, 4, none⟩ = some v4 ∧ w.cell? ⟨c, 5, none⟩ = some v5 ∧ w.cell? ⟨c, 6, none⟩ = some v6 ∧ w.cell? ⟨c, 7, none⟩ = some v7 ∧ w.cell? ⟨c, 8, none⟩ = some v8 ∧ w.cell? ⟨c, 9, none⟩ = some v9 ∧ w.cell? ⟨c, 10, none⟩ = some v10 ∧ (∀ j, w.frozen? ⟨c, j, none⟩ = false) := by
  refine ⟨?_, ?_, ?_, ?_, ?_, ?_, ?_, ?_, ?_, ?_, ?_, fun j => h.frozen j⟩ <;> (rw [h.cell]; rfl)
/-- All eleven cells of a block written over: the other blocks are as they were. -/
theorem gb_elv {w1 w2 : World} {row : Option Nat} (h : w1.grownBy w2 row) (c : Nat) (hc : w1.heap.size ≤ c) (v0 v1 v2 v3 v4 v5 v6 v7 v8 v9 v10 : Value) :
    w1.grownBy (((((((((((w2.setCell ⟨c, 0, none⟩ v0).setCell ⟨c, 1, none⟩ v1).setCell ⟨c, 2, none⟩ v2).setCell ⟨c, 3, none⟩ v3).setCell ⟨c, 4, none⟩ v4).setCell ⟨c, 5, none⟩ v5).setCell ⟨c, 6, none⟩ v6).setCell ⟨c, 7, none⟩ v7).setCell ⟨c, 8, none⟩ v8).setCell ⟨c, 9, none⟩ v9).setCell ⟨c, 10, none⟩ v10) row :=
  gb_set (gb_set (gb_set (gb_set (gb_set (gb_set (gb_set (gb_set (gb_set (gb_set (gb_set h _ (.inr hc)) _ (.inr hc)) _ (.inr hc)) _ (.inr hc)) _ (.inr hc)) _ (.inr hc)) _ (.inr hc)) _ (.inr hc)) _ (.inr hc)) _ (.inr hc)) _ (.inr hc)
theorem Rd.elv (h : Rd w b s p bad ht hw hv hn hm cv) (c : Nat) (hc : c ≠ b) (v0 v1 v2 v3 v4 v5 v6 v7 v8 v9 v10 : Value) :
    Rd (((((((((((w.setCell ⟨c, 0, none⟩ v0).setCell ⟨c, 1, none⟩ v1).setCell ⟨c, 2, none⟩ v2).setCell ⟨c, 3, none⟩ v3).setCell ⟨c, 4, none⟩ v4).setCell ⟨c, 5, none⟩ v5).setCell ⟨c, 6, none⟩ v6).setCell ⟨c, 7, none⟩ v7).setCell ⟨c, 8, none⟩ v8).setCell ⟨c, 9, none⟩ v9).setCell ⟨c, 10, none⟩ v10) b s p bad ht hw hv hn hm cv :=
  ((((((((((h.other _ hc).other _ hc).other _ hc).other _ hc).other _ hc).other _ hc).other _ hc).other _ hc).other _ hc).other _ hc).other _ hc

/-- behind the first byte: test -/
def cmTest (s : ByteArray) (p : Nat) (hv hn k : Int) : Nat × Bool × Cm :=
  let x := opnd s p false hv hn
  (x.1, x.2.1, ⟨k, 0, x.2.2.1, x.2.2.2, 0, false, 0, 0, 0, 0, 0⟩)

set_option maxHeartbeats 2000000 in
theorem takeCommand_test (hR : Rd w b s p bad ht hw hv hn hm cv) (hs : s.size ≤ maxLen) (h0 : 0 ≤ hn) (h1 : hn ≤ 8) (h2 : 1 ≤ hv) (h3 : hv ≤ 256) (k : Int) (hk : pk s p bad = k) (hkk : k = 63 ∨ k = 33) :
    Calls Tryz.prog 107 #[.pointer (some ⟨b, 0, none⟩)] w fun e w' => e = .returned (.agg (cmTest s (p + 1) hv hn k).2.2.cells) ∧ Rd w' b s (cmTest s (p + 1) hv hn k).1 (cmTest s (p + 1) hv hn k).2.1 ht hw hv hn hm cv ∧ w.grownBy w' (some b) := by
  have ht := tk_pk s p bad (by rw [hk]; omega)
  rw [hk] at ht
  obtain ⟨ht, rfl, _⟩ := ht
  have Ht := hide ht
  have Hk := hide hk
  clear ht hk
  have hbl := At.lt hR
  have hR0 : ∀ o o', Rd ((w.alloc o).alloc o') b s p false ht hw hv hn hm cv := fun o o' => At.alloc (At.alloc hR o) o'
  unfold cmTest
  dsimp only
  generalize hxq : opnd s (p + 1) false hv hn = x
  have Hx := hide hxq
  clear hxq
  have hO0 : ∀ cs o, At ((w.alloc (.cells cs 118)).alloc o) w.heap.size 118 cs := fun cs o => At.alloc (At.new w _ cs) o
  have hC0 : ∀ o cs, At ((w.alloc o).alloc (.cells cs 118)) (w.heap.size + 1) 118 cs := fun o cs => by
    have := At.new (w.alloc o) 118 cs
    simpa using this
  rcases hkk with rfl | rfl
  all_goals
    go_enter Tryz.func107, Tryz.ntmps107
    go_wp2_with fail
    refine (peek_any (hR0 _ _) hs).mono ?_
    rintro e w' ⟨rfl, n, rfl⟩
    rw [unhide Hk]
    go_wp2_with fail
    refine (take_any (Rd.other (Rd.drewN (hR0 _ _) n) _ (by simp; omega)) hs _).mono ?_
    rintro e w2 ⟨rfl, hR2, hg2⟩
    rw [unhide Ht] at hR2
    have hC2 := At.grown (At.set (At.drewN (hC0 _ _) n) 0 _) hg2 (by simp; omega)
    have hO2 := At.grown (At.other (At.drewN (hO0 _ _) n) _ (by simp)) hg2 (by simp; omega)
    have hG2 := gb_trans (gb_set (gb_drewN (gb_alloc (gb_alloc (gb_refl w (some b)) _) _) n) _ (.inr (by simp))) hg2
    simp at hC2
    have hC2' := hide hC2
    have hO2' := hide hO2
    obtain ⟨d0, d1, d2, d3, d4, d5, d6, d7, d8, d9, d10, df⟩ := At.elv hC2
    clear hC2 hO2
    go_wp2_with fail
    refine (takeOperand_any hR2 hs h0 h1 h2 h3).mono ?_
    rintro e w3 ⟨rfl, hR3, hg3⟩
    rw [unhide Hx] at hR3 ⊢
    have hC3 := At.grown (unhide hC2') hg3 (by simp; omega)
    have hO3 := At.grown (unhide hO2') hg3 (by simp; omega)
    have hG3 := gb_trans hG2 hg3
    clear d0 d1 d2 d3 d4 d5 d6 d7 d8 d9 d10 df
    obtain ⟨d0, d1, d2, d3, d4, d5, d6, d7, d8, d9, d10, df⟩ := At.elv hC3
    obtain ⟨e0, e1, e2, e3, e4, e5, e6, e7, e8, e9, e10, ef⟩ := At.elv hO3
    clear hC3 hO3
    go_wp2_with fail
    refine bodyPost_ret (v := .agg (⟨_, 0, x.2.2.1, x.2.2.2, 0, false, 0, 0, 0, 0, 0⟩ : Cm).cells) (by simp [results, Tryz.results107, go_sem, Cm.cells, e0, e1, e2, e3, e4, e5, e6, e7, e8, e9, e10]) rfl ⟨rfl, ?_, ?_⟩
    · exact Rd.elv (Rd.other (Rd.other hR3 _ (by simp; omega)) _ (by simp; omega)) _ (by omega) _ _ _ _ _ _ _ _ _ _ _
    · exact gb_elv (gb_set (gb_set hG3 _ (.inr (by simp))) _ (.inr (by simp))) _ (by simp) _ _ _ _ _ _ _ _ _ _ _

/-- behind the first byte: load -/
def cmLoad (s : ByteArray) (p : Nat) (hv hn : Int) : Nat × Bool × Cm :=
  let v := tb s p false 97 (97 + hn - 1)
  let x := opnd s v.1 v.2.1 hv hn
  (x.1, x.2.1, ⟨108, v.2.2, x.2.2.1, x.2.2.2, 0, false, 0, 0, 0, 0, 0⟩)

set_option maxHeartbeats 2000000 in
theorem takeCommand_load (hR : Rd w b s p bad ht hw hv hn hm cv) (hs : s.size ≤ maxLen) (h0 : 0 ≤ hn) (h1 : hn ≤ 8) (h2 : 1 ≤ hv) (h3 : hv ≤ 256) (hk : pk s p bad = 108) :
    Calls Tryz.prog 107 #[.pointer (some ⟨b, 0, none⟩)] w fun e w' => e = .returned (.agg (cmLoad s (p + 1) hv hn).2.2.cells) ∧ Rd w' b s (cmLoad s (p + 1) hv hn).1 (cmLoad s (p + 1) hv hn).2.1 ht hw hv hn hm cv ∧ w.grownBy w' (some b) := by
  have ht := tk_pk s p bad (by rw [hk]; omega)
  rw [hk] at ht
  obtain ⟨ht, rfl, _⟩ := ht
  have Ht := hide ht
  have Hk := hide hk
  clear ht hk
  have hbl := At.lt hR
  have hR0 : ∀ o o', Rd ((w.alloc o).alloc o') b s p false ht hw hv hn hm cv := fun o o' => At.alloc (At.alloc hR o) o'
  unfold cmLoad
  dsimp only
  generalize hvq : tb s (p + 1) false 97 (97 + hn - 1) = v
  have Hv := hide hvq
  clear hvq
  generalize hxq : opnd s v.1 v.2.1 hv hn = x
  have Hx := hide hxq
  clear hxq
  have hO0 : ∀ cs o, At ((w.alloc (.cells cs 118)).alloc o) w.heap.size 118 cs := fun cs o => At.alloc (At.new w _ cs) o
  have hC0 : ∀ o cs, At ((w.alloc o).alloc (.cells cs 118)) (w.heap.size + 1) 118 cs := fun o cs => by
    have := At.new (w.alloc o) 118 cs
    simpa using this
  go_enter Tryz.func107, Tryz.ntmps107
  go_wp2_with fail
  refine (peek_any (hR0 _ _) hs).mono ?_
  rintro e w' ⟨rfl, n, rfl⟩
  rw [unhide Hk]
  go_wp2_with fail
  refine (take_any (Rd.other (Rd.drewN (hR0 _ _) n) _ (by simp; omega)) hs _).mono ?_
  rintro e w2 ⟨rfl, hR2, hg2⟩
  rw [unhide Ht] at hR2
  have hC2 := At.grown (At.set (At.drewN (hC0 _ _) n) 0 _) hg2 (by simp; omega)
  have hO2 := At.grown (At.other (At.drewN (hO0 _ _) n) _ (by simp)) hg2 (by simp; omega)
  have hG2 := gb_trans (gb_set (gb_drewN (gb_alloc (gb_alloc (gb_refl w (some b)) _) _) n) _ (.inr (by simp))) hg2
  simp at hC2
  have hC2' := hide hC2
  have hO2' := hide hO2
  obtain ⟨d0, d1, d2, d3, d4, d5, d6, d7, d8, d9, d10, df⟩ := At.elv hC2
  clear hC2 hO2
  go_wp2_with fail
  refine (takeVariable_any hR2 hs h0 h1).mono ?_
  rintro e w3 ⟨rfl, hR3, hg3⟩
  rw [unhide Hv] at hR3 ⊢
  have hC3 := At.grown (unhide hC2') hg3 (by simp; omega)
  have hO3 := At.grown (unhide hO2') hg3 (by simp; omega)
  have hG3 := gb_trans hG2 hg3
  clear d0 d1 d2 d3 d4 d5 d6 d7 d8 d9 d10 df
  have hC3' := hide hC3
  have hO3' := hide hO3
  obtain ⟨d0, d1, d2, d3, d4, d5, d6, d7, d8, d9, d10, df⟩ := At.elv hC3
  clear hC3 hO3
  go_wp2_with fail
  refine (takeOperand_any (Rd.other hR3 _ (by simp; omega)) hs h0 h1 h2 h3).mono ?_
  rintro e w4 ⟨rfl, hR4, hg4⟩
  rw [unhide Hx] at hR4 ⊢
  have hC4 := At.grown (At.set (unhide hC3') 1 _) hg4 (by simp; omega)
  have hO4 := At.grown (At.other (unhide hO3') _ (by simp)) hg4 (by simp; omega)
  have hG4 := gb_trans (gb_set hG3 _ (.inr (by simp))) hg4
  simp at hC4
  clear d0 d1 d2 d3 d4 d5 d6 d7 d8 d9 d10 df
  obtain ⟨d0, d1, d2, d3, d4, d5, d6, d7, d8, d9, d10, df⟩ := At.elv hC4
  obtain ⟨e0, e1, e2, e3, e4, e5, e6, e7, e8, e9, e10, ef⟩ := At.elv hO4
  clear hC4 hO4
  go_wp2_with fail
  refine bodyPost_ret (v := .agg (⟨108, v.2.2, x.2.2.1, x.2.2.2, 0, false, 0, 0, 0, 0, 0⟩ : Cm).cells) (by simp [results, Tryz.results107, go_sem, Cm.cells, e0, e1, e2, e3, e4, e5, e6, e7, e8, e9, e10]) rfl ⟨rfl, ?_, ?_⟩
  · exact Rd.elv (Rd.other (Rd.other hR4 _ (by simp; omega)) _ (by simp; omega)) _ (by omega) _ _ _ _ _ _ _ _ _ _ _
  · exact gb_elv (gb_set (gb_set hG4 _ (.inr (by simp))) _ (.inr (by simp))) _ (by simp) _ _ _ _ _ _ _ _ _ _ _

/-- behind the first byte: store -/
def cmStore (s : ByteArray) (p : Nat) (hv hn : Int) : Nat × Bool × Cm :=
  let x := opnd s p false hv hn
  let y := opnd s x.1 x.2.1 hv hn
  (y.1, y.2.1, ⟨115, 0, x.2.2.1, x.2.2.2, 0, y.2.2.1, y.2.2.2, 0, 0, 0, 0⟩)

set_option maxHeartbeats 2000000 in
theorem takeCommand_store (hR : Rd w b s p bad ht hw hv hn hm cv) (hs : s.size ≤ maxLen) (h0 : 0 ≤ hn) (h1 : hn ≤ 8) (h2 : 1 ≤ hv) (h3 : hv ≤ 256) (hk : pk s p bad = 115) :
    Calls Tryz.prog 107 #[.pointer (some ⟨b, 0, none⟩)] w fun e w' => e = .returned (.agg (cmStore s (p + 1) hv hn).2.2.cells) ∧ Rd w' b s (cmStore s (p + 1) hv hn).1 (cmStore s (p + 1) hv hn).2.1 ht hw hv hn hm cv ∧ w.grownBy w' (some b) := by
  have ht := tk_pk s p bad (by rw [hk]; omega)
  rw [hk] at ht
  obtain ⟨ht, rfl, _⟩ := ht
  have Ht := hide ht
  have Hk := hide hk
  clear ht hk
  have hbl := At.lt hR
  have hR0 : ∀ o o', Rd ((w.alloc o).alloc o') b s p false ht hw hv hn hm cv := fun o o' => At.alloc (At.alloc hR o) o'
  unfold cmStore
  dsimp only
  generalize hxq : opnd s (p + 1) false hv hn = x
  have Hx := hide hxq
  clear hxq
  generalize hyq : opnd s x.1 x.2.1 hv hn = y
  have Hy := hide hyq
  clear hyq
  have hO0 : ∀ cs o, At ((w.alloc (.cells cs 118)).alloc o) w.heap.size 118 cs := fun cs o => At.alloc (At.new w _ cs) o
  have hC0 : ∀ o cs, At ((w.alloc o).alloc (.cells cs 118)) (w.heap.size + 1) 118 cs := fun o cs => by
    have := At.new (w.alloc o) 118 cs
    simpa using this
  go_enter Tryz.func107, Tryz.ntmps107
  go_wp2_with fail
  refine (peek_any (hR0 _ _) hs).mono ?_
  rintro e w' ⟨rfl, n, rfl⟩
  rw [unhide Hk]
  go_wp2_with fail
  refine (take_any (Rd.other (Rd.drewN (hR0 _ _) n) _ (by simp; omega)) hs _).mono ?_
  rintro e w2 ⟨rfl, hR2, hg2⟩
  rw [unhide Ht] at hR2
  have hC2 := At.grown (At.set (At.drewN (hC0 _ _) n) 0 _) hg2 (by simp; omega)
  have hO2 := At.grown (At.other (At.drewN (hO0 _ _) n) _ (by simp)) hg2 (by simp; omega)
  have hG2 := gb_trans (gb_set (gb_drewN (gb_alloc (gb_alloc (gb_refl w (some b)) _) _) n) _ (.inr (by simp))) hg2
  simp at hC2
  have hC2' := hide hC2
  have hO2' := hide hO2
  obtain ⟨d0, d1, d2, d3, d4, d5, d6, d7, d8, d9, d10, df⟩ := At.elv hC2
  clear hC2 hO2
  go_wp2_with fail
  refine (takeOperand_any hR2 hs h0 h1 h2 h3).mono ?_
  rintro e w3 ⟨rfl, hR3, hg3⟩
  rw [unhide Hx] at hR3 ⊢
  have hC3 := At.grown (unhide hC2') hg3 (by simp; omega)
  have hO3 := At.grown (unhide hO2') hg3 (by simp; omega)
  have hG3 := gb_trans hG2 hg3
  clear d0 d1 d2 d3 d4 d5 d6 d7 d8 d9 d10 df
  have hC3' := hide hC3
  have hO3' := hide hO3
  obtain ⟨d0, d1, d2, d3, d4, d5, d6, d7, d8, d9, d10, df⟩ := At.elv hC3
  clear hC3 hO3
  go_wp2_with fail
  refine (takeOperand_any (Rd.other (Rd.other hR3 _ (by simp; omega)) _ (by simp; omega)) hs h0 h1 h2 h3).mono ?_
  rintro e w4 ⟨rfl, hR4, hg4⟩
  rw [unhide Hy] at hR4 ⊢
  have hC4 := At.grown (At.set (At.set (unhide hC3') 2 _) 3 _) hg4 (by simp; omega)
  have hO4 := At.grown (At.other (At.other (unhide hO3') _ (by simp)) _ (by simp)) hg4 (by simp; omega)
  have hG4 := gb_trans (gb_set (gb_set hG3 _ (.inr (by simp))) _ (.inr (by simp))) hg4
  simp at hC4
  clear d0 d1 d2 d3 d4 d5 d6 d7 d8 d9 d10 df
  obtain ⟨d0, d1, d2, d3, d4, d5, d6, d7, d8, d9, d10, df⟩ := At.elv hC4
  obtain ⟨e0, e1, e2, e3, e4, e5, e6, e7, e8, e9, e10, ef⟩ := At.elv hO4
  clear hC4 hO4
  go_wp2_with fail
  refine bodyPost_ret (v := .agg (⟨115, 0, x.2.2.1, x.2.2.2, 0, y.2.2.1, y.2.2.2, 0, 0, 0, 0⟩ : Cm).cells) (by simp [results, Tryz.results107, go_sem, Cm.cells, e0, e1, e2, e3, e4, e5, e6, e7, e8, e9, e10]) rfl ⟨rfl, ?_, ?_⟩
  · exact Rd.elv (Rd.other (Rd.other hR4 _ (by simp; omega)) _ (by simp; omega)) _ (by omega) _ _ _ _ _ _ _ _ _ _ _
  · exact gb_elv (gb_set (gb_set hG4 _ (.inr (by simp))) _ (.inr (by simp))) _ (by simp) _ _ _ _ _ _ _ _ _ _ _

/-- behind the first byte: set -/
def cmSet (s : ByteArray) (p : Nat) (hv hn : Int) : Nat × Bool × Cm :=
  let v := tb s p false 97 (97 + hn - 1)
  let x := opnd s v.1 v.2.1 hv hn
  let o := opn s x.1 x.2.1
  let y := opnd s o.1 o.2.1 hv hn
  (y.1, y.2.1, ⟨61, v.2.2, x.2.2.1, x.2.2.2, o.2.2, y.2.2.1, y.2.2.2, 0, 0, 0, 0⟩)

set_option maxHeartbeats 2000000 in
theorem takeCommand_set (hR : Rd w b s p bad ht hw hv hn hm cv) (hs : s.size ≤ maxLen) (h0 : 0 ≤ hn) (h1 : hn ≤ 8) (h2 : 1 ≤ hv) (h3 : hv ≤ 256) (hk : pk s p bad = 61) :
    Calls Tryz.prog 107 #[.pointer (some ⟨b, 0, none⟩)] w fun e w' => e = .returned (.agg (cmSet s (p + 1) hv hn).2.2.cells) ∧ Rd w' b s (cmSet s (p + 1) hv hn).1 (cmSet s (p + 1) hv hn).2.1 ht hw hv hn hm cv ∧ w.grownBy w' (some b) := by
  have ht := tk_pk s p bad (by rw [hk]; omega)
  rw [hk] at ht
  obtain ⟨ht, rfl, _⟩ := ht
  have Ht := hide ht
  have Hk := hide hk
  clear ht hk
  have hbl := At.lt hR
  have hR0 : ∀ o o', Rd ((w.alloc o).alloc o') b s p false ht hw hv hn hm cv := fun o o' => At.alloc (At.alloc hR o) o'
  unfold cmSet
  dsimp only
  generalize hvq : tb s (p + 1) false 97 (97 + hn - 1) = v
  have Hv := hide hvq
  clear hvq
  generalize hxq : opnd s v.1 v.2.1 hv hn = x
  have Hx := hide hxq
  clear hxq
  generalize hoq : opn s x.1 x.2.1 = o
  have Ho := hide hoq
  clear hoq
  generalize hyq : opnd s o.1 o.2.1 hv hn = y
  have Hy := hide hyq
  clear hyq
  have hO0 : ∀ cs o, At ((w.alloc (.cells cs 118)).alloc o) w.heap.size 118 cs := fun cs o => At.alloc (At.new w _ cs) o
  have hC0 : ∀ o cs, At ((w.alloc o).alloc (.cells cs 118)) (w.heap.size + 1) 118 cs := fun o cs => by
    have := At.new (w.alloc o) 118 cs
    simpa using this
  go_enter Tryz.func107, Tryz.ntmps107
  go_wp2_with fail
  refine (peek_any (hR0 _ _) hs).mono ?_
  rintro e w' ⟨rfl, n, rfl⟩
  rw [unhide Hk]
  go_wp2_with fail
  refine (take_any (Rd.other (Rd.drewN (hR0 _ _) n) _ (by simp; omega)) hs _).mono ?_
  rintro e w2 ⟨rfl, hR2, hg2⟩
  rw [unhide Ht] at hR2
  have hC2 := At.grown (At.set (At.drewN (hC0 _ _) n) 0 _) hg2 (by simp; omega)
  have hO2 := At.grown (At.other (At.drewN (hO0 _ _) n) _ (by simp)) hg2 (by simp; omega)
  have hG2 := gb_trans (gb_set (gb_drewN (gb_alloc (gb_alloc (gb_refl w (some b)) _) _) n) _ (.inr (by simp))) hg2
  simp at hC2
  have hC2' := hide hC2
  have hO2' := hide hO2
  obtain ⟨d0, d1, d2, d3, d4, d5, d6, d7, d8, d9, d10, df⟩ := At.elv hC2
  clear hC2 hO2
  go_wp2_with fail
  refine (takeVariable_any hR2 hs h0 h1).mono ?_
  rintro e w3 ⟨rfl, hR3, hg3⟩
  rw [unhide Hv] at hR3 ⊢
  have hC3 := At.grown (unhide hC2') hg3 (by simp; omega)
  have hO3 := At.grown (unhide hO2') hg3 (by simp; omega)
  have hG3 := gb_trans hG2 hg3
  clear d0 d1 d2 d3 d4 d5 d6 d7 d8 d9 d10 df
  have hC3' := hide hC3
  have hO3' := hide hO3
  obtain ⟨d0, d1, d2, d3, d4, d5, d6, d7, d8, d9, d10, df⟩ := At.elv hC3
  clear hC3 hO3
  go_wp2_with fail
  refine (takeOperand_any (Rd.other hR3 _ (by simp; omega)) hs h0 h1 h2 h3).mono ?_
  rintro e w4 ⟨rfl, hR4, hg4⟩
  rw [unhide Hx] at hR4 ⊢
  have hC4 := At.grown (At.set (unhide hC3') 1 _) hg4 (by simp; omega)
  have hO4 := At.grown (At.other (unhide hO3') _ (by simp)) hg4 (by simp; omega)
  have hG4 := gb_trans (gb_set hG3 _ (.inr (by simp))) hg4
  simp at hC4
  clear d0 d1 d2 d3 d4 d5 d6 d7 d8 d9 d10 df
  have hC4' := hide hC4
  have hO4' := hide hO4
  obtain ⟨d0, d1, d2, d3, d4, d5, d6, d7, d8, d9, d10, df⟩ := At.elv hC4
  clear hC4 hO4
  go_wp2_with fail
  refine (takeOperation_any (Rd.other (Rd.other hR4 _ (by simp; omega)) _ (by simp; omega)) hs).mono ?_
  rintro e w5 ⟨rfl, hR5, hg5⟩
  rw [unhide Ho] at hR5 ⊢
  have hC5 := At.grown (At.set (At.set (unhide hC4') 2 _) 3 _) hg5 (by simp; omega)
  have hO5 := At.grown (At.other (At.other (unhide hO4') _ (by simp)) _ (by simp)) hg5 (by simp; omega)
  have hG5 := gb_trans (gb_set (gb_set hG4 _ (.inr (by simp))) _ (.inr (by simp))) hg5
  simp at hC5
  clear d0 d1 d2 d3 d4 d5 d6 d7 d8 d9 d10 df
  have hC5' := hide hC5
  have hO5' := hide hO5
  obtain ⟨d0, d1, d2, d3, d4, d5, d6, d7, d8, d9, d10, df⟩ := At.elv hC5
  clear hC5 hO5
  go_wp2_with fail
  refine (takeOperand_any (Rd.other hR5 _ (by simp; omega)) hs h0 h1 h2 h3).mono ?_
  rintro e w6 ⟨rfl, hR6, hg6⟩
  rw [unhide Hy] at hR6 ⊢
  have hC6 := At.grown (At.set (unhide hC5') 4 _) hg6 (by simp; omega)
  have hO6 := At.grown (At.other (unhide hO5') _ (by simp)) hg6 (by simp; omega)
  have hG6 := gb_trans (gb_set hG5 _ (.inr (by simp))) hg6
  simp at hC6
  clear d0 d1 d2 d3 d4 d5 d6 d7 d8 d9 d10 df
  obtain ⟨d0, d1, d2, d3, d4, d5, d6, d7, d8, d9, d10, df⟩ := At.elv hC6
  obtain ⟨e0, e1, e2, e3, e4, e5, e6, e7, e8, e9, e10, ef⟩ := At.elv hO6
  clear hC6 hO6
  go_wp2_with fail
  refine bodyPost_ret (v := .agg (⟨61, v.2.2, x.2.2.1, x.2.2.2, o.2.2, y.2.2.1, y.2.2.2, 0, 0, 0, 0⟩ : Cm).cells) (by simp [results, Tryz.results107, go_sem, Cm.cells, e0, e1, e2, e3, e4, e5, e6, e7, e8, e9, e10]) rfl ⟨rfl, ?_, ?_⟩
  · exact Rd.elv (Rd.other (Rd.other hR6 _ (by simp; omega)) _ (by simp; omega)) _ (by omega) _ _ _ _ _ _ _ _ _ _ _
  · exact gb_elv (gb_set (gb_set hG6 _ (.inr (by simp))) _ (.inr (by simp))) _ (by simp) _ _ _ _ _ _ _ _ _ _ _

/-- behind the first byte: zero -/
def cmZero (s : ByteArray) (p : Nat) (hv hn : Int) : Nat × Bool × Cm :=
  let x := opnd s p false hv hn
  let q := nmb s x.1 x.2.1
  (q.1, q.2.1, ⟨122, 0, x.2.2.1, x.2.2.2, 0, false, 0, 0, q.2.2, 0, 0⟩)

set_option maxHeartbeats 2000000 in
theorem takeCommand_zero (hR : Rd w b s p bad ht hw hv hn hm cv) (hs : s.size ≤ maxLen) (h0 : 0 ≤ hn) (h1 : hn ≤ 8) (h2 : 1 ≤ hv) (h3 : hv ≤ 256) (hk : pk s p bad = 122) :
    Calls Tryz.prog 107 #[.pointer (some ⟨b, 0, none⟩)] w fun e w' => e = .returned (.agg (cmZero s (p + 1) hv hn).2.2.cells) ∧ Rd w' b s (cmZero s (p + 1) hv hn).1 (cmZero s (p + 1) hv hn).2.1 ht hw hv hn hm cv ∧ w.grownBy w' (some b) := by
  have ht := tk_pk s p bad (by rw [hk]; omega)
  rw [hk] at ht
  obtain ⟨ht, rfl, _⟩ := ht
  have Ht := hide ht
  have Hk := hide hk
  clear ht hk
  have hbl := At.lt hR
  have hR0 : ∀ o o', Rd ((w.alloc o).alloc o') b s p false ht hw hv hn hm cv := fun o o' => At.alloc (At.alloc hR o) o'
  unfold cmZero
  dsimp only
  generalize hxq : opnd s (p + 1) false hv hn = x
  have Hx := hide hxq
  clear hxq
  generalize hqq : nmb s x.1 x.2.1 = q
  have Hq := hide hqq
  clear hqq
  have hO0 : ∀ cs o, At ((w.alloc (.cells cs 118)).alloc o) w.heap.size 118 cs := fun cs o => At.alloc (At.new w _ cs) o
  have hC0 : ∀ o cs, At ((w.alloc o).alloc (.cells cs 118)) (w.heap.size + 1) 118 cs := fun o cs => by
    have := At.new (w.alloc o) 118 cs
    simpa using this
  go_enter Tryz.func107, Tryz.ntmps107
  go_wp2_with fail
  refine (peek_any (hR0 _ _) hs).mono ?_
  rintro e w' ⟨rfl, n, rfl⟩
  rw [unhide Hk]
  go_wp2_with fail
  refine (take_any (Rd.other (Rd.drewN (hR0 _ _) n) _ (by simp; omega)) hs _).mono ?_
  rintro e w2 ⟨rfl, hR2, hg2⟩
  rw [unhide Ht] at hR2
  have hC2 := At.grown (At.set (At.drewN (hC0 _ _) n) 0 _) hg2 (by simp; omega)
  have hO2 := At.grown (At.other (At.drewN (hO0 _ _) n) _ (by simp)) hg2 (by simp; omega)
  have hG2 := gb_trans (gb_set (gb_drewN (gb_alloc (gb_alloc (gb_refl w (some b)) _) _) n) _ (.inr (by simp))) hg2
  simp at hC2
  have hC2' := hide hC2
  have hO2' := hide hO2
  obtain ⟨d0, d1, d2, d3, d4, d5, d6, d7, d8, d9, d10, df⟩ := At.elv hC2
  clear hC2 hO2
  go_wp2_with fail
  refine (takeOperand_any hR2 hs h0 h1 h2 h3).mono ?_
  rintro e w3 ⟨rfl, hR3, hg3⟩
  rw [unhide Hx] at hR3 ⊢
  have hC3 := At.grown (unhide hC2') hg3 (by simp; omega)
  have hO3 := At.grown (unhide hO2') hg3 (by simp; omega)
  have hG3 := gb_trans hG2 hg3
  clear d0 d1 d2 d3 d4 d5 d6 d7 d8 d9 d10 df
  have hC3' := hide hC3
  have hO3' := hide hO3
  obtain ⟨d0, d1, d2, d3, d4, d5, d6, d7, d8, d9, d10, df⟩ := At.elv hC3
  clear hC3 hO3
  go_wp2_with fail
  refine (takeNumber_any (Rd.other (Rd.other hR3 _ (by simp; omega)) _ (by simp; omega)) hs).mono ?_
  rintro e w4 ⟨rfl, hR4, hg4⟩
  rw [unhide Hq] at hR4 ⊢
  have hC4 := At.grown (At.set (At.set (unhide hC3') 2 _) 3 _) hg4 (by simp; omega)
  have hO4 := At.grown (At.other (At.other (unhide hO3') _ (by simp)) _ (by simp)) hg4 (by simp; omega)
  have hG4 := gb_trans (gb_set (gb_set hG3 _ (.inr (by simp))) _ (.inr (by simp))) hg4
  simp at hC4
  clear d0 d1 d2 d3 d4 d5 d6 d7 d8 d9 d10 df
  obtain ⟨d0, d1, d2, d3, d4, d5, d6, d7, d8, d9, d10, df⟩ := At.elv hC4
  obtain ⟨e0, e1, e2, e3, e4, e5, e6, e7, e8, e9, e10, ef⟩ := At.elv hO4
  clear hC4 hO4
  go_wp2_with fail
  refine bodyPost_ret (v := .agg (⟨122, 0, x.2.2.1, x.2.2.2, 0, false, 0, 0, q.2.2, 0, 0⟩ : Cm).cells) (by simp [results, Tryz.results107, go_sem, Cm.cells, e0, e1, e2, e3, e4, e5, e6, e7, e8, e9, e10]) rfl ⟨rfl, ?_, ?_⟩
  · exact Rd.elv (Rd.other hR4 _ (by simp; omega)) _ (by omega) _ _ _ _ _ _ _ _ _ _ _
  · exact gb_elv (gb_set hG4 _ (.inr (by simp))) _ (by simp) _ _ _ _ _ _ _ _ _ _ _

/-- behind the first byte: jump -/
def cmJump (s : ByteArray) (p : Nat) (_hv _hn : Int) : Nat × Bool × Cm :=
  let q := nmb s p false
  (q.1, q.2.1, ⟨106, 0, false, 0, 0, false, 0, q.2.2, 0, 0, 0⟩)

set_option maxHeartbeats 2000000 in
theorem takeCommand_jump (hR : Rd w b s p bad ht hw hv hn hm cv) (hs : s.size ≤ maxLen) (_h0 : 0 ≤ hn) (_h1 : hn ≤ 8) (_h2 : 1 ≤ hv) (_h3 : hv ≤ 256) (hk : pk s p bad = 106) :
    Calls Tryz.prog 107 #[.pointer (some ⟨b, 0, none⟩)] w fun e w' => e = .returned (.agg (cmJump s (p + 1) hv hn).2.2.cells) ∧ Rd w' b s (cmJump s (p + 1) hv hn).1 (cmJump s (p + 1) hv hn).2.1 ht hw hv hn hm cv ∧ w.grownBy w' (some b) := by
  have ht := tk_pk s p bad (by rw [hk]; omega)
  rw [hk] at ht
  obtain ⟨ht, rfl, _⟩ := ht
  have Ht := hide ht
  have Hk := hide hk
  clear ht hk
  have hbl := At.lt hR
  have hR0 : ∀ o o', Rd ((w.alloc o).alloc o') b s p false ht hw hv hn hm cv := fun o o' => At.alloc (At.alloc hR o) o'
  unfold cmJump
  dsimp only
  generalize hqq : nmb s (p + 1) false = q
  have Hq := hide hqq
  clear hqq
  have hO0 : ∀ cs o, At ((w.alloc (.cells cs 118)).alloc o) w.heap.size 118 cs := fun cs o => At.alloc (At.new w _ cs) o
  have hC0 : ∀ o cs, At ((w.alloc o).alloc (.cells cs 118)) (w.heap.size + 1) 118 cs := fun o cs => by
    have := At.new (w.alloc o) 118 cs
    simpa using this
  go_enter Tryz.func107, Tryz.ntmps107
  go_wp2_with fail
  refine (peek_any (hR0 _ _) hs).mono ?_
  rintro e w' ⟨rfl, n, rfl⟩
  rw [unhide Hk]
  go_wp2_with fail
  refine (take_any (Rd.other (Rd.drewN (hR0 _ _) n) _ (by simp; omega)) hs _).mono ?_
  rintro e w2 ⟨rfl, hR2, hg2⟩
  rw [unhide Ht] at hR2
  have hC2 := At.grown (At.set (At.drewN (hC0 _ _) n) 0 _) hg2 (by simp; omega)
  have hO2 := At.grown (At.other (At.drewN (hO0 _ _) n) _ (by simp)) hg2 (by simp; omega)
  have hG2 := gb_trans (gb_set (gb_drewN (gb_alloc (gb_alloc (gb_refl w (some b)) _) _) n) _ (.inr (by simp))) hg2
  simp at hC2
  have hC2' := hide hC2
  have hO2' := hide hO2
  obtain ⟨d0, d1, d2, d3, d4, d5, d6, d7, d8, d9, d10, df⟩ := At.elv hC2
  clear hC2 hO2
  go_wp2_with fail
  refine (takeNumber_any hR2 hs).mono ?_
  rintro e w3 ⟨rfl, hR3, hg3⟩
  rw [unhide Hq] at hR3 ⊢
  have hC3 := At.grown (unhide hC2') hg3 (by simp; omega)
  have hO3 := At.grown (unhide hO2') hg3 (by simp; omega)
  have hG3 := gb_trans hG2 hg3
  clear d0 d1 d2 d3 d4 d5 d6 d7 d8 d9 d10 df
  obtain ⟨d0, d1, d2, d3, d4, d5, d6, d7, d8, d9, d10, df⟩ := At.elv hC3
  obtain ⟨e0, e1, e2, e3, e4, e5, e6, e7, e8, e9, e10, ef⟩ := At.elv hO3
  clear hC3 hO3
  go_wp2_with fail
  refine bodyPost_ret (v := .agg (⟨106, 0, false, 0, 0, false, 0, q.2.2, 0, 0, 0⟩ : Cm).cells) (by simp [results, Tryz.results107, go_sem, Cm.cells, e0, e1, e2, e3, e4, e5, e6, e7, e8, e9, e10]) rfl ⟨rfl, ?_, ?_⟩
  · exact Rd.elv (Rd.other hR3 _ (by simp; omega)) _ (by omega) _ _ _ _ _ _ _ _ _ _ _
  · exact gb_elv (gb_set hG3 _ (.inr (by simp))) _ (by simp) _ _ _ _ _ _ _ _ _ _ _

/-- behind the first byte: end -/
def cmEnd (_s : ByteArray) (p : Nat) (_hv _hn : Int) : Nat × Bool × Cm :=
  (p, false, ⟨104, 0, false, 0, 0, false, 0, 0, 0, 0, 0⟩)

set_option maxHeartbeats 2000000 in
theorem takeCommand_end (hR : Rd w b s p bad ht hw hv hn hm cv) (hs : s.size ≤ maxLen) (_h0 : 0 ≤ hn) (_h1 : hn ≤ 8) (_h2 : 1 ≤ hv) (_h3 : hv ≤ 256) (hk : pk s p bad = 104) :
    Calls Tryz.prog 107 #[.pointer (some ⟨b, 0, none⟩)] w fun e w' => e = .returned (.agg (cmEnd s (p + 1) hv hn).2.2.cells) ∧ Rd w' b s (cmEnd s (p + 1) hv hn).1 (cmEnd s (p + 1) hv hn).2.1 ht hw hv hn hm cv ∧ w.grownBy w' (some b) := by
  have ht := tk_pk s p bad (by rw [hk]; omega)
  rw [hk] at ht
  obtain ⟨ht, rfl, _⟩ := ht
  have Ht := hide ht
  have Hk := hide hk
  clear ht hk
  have hbl := At.lt hR
  have hR0 : ∀ o o', Rd ((w.alloc o).alloc o') b s p false ht hw hv hn hm cv := fun o o' => At.alloc (At.alloc hR o) o'
  unfold cmEnd
  dsimp only
  have hO0 : ∀ cs o, At ((w.alloc (.cells cs 118)).alloc o) w.heap.size 118 cs := fun cs o => At.alloc (At.new w _ cs) o
  have hC0 : ∀ o cs, At ((w.alloc o).alloc (.cells cs 118)) (w.heap.size + 1) 118 cs := fun o cs => by
    have := At.new (w.alloc o) 118 cs
    simpa using this
  go_enter Tryz.func107, Tryz.ntmps107
  go_wp2_with fail
  refine (peek_any (hR0 _ _) hs).mono ?_
  rintro e w' ⟨rfl, n, rfl⟩
  rw [unhide Hk]
  go_wp2_with fail
  refine (take_any (Rd.other (Rd.drewN (hR0 _ _) n) _ (by simp; omega)) hs _).mono ?_
  rintro e w2 ⟨rfl, hR2, hg2⟩
  rw [unhide Ht] at hR2
  have hC2 := At.grown (At.set (At.drewN (hC0 _ _) n) 0 _) hg2 (by simp; omega)
  have hO2 := At.grown (At.other (At.drewN (hO0 _ _) n) _ (by simp)) hg2 (by simp; omega)
  have hG2 := gb_trans (gb_set (gb_drewN (gb_alloc (gb_alloc (gb_refl w (some b)) _) _) n) _ (.inr (by simp))) hg2
  simp at hC2
  obtain ⟨d0, d1, d2, d3, d4, d5, d6, d7, d8, d9, d10, df⟩ := At.elv hC2
  obtain ⟨e0, e1, e2, e3, e4, e5, e6, e7, e8, e9, e10, ef⟩ := At.elv hO2
  clear hC2 hO2
  go_wp2_with fail
  refine bodyPost_ret (v := .agg (⟨104, 0, false, 0, 0, false, 0, 0, 0, 0, 0⟩ : Cm).cells) (by simp [results, Tryz.results107, go_sem, Cm.cells, e0, e1, e2, e3, e4, e5, e6, e7, e8, e9, e10]) rfl ⟨rfl, ?_, ?_⟩
  · exact Rd.elv hR2 _ (by omega) _ _ _ _ _ _ _ _ _ _ _
  · exact gb_elv hG2 _ (by simp) _ _ _ _ _ _ _ _ _ _ _

end
end Go.Proofs.YtnkbfdbbcaffmaaGreatDoor
