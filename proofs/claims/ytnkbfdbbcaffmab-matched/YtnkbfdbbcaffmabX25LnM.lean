import Derived.Test.YtnkbfdbbcaffmabX10App
/-
  The reader of lines as a plain function, and what it keeps.
-/
namespace Go.Proofs.Ytnkbfdbbcaffmab
open Go.RowKit

/-- What takeCommand makes of the place, where a byte stands that a line begins with. -/
def tlin (s : ByteArray) (p : Nat) (hv hn k : Int) : Nat × Bool × Cm :=
  if k = 61 then cmSet s (p + 1) hv hn else if k = 108 then cmLoad s (p + 1) hv hn else if k = 115 then cmStore s (p + 1) hv hn
  else if k = 122 then cmZero s (p + 1) hv hn else if k = 106 then cmJump s (p + 1) hv hn else cmEnd s (p + 1) hv hn

theorem tlin_kind (s : ByteArray) (p : Nat) (hv hn k : Int) (h : isLn k = true) : (tlin s p hv hn k).2.2.kind = k := by
  simp [isLn] at h
  unfold tlin
  split
  · simp [cmSet, *]
  · split
    · simp [cmLoad, *]
    · split
      · simp [cmStore, *]
      · split
        · simp [cmZero, *]
        · split
          · simp [cmJump, *]
          · simp [cmEnd]; omega

theorem dgt_fwd (s : ByteArray) (p : Nat) (bad : Bool) (h : p ≤ s.size) : Fwd s p bad (dgt s p bad).1 (dgt s p bad).2.1 := by
  unfold dgt
  split
  · exact tb_fwd s p bad _ _ h
  · exact tb_fwd s p bad _ _ h
theorem nmb_fwd (s : ByteArray) (p : Nat) (bad : Bool) (h : p ≤ s.size) : Fwd s p bad (nmb s p bad).1 (nmb s p bad).2.1 := by
  unfold nmb
  have h1 := dgt_fwd s p bad h
  exact h1.trans (dgt_fwd s _ _ h1.2.1)

theorem tlin_fwd (s : ByteArray) (p : Nat) (hv hn k : Int) (h : p < s.size) : Fwd s (p + 1) false (tlin s p hv hn k).1 (tlin s p hv hn k).2.1 := by
  unfold tlin
  split
  · unfold cmSet; dsimp only
    have h1 := tb_fwd s (p + 1) false 97 (97 + hn - 1) h
    have h2 := opnd_fwd s _ (tb s (p + 1) false 97 (97 + hn - 1)).2.1 hv hn h1.2.1
    have h3 := opn_fwd s _ (opnd s (tb s (p + 1) false 97 (97 + hn - 1)).1 (tb s (p + 1) false 97 (97 + hn - 1)).2.1 hv hn).2.1 h2.2.1
    exact h1.trans (h2.trans (h3.trans (opnd_fwd s _ _ hv hn h3.2.1)))
  · split
    · unfold cmLoad; dsimp only
      have h1 := tb_fwd s (p + 1) false 97 (97 + hn - 1) h
      exact h1.trans (opnd_fwd s _ _ hv hn h1.2.1)
    · split
      · unfold cmStore; dsimp only
        have h1 := opnd_fwd s (p + 1) false hv hn h
        exact h1.trans (opnd_fwd s _ _ hv hn h1.2.1)
      · split
        · unfold cmZero; dsimp only
          have h1 := opnd_fwd s (p + 1) false hv hn h
          exact h1.trans (nmb_fwd s _ _ h1.2.1)
        · split
          · exact nmb_fwd s (p + 1) false h
          · exact Fwd.refl h

theorem isLn_pk {s : ByteArray} {p : Nat} {bad : Bool} (h : isLn (pk s p bad) = true) : bad = false ∧ p < s.size := by
  have := tk_pk s p bad (by intro e; rw [e] at h; simp [isLn] at h)
  exact this.2

/-- A line, as readLine lays it. -/
def lcm (c : Cm) (len : Nat) : Cm := { c with yes := if c.kind = 106 then c.yes else len + 1 }

/-- Behind one line. -/
def ln1 (s : ByteArray) (hv hn : Int) (st : PS) : PS :=
  ⟨(tlin s st.p hv hn (pk s st.p st.bad)).1, (tlin s st.p hv hn (pk s st.p st.bad)).2.1, st.cs ++ [lcm (tlin s st.p hv hn (pk s st.p st.bad)).2.2 st.cs.length]⟩

def rdL (s : ByteArray) (hv hn : Int) : Nat → PS → PS
  | 0, st => st
  | f + 1, st => if isLn (pk s st.p st.bad) = true then rdL s hv hn f (ln1 s hv hn st) else st

theorem ln1_nxt {s : ByteArray} {hv hn : Int} {st : PS} (h : Inv s st) (hc : isLn (pk s st.p st.bad) = true) : Nxt s st (ln1 s hv hn st) ∧ lft s (ln1 s hv hn st) + 1 ≤ lft s st := by
  obtain ⟨hb, hp⟩ := isLn_pk hc
  have h1 := tlin_fwd s st.p hv hn (pk s st.p st.bad) hp
  have hl : (ln1 s hv hn st).cs.length = st.cs.length + 1 := by simp [ln1]
  have h3 : (ln1 s hv hn st).p = (tlin s st.p hv hn (pk s st.p st.bad)).1 := rfl
  have h2 := h1.1
  refine ⟨⟨⟨by rw [h3]; omega, h1.2.1, fun e => by rw [hb] at e; cases e⟩, by rw [hl]; omega, ?_, h1.2.1⟩, ?_⟩
  · rw [hl]; exact Nat.le_trans (by have := h.1; omega) h1.1
  · unfold lft
    rw [hb, h3]
    split <;> simp <;> omega

theorem rdL_nxt (s : ByteArray) (hv hn : Int) : ∀ f st, Inv s st → lft s st ≤ f → Nxt s st (rdL s hv hn f st)
  | 0, st, h, _ => Nxt.refl h
  | f + 1, st, h, hl => by
    unfold rdL
    split
    · rename_i hc
      obtain ⟨a, b⟩ := ln1_nxt (hv := hv) (hn := hn) h hc
      exact a.trans (rdL_nxt s hv hn f _ a.2.2 (by omega))
    · exact Nxt.refl h

/-- The line h leads to the end. -/
def fix1 (L : Int) (c : Cm) : Cm := if c.kind = 104 then { c with yes := L } else c
def fixE (cs : List Cm) : List Cm := cs.map (fix1 cs.length)

def rdLs (s : ByteArray) (hv hn : Int) (st : PS) : PS :=
  let st1 := rdL s hv hn s.size ⟨st.p, st.bad || !(isLn (pk s st.p st.bad)), st.cs⟩
  ⟨st1.p, st1.bad, fixE st1.cs⟩

/-- The number of the first line that goes on at a line that is not there; of the lines, if the last has no next; -1: there is none. -/
def strI (L : Int) : List Cm → Nat → Int → Int
  | [], _, last => if last ≠ 104 ∧ last ≠ 106 then L else -1
  | c :: r, i, _ => if c.kind = 106 ∧ L ≤ c.yes then i else if c.kind = 122 ∧ L ≤ c.no then i else strI L r (i + 1) c.kind
def stray (cs : List Cm) : Int := strI cs.length cs 0 104

/-- The reader's state at the text's end. -/
def cod (s : ByteArray) : PS := rdLs s (pw (hdr s).2.2.1) (hdr s).2.2.2.1 ⟨(hdr s).1, (hdr s).2.1, []⟩
def codBad (s : ByteArray) : Bool := (cod s).bad || decide ((cod s).p < s.size)

theorem fixE_len (cs : List Cm) : (fixE cs).length = cs.length := by simp [fixE]
theorem cod_nxt (s : ByteArray) : Nxt s ⟨(hdr s).1, (hdr s).2.1, []⟩ (cod s) := by
  have hI : Inv s ⟨(hdr s).1, (hdr s).2.1, []⟩ := ⟨Nat.zero_le _, hdr_le s⟩
  have hI2 : Inv s ⟨(hdr s).1, (hdr s).2.1 || !(isLn (pk s (hdr s).1 (hdr s).2.1)), []⟩ := ⟨Nat.zero_le _, hdr_le s⟩
  have h0 : Nxt s ⟨(hdr s).1, (hdr s).2.1, []⟩ ⟨(hdr s).1, (hdr s).2.1 || !(isLn (pk s (hdr s).1 (hdr s).2.1)), []⟩ := ⟨⟨Nat.le_refl _, hdr_le s, fun e => ⟨rfl, by dsimp only at e ⊢; rw [e]; rfl⟩⟩, Nat.le_refl _, hI2⟩
  have h1 := rdL_nxt s (pw (hdr s).2.2.1) (hdr s).2.2.2.1 s.size _ hI2 (by unfold lft; split <;> simp)
  have h2 := h0.trans h1
  refine ⟨h2.1, Nat.zero_le _, ?_, h2.2.2.2⟩
  unfold cod rdLs
  dsimp only
  rw [fixE_len]
  exact h2.2.2.1
theorem cod_le (s : ByteArray) : (cod s).p ≤ s.size := (cod_nxt s).2.2.2
theorem cod_len (s : ByteArray) : (cod s).cs.length ≤ s.size := Nat.le_trans (cod_nxt s).2.2.1 (cod_nxt s).2.2.2
end Go.Proofs.Ytnkbfdbbcaffmab
/-
  readLine.
-/
namespace Go.Proofs.Ytnkbfdbbcaffmab
open Go.RowKit

section
variable {w : World} {b : Nat} {s : ByteArray} {p : Nat} {bad : Bool} {ht : ByteArray} {hw hv hn hm : Int} {cv : Value} {cs : List Cm}

theorem takeLine_any (hR : Rd w b s p bad ht hw hv hn hm cv) (hs : s.size ≤ maxLen) (h0 : 0 ≤ hn) (h1 : hn ≤ 8) (h2 : 1 ≤ hv) (h3 : hv ≤ 256) (k : Int) (hk : pk s p bad = k) (hc : isLn k = true) :
    Calls Try.prog 69 #[.pointer (some ⟨b, 0, none⟩)] w fun e w' => e = .returned (.agg (tlin s p hv hn k).2.2.cells) ∧ Rd w' b s (tlin s p hv hn k).1 (tlin s p hv hn k).2.1 ht hw hv hn hm cv ∧ w.grownBy w' (some b) := by
  simp [isLn] at hc
  unfold tlin
  by_cases e1 : k = 61
  · rw [if_pos e1]; exact takeCommand_set hR hs h0 h1 h2 h3 (hk.trans e1)
  · rw [if_neg e1]
    by_cases e2 : k = 108
    · rw [if_pos e2]; exact takeCommand_load hR hs h0 h1 h2 h3 (hk.trans e2)
    · rw [if_neg e2]
      by_cases e3 : k = 115
      · rw [if_pos e3]; exact takeCommand_store hR hs h0 h1 h2 h3 (hk.trans e3)
      · rw [if_neg e3]
        by_cases e4 : k = 122
        · rw [if_pos e4]; exact takeCommand_zero hR hs h0 h1 h2 h3 (hk.trans e4)
        · rw [if_neg e4]
          by_cases e5 : k = 106
          · rw [if_pos e5]; exact takeCommand_jump hR hs h0 h1 h2 h3 (hk.trans e5)
          · rw [if_neg e5]; exact takeCommand_end hR hs h0 h1 h2 h3 (by omega)

set_option maxHeartbeats 2000000 in
theorem readLine_any (st : PS) (hS : Stt w b s ht hw hv hn hm st) (hI : Inv s st) (hs : s.size ≤ 1000) (h0 : 0 ≤ hn) (h1 : hn ≤ 8) (h2 : 1 ≤ hv) (h3 : hv ≤ 256) (hc : isLn (pk s st.p st.bad) = true) :
    Reads 64 #[.pointer (some ⟨b, 0, none⟩)] w b s ht hw hv hn hm (ln1 s hv hn st) := by
  obtain ⟨p, bad, cs⟩ := st
  obtain ⟨cv, hR, hO⟩ := hS
  dsimp only at *
  have hmx : s.size ≤ maxLen := by unfold maxLen; omega
  have hcl : cs.length ≤ 1000 := by have := hI.1; have := hI.2; dsimp only at *; omega
  clear hI hs
  obtain ⟨i0, hi0, hz0, hz1, hz2⟩ := info_parts Try.infoCmd
  obtain ⟨ao, cap, rfl⟩ := hO.shape
  unfold ln1 lcm
  dsimp only
  generalize hk : pk s p bad = k at *
  have hkd := tlin_kind s p hv hn k hc
  generalize hq : tlin s p hv hn k = t at *
  have Ht := hide hq
  have Hk := hide hk
  have Hc := hide hc
  clear hq hk hc
  obtain ⟨p1, b1, c⟩ := t
  obtain ⟨ck, cvar, cxn, cxv, cop, cyn, cyv, cyes, cno, csec, cbeh⟩ := c
  dsimp only at *
  subst hkd
  unfold Reads
  have c7 := hR.cell 8
  simp at c7
  by_cases kj : ck = 106
  · subst kj
    rw [if_pos rfl]
    go_enter Try.func64, Try.ntmps64
    go_wp2_with fail
    refine (takeLine_any hR hmx h0 h1 h2 h3 _ (unhide Hk) (unhide Hc)).mono ?_
    rintro e w1 ⟨rfl, hR1, hg1⟩
    rw [unhide Ht] at hR1 ⊢
    have hap := app_post hR hO hR1 hg1 ⟨106, cvar, cxn, cxv, cop, cyn, cyv, cyes, cno, csec, cbeh⟩
    have HO := hide hap.1
    have HP := hide hap.2
    clear hap
    dsimp only [Cm.cells] at hR1 HP ⊢
    have hbl := At.lt hR1
    clear c7
    have c7 := hR1.cell 8
    simp at c7
    go_wp2_with fail
    go_region_law (refine step_append_mine rfl (.tmp 21) (.tmp 23) 54 rfl 74 i0 _ 11 88 Try.underlying54 hi0 hz0 hz1 hz2 rfl (by decide) (b + 1) (.slice ao cs.length cap) cs.length (flat cs) (by simp [Act.eval]) (by exact unhide HO _ _) ⟨w1.heap.size + 1, 0, none⟩ 1 1 [.int .u8 106, .int .i64 cvar, .bool cxn, .int .i64 cxv, .int .u8 cop, .bool cyn, .int .i64 cyv, .int .i64 cyes, .int .i64 cno, .int .i64 csec, .int .i64 cbeh] (by simp [Act.eval]) rfl (by exact cell_nine_new _ _ _ _ _ _ _ _ _ _ _ _ _ _) (by simp [Value.oneCell']) (by unfold maxLen; omega) (by omega) (by simp; omega) ?_; intro v' w' hO' hg'; obtain ⟨hR', hOwn', hblk, hbel, g', cap', hv', hgb⟩ := unhide HP _ _ _ _ hO' hg'; have c7' := hR'.cell 8; have f7' := hR'.frozen 8; simp at c7'; rw [hv'])
    all_goals
      have hA : At w' w1.heap.size 74 _ := hblk
      have d0 := hA.cell 0
      simp at d0
      have hR2 := Rd.setC hR' (.slice (some ⟨g', 0, none⟩) (cs.length + 1) cap')
      have hO2 := ownsRow_setCell_below hOwn' (a := ⟨b, 8, none⟩) (Nat.lt_succ_self b) (.slice (some ⟨g', 0, none⟩) (cs.length + 1) cap')
      have hB2 := hbel.setCell (p := ⟨b, 8, none⟩) (Nat.le_refl _) (.slice (some ⟨g', 0, none⟩) (cs.length + 1) cap')
      rw [hv'] at hO2
      clear hv' hblk hA c7' f7' hO' hg' hR' hOwn'
      have hS2 := stt_mk hR2 hO2
      clear hR2 hO2
      go_wp2_with fail
      go_end0
      exact ⟨rfl, hS2, hB2⟩
  · rw [if_neg kj]
    have ej : (ck != 106) = true := by simpa using kj
    clear kj
    go_enter Try.func64, Try.ntmps64
    go_wp2_with fail
    refine (takeLine_any hR hmx h0 h1 h2 h3 _ (unhide Hk) (unhide Hc)).mono ?_
    rintro e w1 ⟨rfl, hR1, hg1⟩
    rw [unhide Ht] at hR1 ⊢
    have hap := app_post hR hO hR1 hg1 ⟨ck, cvar, cxn, cxv, cop, cyn, cyv, cs.length + 1, cno, csec, cbeh⟩
    have HO := hide hap.1
    have HP := hide hap.2
    clear hap
    dsimp only [Cm.cells] at hR1 HP ⊢
    have hbl := At.lt hR1
    clear c7
    have c7 := hR1.cell 8
    simp at c7
    go_wp2_with fail
    go_region_law (refine step_append_mine rfl (.tmp 21) (.tmp 23) 54 rfl 74 i0 _ 11 88 Try.underlying54 hi0 hz0 hz1 hz2 rfl (by decide) (b + 1) (.slice ao cs.length cap) cs.length (flat cs) (by simp [Act.eval]) (by exact unhide HO _ _) ⟨w1.heap.size + 1, 0, none⟩ 1 1 [.int .u8 ck, .int .i64 cvar, .bool cxn, .int .i64 cxv, .int .u8 cop, .bool cyn, .int .i64 cyv, .int .i64 (cs.length + 1), .int .i64 cno, .int .i64 csec, .int .i64 cbeh] (by simp [Act.eval]) rfl (by exact cell_nine_new _ _ _ _ _ _ _ _ _ _ _ _ _ _) (by simp [Value.oneCell']) (by unfold maxLen; omega) (by omega) (by simp; omega) ?_; intro v' w' hO' hg'; obtain ⟨hR', hOwn', hblk, hbel, g', cap', hv', hgb⟩ := unhide HP _ _ _ _ hO' hg'; have c7' := hR'.cell 8; have f7' := hR'.frozen 8; simp at c7'; rw [hv'])
    all_goals
      have hA : At w' w1.heap.size 74 _ := hblk
      have d0 := hA.cell 0
      simp at d0
      have hR2 := Rd.setC hR' (.slice (some ⟨g', 0, none⟩) (cs.length + 1) cap')
      have hO2 := ownsRow_setCell_below hOwn' (a := ⟨b, 8, none⟩) (Nat.lt_succ_self b) (.slice (some ⟨g', 0, none⟩) (cs.length + 1) cap')
      have hB2 := hbel.setCell (p := ⟨b, 8, none⟩) (Nat.le_refl _) (.slice (some ⟨g', 0, none⟩) (cs.length + 1) cap')
      rw [hv'] at hO2
      clear hv' hblk hA c7' f7' hO' hg' hR' hOwn'
      have hS2 := stt_mk hR2 hO2
      clear hR2 hO2
      go_wp2_with fail
      go_end0
      exact ⟨rfl, hS2, hB2⟩
end
end Go.Proofs.Ytnkbfdbbcaffmab
