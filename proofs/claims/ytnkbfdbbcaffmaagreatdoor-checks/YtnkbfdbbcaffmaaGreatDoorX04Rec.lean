import Derived.Test.YtnkbfdbbcaffmaaGreatDoorX03Model
import Derived.Deep.LoopGhost
/-
  readBlock, readBranch, readLoop, readBody.
-/
namespace Go.Proofs.YtnkbfdbbcaffmaaGreatDoor
open Go.RowKit

section
variable {b : Nat} {s : ByteArray} {ht : ByteArray} {hw hv hn hm : Int}

theorem take_stt {st : PS} {w : World} (hS : Stt w b s ht hw hv hn hm st) (hs : s.size ≤ maxLen) (c : Int) :
    Reads 79 #[.pointer (some ⟨b, 0, none⟩), .int .u8 c] w b s ht hw hv hn hm ⟨(tk s st.p st.bad c).1, (tk s st.p st.bad c).2, st.cs⟩ := by
  obtain ⟨cv, hR, hO⟩ := hS
  unfold Reads
  refine (take_any hR hs c).mono ?_
  rintro e w' ⟨rfl, hR', hg⟩
  have hne : cv.ownBlock ≠ some b := by
    intro e
    have := (World.ownsRow.lt hO) b e
    omega
  exact ⟨rfl, ⟨cv, hR', World.ownsRow.kept hO hg (.inr hne)⟩, gb_below hg (Nat.le_of_lt (At.lt hR))⟩

/-- The body's contract, for texts of which no more than N is left. -/
def BodyOK (b : Nat) (s : ByteArray) (ht : ByteArray) (hw hv hn hm : Int) (f : PS → PS) (N : Nat) : Prop :=
  ∀ st w, Stt w b s ht hw hv hn hm st → Inv s st → lft s st ≤ N → Reads 48 #[.pointer (some ⟨b, 0, none⟩)] w b s ht hw hv hn hm (f st)

def Fine (s : ByteArray) (f : PS → PS) (N : Nat) : Prop := ∀ st, Inv s st → lft s st ≤ N → Nxt s st (f st)

set_option maxHeartbeats 1000000 in
theorem readBlock_any {f : PS → PS} {N : Nat} (hB : BodyOK b s ht hw hv hn hm f N) (hs : s.size ≤ maxLen) (st : PS) (w : World) (hS : Stt w b s ht hw hv hn hm st) (hI : Inv s st) (hl : lft s st ≤ N) :
    Reads 141 #[.pointer (some ⟨b, 0, none⟩)] w b s ht hw hv hn hm (blk f s st) := by
  unfold blk
  dsimp only
  have n1 := nxt_tk hI 40
  have hl1 : Hid (lft s ⟨(tk s st.p st.bad 40).1, (tk s st.p st.bad 40).2, st.cs⟩ ≤ N) := Nat.le_trans n1.lft hl
  have hI1 := hide n1.2.2
  clear n1 hI hl
  have h1 := take_stt hS hs 40
  unfold Reads at h1 ⊢
  generalize hst1 : (⟨(tk s st.p st.bad 40).1, (tk s st.p st.bad 40).2, st.cs⟩ : PS) = st1 at *
  clear hst1
  have H1 := hide h1
  clear h1
  generalize hst2 : f st1 = st2 at *
  have Hst2 := hide hst2
  clear hst2
  have hs' := hide hs
  clear hs
  go_enter Tryz.func141, Tryz.ntmps141
  go_wp2_with fail
  refine (unhide H1).mono ?_
  rintro e w1 ⟨rfl, hS1, hB1⟩
  go_wp2_with fail
  have h2 := hB st1 w1 hS1 (unhide hI1) (unhide hl1)
  unfold Reads at h2
  refine h2.mono ?_
  rintro e w2 ⟨rfl, hS2, hB2⟩
  rw [unhide Hst2] at hS2
  clear h2
  go_wp2_with fail
  have h3 := take_stt hS2 (unhide hs') 41
  unfold Reads at h3
  refine h3.mono ?_
  rintro e w3 ⟨rfl, hS3, hB3⟩
  clear h3
  go_wp2_with fail
  go_end0
  exact ⟨rfl, hS3, hB1.trans (hB2.trans hB3)⟩

theorem Own.putNo {w : World} {g n cap : Nat} {cs : List Cm} (h : Own w b (.slice (some ⟨g, 0, none⟩) n cap) cs) {i : Nat} (hi : i < cs.length) (v : Int) :
    Own (w.setCell ⟨g, i * 11 + 8, none⟩ (.int .i64 v)) b (.slice (some ⟨g, 0, none⟩) n cap) (setNo cs i v) := by
  have hc : cs[i]? = some cs[i] := List.getElem?_eq_getElem hi
  unfold setNo
  rw [hc]
  exact h.put hc (by omega) rfl

theorem Own.putBr {w : World} {g n cap : Nat} {cs : List Cm} (h : Own w b (.slice (some ⟨g, 0, none⟩) n cap) cs) {i : Nat} (hi : i < cs.length) (v e : Int) :
    Own (((w.setCell ⟨g, i * 11 + 8, none⟩ (.int .i64 v)).setCell ⟨g, i * 11 + 9, none⟩ (.int .i64 v)).setCell ⟨g, i * 11 + 10, none⟩ (.int .i64 e)) b (.slice (some ⟨g, 0, none⟩) n cap) (setBr cs i v e) := by
  have hc : cs[i]? = some cs[i] := List.getElem?_eq_getElem hi
  unfold setBr
  rw [hc]
  have h1 := h.put (c' := { cs[i] with no := v }) (j := 8) (v := .int .i64 v) hc (by omega) rfl
  have h2 := h1.put (i := i) (c := { cs[i] with no := v }) (c' := { cs[i] with no := v, sec := v }) (j := 9) (v := .int .i64 v) (by simp [hi]) (by omega) rfl
  have h3 := h2.put (i := i) (c := { cs[i] with no := v, sec := v }) (c' := { cs[i] with no := v, sec := v, beh := e }) (j := 10) (v := .int .i64 e) (by simp [hi]) (by omega) rfl
  rw [List.set_set, List.set_set] at h3
  exact h3

set_option maxHeartbeats 2000000 in
theorem readLoop_any {f : PS → PS} {N : Nat} (hB : BodyOK b s ht hw hv hn hm f N) (hF : Fine s f N) (hs : s.size ≤ 1000) (i : Nat) (st : PS) (w : World) (hS : Stt w b s ht hw hv hn hm st) (hI : Inv s st) (hl : lft s st ≤ N) (hi : i < st.cs.length) :
    Reads 109 #[.pointer (some ⟨b, 0, none⟩), .int .i64 i] w b s ht hw hv hn hm (lop i (blk f s st)) := by
  have hmx : s.size ≤ maxLen := by unfold maxLen; omega
  have h1 := readBlock_any hB hmx st w hS hI hl
  have n1 := blk_nxt hF hI hl
  generalize hst1 : blk f s st = st1 at *
  clear hst1
  have hlen : i < st1.cs.length := Nat.lt_of_lt_of_le hi n1.2.1
  have hcap : st1.cs.length ≤ 1000 := by have := n1.2.2.1; have := n1.2.2.2; omega
  clear n1 hI hl hB hF
  unfold lop
  obtain ⟨p1, b1, cs1⟩ := st1
  dsimp only at *
  unfold Reads at h1 ⊢
  have H1 := hide h1
  clear h1
  go_enter Tryz.func109, Tryz.ntmps109
  go_wp2_with fail
  refine (unhide H1).mono ?_
  rintro e w1 ⟨rfl, ⟨cv, hR1, hO1⟩, hB1⟩
  dsimp only at hR1 hO1
  obtain ⟨g, cap, rfl, hg⟩ := hO1.form (by rintro rfl; simp at hlen)
  have c7 := hR1.cell 8
  simp at c7
  go_wp2_with fail
  refine (redirect_any hR1 hO1 i cs1.length i hlen (Nat.le_refl _) hcap).mono ?_
  rintro e w2 ⟨rfl, hR2, hO2, hB2⟩
  have hlr := rdr_length cs1 i cs1.length cs1.length i
  have hO3 := hO2.putNo (i := i) (by rw [hlr]; exact hlen) cs1.length
  have hlen2 : i < (rdr cs1 i cs1.length cs1.length i).length := by rw [hlr]; exact hlen
  obtain ⟨cc, hcc⟩ : ∃ cc, (rdr cs1 i cs1.length cs1.length i)[i]? = some cc := ⟨_, List.getElem?_eq_getElem hlen2⟩
  have y := hO2.at_ hcc 8 (by omega)
  have fz := fun j => hO2.fz j
  simp [Cm.cells] at y
  clear hlr hlen2 hcc c7
  have c7 := hR2.cell 8
  simp at c7
  have hR3 := Rd.other hR2 (a := ⟨g, i * 11 + 8, none⟩) (.int .i64 cs1.length) (by show g ≠ b; omega)
  go_wp2_with fail
  go_end0
  exact ⟨rfl, ⟨_, hR3, hO3⟩, (hB1.trans hB2).setCell (Nat.le_of_lt hg) _⟩

set_option maxHeartbeats 2000000 in
theorem readBranch_any {f : PS → PS} {N : Nat} (hB : BodyOK b s ht hw hv hn hm f N) (hF : Fine s f N) (hs : s.size ≤ 1000) (i : Nat) (st : PS) (w : World) (hS : Stt w b s ht hw hv hn hm st) (hI : Inv s st) (hl : lft s st ≤ N) (hi : i < st.cs.length) :
    Reads 108 #[.pointer (some ⟨b, 0, none⟩), .int .i64 i] w b s ht hw hv hn hm (brn i (blk f s st) (blk f s (blk f s st))) := by
  have hmx : s.size ≤ maxLen := by unfold maxLen; omega
  have h1 := readBlock_any hB hmx st w hS hI hl
  have n1 := blk_nxt hF hI hl
  generalize hst1 : blk f s st = st1 at *
  clear hst1
  have h2 : ∀ w1, Stt w1 b s ht hw hv hn hm st1 → _ := fun w1 h => readBlock_any hB hmx st1 w1 h n1.2.2 (Nat.le_trans n1.lft hl)
  have n2 := blk_nxt hF n1.2.2 (Nat.le_trans n1.lft hl)
  generalize hst2 : blk f s st1 = st2 at *
  clear hst2
  have hlen : i < st1.cs.length := Nat.lt_of_lt_of_le hi n1.2.1
  have hlen' : st1.cs.length ≤ st2.cs.length := n2.2.1
  have hcap : st2.cs.length ≤ 1000 := by have := n2.2.2.1; have := n2.2.2.2; omega
  clear n1 n2 hI hl hB hF
  unfold brn
  obtain ⟨p1, b1, cs1⟩ := st1
  obtain ⟨p2, b2, cs2⟩ := st2
  dsimp only at *
  unfold Reads at h1 h2 ⊢
  have H1 := hide h1
  have H2 := hide h2
  clear h1 h2
  go_enter Tryz.func108, Tryz.ntmps108
  go_wp2_with fail
  refine (unhide H1).mono ?_
  rintro e w1 ⟨rfl, hS1, hB1⟩
  have HS1 := hide hS1
  obtain ⟨cv, hR1, hO1⟩ := hS1
  dsimp only at hR1 hO1
  obtain ⟨g0, cap0, rfl, hg0⟩ := hO1.form (by rintro rfl; simp at hlen)
  have c7 := hR1.cell 8
  simp at c7
  clear hO1
  go_wp2_with fail
  refine (unhide H2 w1 (unhide HS1)).mono ?_
  clear c7
  rintro e w2 ⟨rfl, ⟨cv, hR2, hO2⟩, hB2⟩
  dsimp only at hR2 hO2
  obtain ⟨g, cap, rfl, hg⟩ := hO2.form (by intro e; rw [e] at hlen'; simp at hlen'; rw [hlen'] at hlen; simp at hlen)
  have c7 := hR2.cell 8
  simp at c7
  go_wp2_with fail
  refine (redirect_any hR2 hO2 i cs1.length cs2.length hlen hlen' hcap).mono ?_
  rintro e w3 ⟨rfl, hR3, hO3, hB3⟩
  have hlr := rdr_length cs2 i cs1.length cs1.length cs2.length
  have hlen2 : i < (rdr cs2 i cs1.length cs1.length cs2.length).length := by rw [hlr]; omega
  have hO4 := hO3.putBr (i := i) hlen2 cs1.length cs2.length
  obtain ⟨cc, hcc⟩ : ∃ cc, (rdr cs2 i cs1.length cs1.length cs2.length)[i]? = some cc := ⟨_, List.getElem?_eq_getElem hlen2⟩
  have y := hO3.at_ hcc 8 (by omega)
  have y9 := hO3.at_ hcc 9 (by omega)
  have y10 := hO3.at_ hcc 10 (by omega)
  have fz := fun j => hO3.fz j
  simp [Cm.cells] at y y9 y10
  have hlt2 : i < cs2.length := by omega
  clear hlr hlen2 hcc c7
  have c7 := hR3.cell 8
  simp at c7
  have hR4 := Rd.other (Rd.other (Rd.other hR3 (a := ⟨g, i * 11 + 8, none⟩) (.int .i64 cs1.length) (by show g ≠ b; omega)) (a := ⟨g, i * 11 + 9, none⟩) (.int .i64 cs1.length) (by show g ≠ b; omega)) (a := ⟨g, i * 11 + 10, none⟩) (.int .i64 cs2.length) (by show g ≠ b; omega)
  go_wp2_with fail
  go_end0
  exact ⟨rfl, ⟨_, hR4, hO4⟩, (((hB1.trans (hB2.trans hB3)).setCell (Nat.le_of_lt hg) _).setCell (Nat.le_of_lt hg) _).setCell (Nat.le_of_lt hg) _⟩

set_option maxHeartbeats 2000000 in
theorem readBody_of (hs : s.size ≤ 1000) (F : Nat)
    (hC : ∀ f, f < F → ∀ st w, Stt w b s ht hw hv hn hm st → Inv s st → lft s st ≤ f + 1 → isCmd (pk s st.p st.bad) = true → Reads 82 #[.pointer (some ⟨b, 0, none⟩)] w b s ht hw hv hn hm (cmdStep (rdB s hv hn f) s hv hn st)) :
    BodyOK b s ht hw hv hn hm (rdB s hv hn F) F := by
  intro st w hS hI hl
  have hmx : s.size ≤ maxLen := by unfold maxLen; omega
  generalize hfin : rdB s hv hn F st = fin
  have Hfin := hide hfin
  clear hfin
  unfold Reads
  have HC := hide hC
  clear hC
  go_enter Tryz.func48, Tryz.ntmps48
  go_wp2_with fail
  go_loopg [] F (fun f wr => ∃ st', Hid (Stt wr b s ht hw hv hn hm st') ∧ Hid (Inv s st') ∧ Hid (lft s st' ≤ f) ∧ f ≤ F ∧ Hid (rdB s hv hn f st' = fin) ∧ Below b w wr)
  case atStart => exact ⟨st, hS, hI, hl, Nat.le_refl _, Hfin, Below.refl _ _⟩
  case round =>
    obtain ⟨st', hS', hI', hl', hle, hr, hB⟩ := hrel
    obtain ⟨cv, hR', hO'⟩ := unhide hS'
    cases hc : isCmd (pk s st'.p st'.bad) with
    | true =>
      have Hc := hide hc
      clear hc
      have hpos : 0 < gk := by
        have h1 := isCmd_pk (unhide Hc)
        have h2 := unhide hl'
        unfold lft at h2
        rw [h1.1] at h2
        simp at h2
        omega
      obtain ⟨f, rfl⟩ : ∃ f, gk = f + 1 := ⟨gk - 1, by omega⟩
      have hcmd := unhide HC f (by omega)
      have Hcmd := hide hcmd
      clear hcmd
      go_wp2_with fail
      refine (peek_any hR' hmx).mono ?_
      rintro e w1 ⟨rfl, n, rfl⟩
      go_wp2_with fail
      refine (isCommand_any _ _).mono ?_
      rintro e w1 ⟨rfl, rfl⟩
      rw [unhide Hc]
      go_wp2_with fail
      have hcall := unhide Hcmd st' (wr.drewN n) ⟨cv, hR', hO'⟩ (unhide hI') (unhide hl') (unhide Hc)
      unfold Reads at hcall
      refine hcall.mono ?_
      rintro e w2 ⟨rfl, hS2, hB2⟩
      clear hcall
      obtain ⟨hn1, hn2⟩ := step_nxt (hv := hv) (hn := hn) (rdb := rdB s hv hn f) (N := f) (rdB_nxt s hv hn f) (unhide hI') (unhide hl') (unhide Hc)
      have hr2 : rdB s hv hn f (cmdStep (rdB s hv hn f) s hv hn st') = fin := by
        have := unhide hr
        rw [rdB, if_pos (unhide Hc)] at this
        exact this
      have hl2 : lft s (cmdStep (rdB s hv hn f) s hv hn st') ≤ f := by have := unhide hl'; omega
      have HN := hide hn1.2.2
      have HR2 := hide hr2
      have HL2 := hide hl2
      clear hn1 hn2 hr2 hl2
      go_wp2_with fail
      go_roundg f
      case measure => omega
      case rel => exact ⟨_, hS2, HN, HL2, by omega, HR2, hB.trans ((below_drewN (Below.refl _ _) n).trans hB2)⟩
    | false =>
      have Hc := hide hc
      clear hc
      have hst : st' = fin := by
        have := unhide hr
        cases gk with
        | zero => exact this
        | succ f => rw [rdB, if_neg (by rw [unhide Hc]; simp)] at this; exact this
      have Hst := hide hst
      clear hst
      go_wp2_with fail
      refine (peek_any hR' hmx).mono ?_
      rintro e w1 ⟨rfl, n, rfl⟩
      go_wp2_with fail
      refine (isCommand_any _ _).mono ?_
      rintro e w1 ⟨rfl, rfl⟩
      rw [unhide Hc]
      go_wp2_with fail
      go_end0
      rw [← unhide Hst]
      exact ⟨rfl, ⟨cv, hR', hO'⟩, below_drewN hB n⟩

theorem body_all (hs : s.size ≤ 1000) (h0 : 0 ≤ hn) (h1 : hn ≤ 8) (h2 : 1 ≤ hv) (h3 : hv ≤ 256) : ∀ F, ∀ f, f ≤ F → BodyOK b s ht hw hv hn hm (rdB s hv hn f) f
  | 0, f, hf => readBody_of hs f (fun g hg => by omega)
  | F + 1, f, hf => readBody_of hs f (fun g hg st w hS hI hl hc => by
    have hB := body_all hs h0 h1 h2 h3 F g (by omega)
    have hF : Fine s (rdB s hv hn g) g := fun st hI hl => rdB_nxt s hv hn g st hI hl
    exact readCommand_any (rdB s hv hn g) b s ht hw hv hn hm g st w
      (fun st1 w1 a c d e => readBranch_any hB hF hs st.cs.length st1 w1 a c d e)
      (fun st1 w1 a c d e => readLoop_any hB hF hs st.cs.length st1 w1 a c d e) hS hI hl hs h0 h1 h2 h3 hc)
end
end Go.Proofs.YtnkbfdbbcaffmaaGreatDoor
/-
  ReadKernel, leak.Check.
-/
namespace Go.Proofs.YtnkbfdbbcaffmaaGreatDoor
open Go.RowKit

/-- The reader's state at the text's end. -/
def krn (s : ByteArray) : PS := rdB s (pw (hdr s).2.2.1) (hdr s).2.2.2.1 s.size ⟨(hdr s).1, (hdr s).2.1, []⟩

def krnBad (s : ByteArray) : Bool := (krn s).bad || decide ((krn s).p < s.size)

theorem hdr_wid (s : ByteArray) : 1 ≤ (hdr s).2.2.1 ∧ (hdr s).2.2.1 ≤ 8 := by
  have := tb_wid s 0 false
  unfold hdr
  dsimp only
  omega
theorem hdr_vars (s : ByteArray) : (hdr s).2.2.2.1 ≤ 8 := by
  unfold hdr
  dsimp only
  exact cnt_le _ _ _ _
theorem krn_le (s : ByteArray) : (krn s).p ≤ s.size :=
  (rdB_nxt s _ _ s.size ⟨(hdr s).1, (hdr s).2.1, []⟩ ⟨Nat.zero_le _, hdr_le s⟩ (by unfold lft; split <;> simp)).2.2.2
theorem krn_len (s : ByteArray) : (krn s).cs.length ≤ s.size := by
  have := (rdB_nxt s (pw (hdr s).2.2.1) (hdr s).2.2.2.1 s.size ⟨(hdr s).1, (hdr s).2.1, []⟩ ⟨Nat.zero_le _, hdr_le s⟩ (by unfold lft; split <;> simp)).2.2
  exact Nat.le_trans this.1 this.2

theorem At.eight {w : World} {c : Nat} {t : TypeId} {v0 v1 v2 v3 v4 v5 v6 v7 : Value} (h : At w c t #[v0, v1, v2, v3, v4, v5, v6, v7]) :
    w.cell? ⟨c, 0, none⟩ = some v0 ∧ w.cell? ⟨c, 1, none⟩ = some v1 ∧ w.cell? ⟨c, 2, none⟩ = some v2 ∧ w.cell? ⟨c, 3, none⟩ = some v3 ∧ w.cell? ⟨c, 4, none⟩ = some v4 ∧ w.cell? ⟨c, 5, none⟩ = some v5 ∧ w.cell? ⟨c, 6, none⟩ = some v6 ∧ w.cell? ⟨c, 7, none⟩ = some v7 ∧ (∀ j, w.frozen? ⟨c, j, none⟩ = false) := by
  refine ⟨?_, ?_, ?_, ?_, ?_, ?_, ?_, ?_, fun j => h.frozen j⟩ <;> (rw [h.cell]; rfl)

theorem bset8 {c : Nat} {w w2 : World} (h : Below c w w2) (v0 v1 v2 v3 v4 v5 v6 v7 : Value) :
    Below c w ((((((((w2.setCell ⟨c, 0, none⟩ v0).setCell ⟨c, 1, none⟩ v1).setCell ⟨c, 2, none⟩ v2).setCell ⟨c, 3, none⟩ v3).setCell ⟨c, 4, none⟩ v4).setCell ⟨c, 5, none⟩ v5).setCell ⟨c, 6, none⟩ v6).setCell ⟨c, 7, none⟩ v7) := ((((((((h.setCell (Nat.le_refl _) _).setCell (Nat.le_refl _) _).setCell (Nat.le_refl _) _).setCell (Nat.le_refl _) _).setCell (Nat.le_refl _) _).setCell (Nat.le_refl _) _).setCell (Nat.le_refl _) _).setCell (Nat.le_refl _) _)
theorem oset8 {c : Nat} {w : World} {cv : Value} {cs : List Cm} (h : Own w (c + 1) cv cs) (v0 v1 v2 v3 v4 v5 v6 v7 : Value) :
    Own ((((((((w.setCell ⟨c, 0, none⟩ v0).setCell ⟨c, 1, none⟩ v1).setCell ⟨c, 2, none⟩ v2).setCell ⟨c, 3, none⟩ v3).setCell ⟨c, 4, none⟩ v4).setCell ⟨c, 5, none⟩ v5).setCell ⟨c, 6, none⟩ v6).setCell ⟨c, 7, none⟩ v7) (c + 1) cv cs := by
  have hc : c < c + 1 + 1 := by omega
  exact (ownsRow_setCell_below (ownsRow_setCell_below (ownsRow_setCell_below (ownsRow_setCell_below (ownsRow_setCell_below (ownsRow_setCell_below (ownsRow_setCell_below (ownsRow_setCell_below h hc _) hc _) hc _) hc _) hc _) hc _) hc _) hc _)

/-- A program as it was read. -/
structure Pg where
  e : Int
  z1 : Int
  tx : ByteArray
  W : Nat
  V : Int
  n : Nat
  m : Nat
  cs : List Cm

def Pg.val (q : Pg) (ao : Option Addr) (cap : Nat) : Value :=
  .agg #[.int .i64 q.e, .int .i64 q.z1, .string q.tx, .int .i64 q.W, .int .i64 q.V, .int .i64 q.n, .int .i64 q.m, .slice ao q.cs.length cap]

/-- What ReadKernel answers. -/
def kernV (s : ByteArray) (cv : Value) : Value :=
  if 300 < s.size then .agg #[.int .i64 1, .int .i64 0, .string ⟨#[]⟩, .int .i64 0, .int .i64 0, .int .i64 0, .int .i64 0, .slice none 0 0]
  else if krnBad s = true then .agg #[.int .i64 2, .int .i64 (krn s).p, .string ⟨#[]⟩, .int .i64 0, .int .i64 0, .int .i64 0, .int .i64 0, .slice none 0 0]
  else .agg #[.int .i64 0, .int .i64 0, .string (s.extract 0 (hdr s).1), .int .i64 (hdr s).2.2.1, .int .i64 (pw (hdr s).2.2.1), .int .i64 (hdr s).2.2.2.1, .int .i64 (hdr s).2.2.2.2, cv]

set_option maxHeartbeats 2000000 in
theorem readKernel_any (s : ByteArray) (hmx : s.size ≤ maxLen) (w : World) :
    Calls Tryz.prog 25 #[.string s] w fun e w' => ∃ ao n cap, e = .returned (kernV s (.slice ao n cap)) ∧ Below w.heap.size w w' ∧ (s.size ≤ 300 → Own w' (w.heap.size + 1) (.slice ao n cap) (krn s).cs) := by
  have hmx' := hmx
  unfold maxLen at hmx'
  by_cases hbig : 300 < s.size
  · have hkv : kernV s (.slice none 0 0) = .agg #[.int .i64 1, .int .i64 0, .string ⟨#[]⟩, .int .i64 0, .int .i64 0, .int .i64 0, .int .i64 0, .slice none 0 0] := by unfold kernV; rw [if_pos hbig]
    have Hkv := hide hkv
    clear hkv
    go_enter Tryz.func25, Tryz.ntmps25
    go_wp2_with fail
    refine bodyPost_ret (v := .agg #[.int .i64 1, .int .i64 0, .string ⟨#[]⟩, .int .i64 0, .int .i64 0, .int .i64 0, .int .i64 0, .slice none 0 0]) (by simp [results, Tryz.results25, go_sem]) rfl ⟨none, 0, 0, by rw [unhide Hkv], ?_, fun h => by omega⟩
    exact (Below.refl _ _).alloc (Nat.le_refl _) _
  · have hsm : s.size ≤ 1000 := by omega
    have hvr := hdr_vars s
    have hpw := pw_bd _ (hdr_wid s).2
    have hbody := body_all (b := w.heap.size + 1) (s := s) (ht := s.extract 0 (hdr s).1) (hw := (hdr s).2.2.1) (hv := pw (hdr s).2.2.1) (hn := (hdr s).2.2.2.1) (hm := (hdr s).2.2.2.2) hsm (by omega) (by omega) hpw.1 hpw.2 s.size s.size (Nat.le_refl _)
      ⟨(hdr s).1, (hdr s).2.1, []⟩
    have hI : Inv s ⟨(hdr s).1, (hdr s).2.1, []⟩ := ⟨Nat.zero_le _, hdr_le s⟩
    have hl : lft s ⟨(hdr s).1, (hdr s).2.1, []⟩ ≤ s.size := by unfold lft; split <;> simp
    have hbody2 := fun w1 h => hbody w1 h hI hl
    have hkp := krn_le s
    rw [show rdB s (pw (hdr s).2.2.1) (hdr s).2.2.2.1 s.size ⟨(hdr s).1, (hdr s).2.1, []⟩ = krn s from rfl] at hbody2
    unfold Reads at hbody2
    have Hb := hide hbody2
    clear hbody hbody2 hI hl hvr hpw
    have hKV : ∀ cv, kernV s cv = if krnBad s = true then .agg #[.int .i64 2, .int .i64 (krn s).p, .string ⟨#[]⟩, .int .i64 0, .int .i64 0, .int .i64 0, .int .i64 0, .slice none 0 0] else .agg #[.int .i64 0, .int .i64 0, .string (s.extract 0 (hdr s).1), .int .i64 (hdr s).2.2.1, .int .i64 (pw (hdr s).2.2.1), .int .i64 (hdr s).2.2.2.1, .int .i64 (hdr s).2.2.2.2, cv] := fun cv => by
      unfold kernV; rw [if_neg hbig]
    have HKV := hide hKV
    clear hKV
    generalize hH : hdr s = H at *
    obtain ⟨hp, hb, hW, hN, hM⟩ := H
    have HH := hide hH
    clear hH
    dsimp only at *
    have hkb : krnBad s = ((krn s).bad || decide ((krn s).p < s.size)) := rfl
    have Hkb := hide hkb
    clear hkb
    generalize hK : krn s = K at *
    obtain ⟨kp, kb, kcs⟩ := K
    clear hK
    dsimp only at *
    generalize hV : pw hW = V at *
    have HV := hide hV
    clear hV
    generalize hB : krnBad s = B at *
    clear hB
    go_enter Tryz.func25, Tryz.ntmps25
    go_wp2_with fail
    refine (readHead_any (b := w.heap.size + 1) (s := s) (ht := ⟨#[]⟩) (hw := 0) (hv := 0) (hn := 0) (hm := 0) (cv := .slice none 0 0) (by
      have := At.new (w.alloc (.cells #[.int .i64 0, .int .i64 0, .string ⟨#[]⟩, .int .i64 0, .int .i64 0, .int .i64 0, .int .i64 0, .slice none 0 0] 44)) 75 #[.string s, .int .i64 0, .bool false, .string ⟨#[]⟩, .int .i64 0, .int .i64 0, .int .i64 0, .int .i64 0, .slice none 0 0]
      simpa [Rd] using this) hmx).mono ?_
    rintro e w1 ⟨rfl, hR1, hg1⟩
    rw [unhide HH] at hR1
    dsimp only at hR1
    rw [unhide HV] at hR1
    have hA1 := At.grown (At.alloc (At.new w 44 #[.int .i64 0, .int .i64 0, .string ⟨#[]⟩, .int .i64 0, .int .i64 0, .int .i64 0, .int .i64 0, .slice none 0 0]) _) hg1 (by simp)
    have hB1 := gb_below hg1 (by simp)
    have HA1 := hide hA1
    have HB1 := hide (((Below.refl w.heap.size w).alloc (Nat.le_refl _) _).alloc (by simp) _ |>.trans (hB1.mono (Nat.le_succ _)))
    clear hA1 hB1
    go_wp2_with fail
    have hS1 : Stt w1 (w.heap.size + 1) s (s.extract 0 hp) hW V hN hM ⟨hp, hb, []⟩ := ⟨_, hR1, World.ownsRow_nil w1 _ _ _⟩
    refine (unhide Hb w1 hS1).mono ?_
    rintro e w2 ⟨rfl, ⟨cv, hR2, hO2⟩, hB2⟩
    dsimp only at hR2 hO2
    have hA2 : At w2 w.heap.size 44 #[.int .i64 0, .int .i64 0, .string ⟨#[]⟩, .int .i64 0, .int .i64 0, .int .i64 0, .int .i64 0, .slice none 0 0] := by
      have := unhide HA1
      unfold At at this ⊢
      rw [hB2.block w.heap.size (by omega)]; exact this
    have hBB := (unhide HB1).trans (hB2.mono (Nat.le_succ _))
    obtain ⟨ao, cap, rfl⟩ := hO2.shape
    obtain ⟨c0, c1, c2, c3, c4, c5, c6, c7, c8, cf⟩ := At.nine hR2
    obtain ⟨r0, r1, r2, r3, r4, r5, r6, r7, rf⟩ := At.eight hA2
    clear HA1 HB1 hA2 hR1 hS1
    cases kb with
    | true =>
      have HB : Hid (B = true) := by rw [unhide Hkb]; rfl
      go_wp2_with fail
      refine bodyPost_ret (v := .agg #[.int .i64 2, .int .i64 kp, .string ⟨#[]⟩, .int .i64 0, .int .i64 0, .int .i64 0, .int .i64 0, .slice none 0 0]) (by simp [results, Tryz.results25, go_sem, r0, r1, r2, r3, r4, r5, r6, r7]) rfl ⟨ao, kcs.length, cap, by rw [unhide HKV, if_pos (by rw [unhide HB])], ?_, fun _ => ?_⟩
      · exact bset8 hBB _ _ _ _ _ _ _ _
      · exact oset8 hO2 _ _ _ _ _ _ _ _
    | false =>
      by_cases hlt : kp < s.size
      · have HB : Hid (B = true) := by rw [unhide Hkb]; simp [Hid, hlt]
        go_wp2_with fail
        refine bodyPost_ret (v := .agg #[.int .i64 2, .int .i64 kp, .string ⟨#[]⟩, .int .i64 0, .int .i64 0, .int .i64 0, .int .i64 0, .slice none 0 0]) (by simp [results, Tryz.results25, go_sem, r0, r1, r2, r3, r4, r5, r6, r7]) rfl ⟨ao, kcs.length, cap, by rw [unhide HKV, if_pos (by rw [unhide HB])], ?_, fun _ => ?_⟩
        · exact bset8 hBB _ _ _ _ _ _ _ _
        · exact oset8 hO2 _ _ _ _ _ _ _ _
      · have HB : Hid (B = false) := by rw [unhide Hkb]; simp [Hid, hlt]
        go_wp2_with fail
        refine bodyPost_ret (v := .agg #[.int .i64 0, .int .i64 0, .string (s.extract 0 hp), .int .i64 hW, .int .i64 V, .int .i64 hN, .int .i64 hM, .slice ao kcs.length cap]) (by simp [results, Tryz.results25, go_sem, r0, r1, r2, r3, r4, r5, r6, r7]) rfl ⟨ao, kcs.length, cap, by rw [unhide HKV, if_neg (by rw [unhide HB]; simp)], ?_, fun _ => ?_⟩
        · exact bset8 hBB _ _ _ _ _ _ _ _
        · exact oset8 hO2 _ _ _ _ _ _ _ _

/-- What Check answers. -/
def chk (s : ByteArray) : Int × Int := if 300 < s.size then (1, 0) else if krnBad s = true then (2, (krn s).p) else (0, 0)

theorem kernV_form (s : ByteArray) (ao : Option Addr) (n cap : Nat) : ∃ c1 c2 c3 c4 c5 ao' n' cap', kernV s (.slice ao n cap) = .agg #[.int .i64 (chk s).1, .int .i64 (chk s).2, .string c1, .int .i64 c2, .int .i64 c3, .int .i64 c4, .int .i64 c5, .slice ao' n' cap'] := by
  unfold kernV chk
  split
  · exact ⟨_, _, _, _, _, _, _, _, rfl⟩
  · split
    · exact ⟨_, _, _, _, _, _, _, _, rfl⟩
    · exact ⟨_, _, _, _, _, _, _, _, rfl⟩
end Go.Proofs.YtnkbfdbbcaffmaaGreatDoor
