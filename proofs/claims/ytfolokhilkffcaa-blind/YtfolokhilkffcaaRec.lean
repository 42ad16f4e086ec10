/-
  readBlock, readBranch, readLoop, readBody.
-/
import Derived.Test.YtfolokhilkffcaaApp
import Derived.Deep.LoopGhost
namespace Go.Proofs.Ytfolokhilkffcaa
open Go.RowKit

section
variable {b : Nat} {s : ByteArray} {hw hv hn hm : Int}

theorem take_stt {st : PS} {w : World} (hS : Stt w b s hw hv hn hm st) (hs : s.size ≤ maxLen) (c : Int) :
    Reads 41 #[.pointer (some ⟨b, 0, none⟩), .int .u8 c] w b s hw hv hn hm ⟨(tk s st.p st.bad c).1, (tk s st.p st.bad c).2, st.cs⟩ := by
  obtain ⟨cv, hR, hO⟩ := hS
  unfold Reads
  refine (take_any hR hs c).mono ?_
  rintro e w' ⟨rfl, hR', hg⟩
  have hne : cv.ownBlock ≠ some b := by
    intro e
    have := (World.ownsRow.lt hO) b e
    omega
  exact ⟨rfl, ⟨cv, hR', World.ownsRow.kept hO hg (.inr hne)⟩, gb_below hg (Nat.le_of_lt (At.lt hR))⟩

/-- The body's contract, for texts of which no more than N is left. -/
def BodyOK (b : Nat) (s : ByteArray) (hw hv hn hm : Int) (f : PS → PS) (N : Nat) : Prop :=
  ∀ st w, Stt w b s hw hv hn hm st → Inv s st → lft s st ≤ N → Reads 33 #[.pointer (some ⟨b, 0, none⟩)] w b s hw hv hn hm (f st)

def Fine (s : ByteArray) (f : PS → PS) (N : Nat) : Prop := ∀ st, Inv s st → lft s st ≤ N → Nxt s st (f st)

set_option maxHeartbeats 1000000 in
theorem readBlock_any {f : PS → PS} {N : Nat} (hB : BodyOK b s hw hv hn hm f N) (hs : s.size ≤ maxLen) (st : PS) (w : World) (hS : Stt w b s hw hv hn hm st) (hI : Inv s st) (hl : lft s st ≤ N) :
    Reads 62 #[.pointer (some ⟨b, 0, none⟩)] w b s hw hv hn hm (blk f s st) := by
  unfold blk
  dsimp only
  have n1 := nxt_tk hI 40
  have hl1 : Hid (lft s ⟨(tk s st.p st.bad 40).1, (tk s st.p st.bad 40).2, st.cs⟩ ≤ N) := Nat.le_trans n1.lft hl
  have hI1 := hide n1.2.2
  clear n1 hI hl
  have h1 := take_stt hS hs 40
  unfold Reads at h1 ⊢
  generalize hst1 : (⟨(tk s st.p st.bad 40).1, (tk s st.p st.bad 40).2, st.cs⟩ : PS) = st1 at *
  clear hst1
  have H1 := hide h1
  clear h1
  generalize hst2 : f st1 = st2 at *
  have Hst2 := hide hst2
  clear hst2
  have hs' := hide hs
  clear hs
  go_enter Try.func62, Try.ntmps62
  go_wp2_with fail
  refine (unhide H1).mono ?_
  rintro e w1 ⟨rfl, hS1, hB1⟩
  go_wp2_with fail
  have h2 := hB st1 w1 hS1 (unhide hI1) (unhide hl1)
  unfold Reads at h2
  refine h2.mono ?_
  rintro e w2 ⟨rfl, hS2, hB2⟩
  rw [unhide Hst2] at hS2
  clear h2
  go_wp2_with fail
  have h3 := take_stt hS2 (unhide hs') 41
  unfold Reads at h3
  refine h3.mono ?_
  rintro e w3 ⟨rfl, hS3, hB3⟩
  clear h3
  go_wp2_with fail
  go_end0
  exact ⟨rfl, hS3, hB1.trans (hB2.trans hB3)⟩

theorem Own.putNo {w : World} {g n cap : Nat} {cs : List Cm} (h : Own w b (.slice (some ⟨g, 0, none⟩) n cap) cs) {i : Nat} (hi : i < cs.length) (v : Int) :
    Own (w.setCell ⟨g, i * 9 + 8, none⟩ (.int .i64 v)) b (.slice (some ⟨g, 0, none⟩) n cap) (setNo cs i v) := by
  have hc : cs[i]? = some cs[i] := List.getElem?_eq_getElem hi
  unfold setNo
  rw [hc]
  exact h.put hc (by omega) rfl

set_option maxHeartbeats 2000000 in
theorem readLoop_any {f : PS → PS} {N : Nat} (hB : BodyOK b s hw hv hn hm f N) (hF : Fine s f N) (hs : s.size ≤ 1000) (i : Nat) (st : PS) (w : World) (hS : Stt w b s hw hv hn hm st) (hI : Inv s st) (hl : lft s st ≤ N) (hi : i < st.cs.length) :
    Reads 52 #[.pointer (some ⟨b, 0, none⟩), .int .i64 i] w b s hw hv hn hm (lop i (blk f s st)) := by
  have hmx : s.size ≤ maxLen := by unfold maxLen; omega
  have h1 := readBlock_any hB hmx st w hS hI hl
  have n1 := blk_nxt hF hI hl
  generalize hst1 : blk f s st = st1 at *
  clear hst1
  have hlen : i < st1.cs.length := Nat.lt_of_lt_of_le hi n1.2.1
  have hcap : st1.cs.length ≤ 1000 := by have := n1.2.2.1; have := n1.2.2.2; omega
  clear n1 hI hl hB hF
  unfold lop
  obtain ⟨p1, b1, cs1⟩ := st1
  dsimp only at *
  unfold Reads at h1 ⊢
  have H1 := hide h1
  clear h1
  go_enter Try.func52, Try.ntmps52
  go_wp2_with fail
  refine (unhide H1).mono ?_
  rintro e w1 ⟨rfl, ⟨cv, hR1, hO1⟩, hB1⟩
  dsimp only at hR1 hO1
  obtain ⟨g, cap, rfl, hg⟩ := hO1.form (by rintro rfl; simp at hlen)
  have c7 := hR1.cell 7
  simp at c7
  go_wp2_with fail
  refine (redirect_any hR1 hO1 i cs1.length i hlen (Nat.le_refl _) hcap).mono ?_
  rintro e w2 ⟨rfl, hR2, hO2, hB2⟩
  have hlr := rdr_length cs1 i cs1.length cs1.length i
  have hO3 := hO2.putNo (i := i) (by rw [hlr]; exact hlen) cs1.length
  have hlen2 : i < (rdr cs1 i cs1.length cs1.length i).length := by rw [hlr]; exact hlen
  obtain ⟨cc, hcc⟩ : ∃ cc, (rdr cs1 i cs1.length cs1.length i)[i]? = some cc := ⟨_, List.getElem?_eq_getElem hlen2⟩
  have y := hO2.at_ hcc 8 (by omega)
  have fz := fun j => hO2.fz j
  simp [Cm.cells] at y
  clear hlr hlen2 hcc c7
  have c7 := hR2.cell 7
  simp at c7
  have hR3 := Rd.other hR2 (a := ⟨g, i * 9 + 8, none⟩) (.int .i64 cs1.length) (by show g ≠ b; omega)
  go_wp2_with fail
  go_end0
  exact ⟨rfl, ⟨_, hR3, hO3⟩, (hB1.trans hB2).setCell (Nat.le_of_lt hg) _⟩

set_option maxHeartbeats 2000000 in
theorem readBranch_any {f : PS → PS} {N : Nat} (hB : BodyOK b s hw hv hn hm f N) (hF : Fine s f N) (hs : s.size ≤ 1000) (i : Nat) (st : PS) (w : World) (hS : Stt w b s hw hv hn hm st) (hI : Inv s st) (hl : lft s st ≤ N) (hi : i < st.cs.length) :
    Reads 51 #[.pointer (some ⟨b, 0, none⟩), .int .i64 i] w b s hw hv hn hm (brn i (blk f s st) (blk f s (blk f s st))) := by
  have hmx : s.size ≤ maxLen := by unfold maxLen; omega
  have h1 := readBlock_any hB hmx st w hS hI hl
  have n1 := blk_nxt hF hI hl
  generalize hst1 : blk f s st = st1 at *
  clear hst1
  have h2 : ∀ w1, Stt w1 b s hw hv hn hm st1 → _ := fun w1 h => readBlock_any hB hmx st1 w1 h n1.2.2 (Nat.le_trans n1.lft hl)
  have n2 := blk_nxt hF n1.2.2 (Nat.le_trans n1.lft hl)
  generalize hst2 : blk f s st1 = st2 at *
  clear hst2
  have hlen : i < st1.cs.length := Nat.lt_of_lt_of_le hi n1.2.1
  have hlen' : st1.cs.length ≤ st2.cs.length := n2.2.1
  have hcap : st2.cs.length ≤ 1000 := by have := n2.2.2.1; have := n2.2.2.2; omega
  clear n1 n2 hI hl hB hF
  unfold brn
  obtain ⟨p1, b1, cs1⟩ := st1
  obtain ⟨p2, b2, cs2⟩ := st2
  dsimp only at *
  unfold Reads at h1 h2 ⊢
  have H1 := hide h1
  have H2 := hide h2
  clear h1 h2
  go_enter Try.func51, Try.ntmps51
  go_wp2_with fail
  refine (unhide H1).mono ?_
  rintro e w1 ⟨rfl, hS1, hB1⟩
  have HS1 := hide hS1
  obtain ⟨cv, hR1, hO1⟩ := hS1
  dsimp only at hR1 hO1
  obtain ⟨g0, cap0, rfl, hg0⟩ := hO1.form (by rintro rfl; simp at hlen)
  have c7 := hR1.cell 7
  simp at c7
  clear hO1
  go_wp2_with fail
  refine (unhide H2 w1 (unhide HS1)).mono ?_
  clear c7
  rintro e w2 ⟨rfl, ⟨cv, hR2, hO2⟩, hB2⟩
  dsimp only at hR2 hO2
  obtain ⟨g, cap, rfl, hg⟩ := hO2.form (by intro e; rw [e] at hlen'; simp at hlen'; rw [hlen'] at hlen; simp at hlen)
  have c7 := hR2.cell 7
  simp at c7
  go_wp2_with fail
  refine (redirect_any hR2 hO2 i cs1.length cs2.length hlen hlen' hcap).mono ?_
  rintro e w3 ⟨rfl, hR3, hO3, hB3⟩
  have hlr := rdr_length cs2 i cs1.length cs1.length cs2.length
  have hlen2 : i < (rdr cs2 i cs1.length cs1.length cs2.length).length := by rw [hlr]; omega
  have hO4 := hO3.putNo (i := i) hlen2 cs1.length
  obtain ⟨cc, hcc⟩ : ∃ cc, (rdr cs2 i cs1.length cs1.length cs2.length)[i]? = some cc := ⟨_, List.getElem?_eq_getElem hlen2⟩
  have y := hO3.at_ hcc 8 (by omega)
  have fz := fun j => hO3.fz j
  simp [Cm.cells] at y
  have hlt2 : i < cs2.length := by omega
  clear hlr hlen2 hcc c7
  have c7 := hR3.cell 7
  simp at c7
  have hR4 := Rd.other hR3 (a := ⟨g, i * 9 + 8, none⟩) (.int .i64 cs1.length) (by show g ≠ b; omega)
  go_wp2_with fail
  go_end0
  exact ⟨rfl, ⟨_, hR4, hO4⟩, (hB1.trans (hB2.trans hB3)).setCell (Nat.le_of_lt hg) _⟩

set_option maxHeartbeats 2000000 in
theorem readBody_of (hs : s.size ≤ 1000) (F : Nat)
    (hC : ∀ f, f < F → ∀ st w, Stt w b s hw hv hn hm st → Inv s st → lft s st ≤ f + 1 → isCmd (pk s st.p st.bad) = true → Reads 44 #[.pointer (some ⟨b, 0, none⟩)] w b s hw hv hn hm (cmdStep (rdB s hv hn f) s hv hn st)) :
    BodyOK b s hw hv hn hm (rdB s hv hn F) F := by
  intro st w hS hI hl
  have hmx : s.size ≤ maxLen := by unfold maxLen; omega
  generalize hfin : rdB s hv hn F st = fin
  have Hfin := hide hfin
  clear hfin
  unfold Reads
  have HC := hide hC
  clear hC
  go_enter Try.func33, Try.ntmps33
  go_wp2_with fail
  go_loopg [] F (fun f wr => ∃ st', Hid (Stt wr b s hw hv hn hm st') ∧ Hid (Inv s st') ∧ Hid (lft s st' ≤ f) ∧ f ≤ F ∧ Hid (rdB s hv hn f st' = fin) ∧ Below b w wr)
  case atStart => exact ⟨st, hS, hI, hl, Nat.le_refl _, Hfin, Below.refl _ _⟩
  case round =>
    obtain ⟨st', hS', hI', hl', hle, hr, hB⟩ := hrel
    obtain ⟨cv, hR', hO'⟩ := unhide hS'
    cases hc : isCmd (pk s st'.p st'.bad) with
    | true =>
      have Hc := hide hc
      clear hc
      have hpos : 0 < gk := by
        have h1 := isCmd_pk (unhide Hc)
        have h2 := unhide hl'
        unfold lft at h2
        rw [h1.1] at h2
        simp at h2
        omega
      obtain ⟨f, rfl⟩ : ∃ f, gk = f + 1 := ⟨gk - 1, by omega⟩
      have hcmd := unhide HC f (by omega)
      have Hcmd := hide hcmd
      clear hcmd
      go_wp2_with fail
      refine (peek_any hR' hmx).mono ?_
      rintro e w1 ⟨rfl, n, rfl⟩
      go_wp2_with fail
      refine (isCommand_any _ _).mono ?_
      rintro e w1 ⟨rfl, rfl⟩
      rw [unhide Hc]
      go_wp2_with fail
      have hcall := unhide Hcmd st' (wr.drewN n) ⟨cv, hR', hO'⟩ (unhide hI') (unhide hl') (unhide Hc)
      unfold Reads at hcall
      refine hcall.mono ?_
      rintro e w2 ⟨rfl, hS2, hB2⟩
      clear hcall
      obtain ⟨hn1, hn2⟩ := step_nxt (hv := hv) (hn := hn) (rdb := rdB s hv hn f) (N := f) (rdB_nxt s hv hn f) (unhide hI') (unhide hl') (unhide Hc)
      have hr2 : rdB s hv hn f (cmdStep (rdB s hv hn f) s hv hn st') = fin := by
        have := unhide hr
        rw [rdB, if_pos (unhide Hc)] at this
        exact this
      have hl2 : lft s (cmdStep (rdB s hv hn f) s hv hn st') ≤ f := by have := unhide hl'; omega
      have HN := hide hn1.2.2
      have HR2 := hide hr2
      have HL2 := hide hl2
      clear hn1 hn2 hr2 hl2
      go_wp2_with fail
      go_roundg f
      case measure => omega
      case rel => exact ⟨_, hS2, HN, HL2, by omega, HR2, hB.trans ((below_drewN (Below.refl _ _) n).trans hB2)⟩
    | false =>
      have Hc := hide hc
      clear hc
      have hst : st' = fin := by
        have := unhide hr
        cases gk with
        | zero => exact this
        | succ f => rw [rdB, if_neg (by rw [unhide Hc]; simp)] at this; exact this
      have Hst := hide hst
      clear hst
      go_wp2_with fail
      refine (peek_any hR' hmx).mono ?_
      rintro e w1 ⟨rfl, n, rfl⟩
      go_wp2_with fail
      refine (isCommand_any _ _).mono ?_
      rintro e w1 ⟨rfl, rfl⟩
      rw [unhide Hc]
      go_wp2_with fail
      go_end0
      rw [← unhide Hst]
      exact ⟨rfl, ⟨cv, hR', hO'⟩, below_drewN hB n⟩

theorem body_all (hs : s.size ≤ 1000) (h0 : 0 ≤ hn) (h1 : hn ≤ 8) (h2 : 1 ≤ hv) (h3 : hv ≤ 256) : ∀ F, ∀ f, f ≤ F → BodyOK b s hw hv hn hm (rdB s hv hn f) f
  | 0, f, hf => readBody_of hs f (fun g hg => by omega)
  | F + 1, f, hf => readBody_of hs f (fun g hg st w hS hI hl hc => by
    have hB := body_all hs h0 h1 h2 h3 F g (by omega)
    have hF : Fine s (rdB s hv hn g) g := fun st hI hl => rdB_nxt s hv hn g st hI hl
    exact readCommand_any (rdB s hv hn g) b s hw hv hn hm g st w
      (fun st1 w1 a c d e => readBranch_any hB hF hs st.cs.length st1 w1 a c d e)
      (fun st1 w1 a c d e => readLoop_any hB hF hs st.cs.length st1 w1 a c d e) hS hI hl hs h0 h1 h2 h3 hc)
end
end Go.Proofs.Ytfolokhilkffcaa
