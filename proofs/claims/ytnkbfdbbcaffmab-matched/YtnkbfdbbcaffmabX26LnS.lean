import Derived.Test.YtnkbfdbbcaffmabX25LnM
import Derived.Test.YtnkbfdbbcaffmabX01Chars
/-
  readLines, strayLine.
-/
namespace Go.Proofs.Ytnkbfdbbcaffmab
open Go.RowKit

/-- The lines, of which the first k are turned. -/
def fixU (L : Int) (k : Nat) (cs : List Cm) : List Cm := cs.mapIdx fun i c => if i < k then fix1 L c else c
theorem fixU_len (L : Int) (k : Nat) (cs : List Cm) : (fixU L k cs).length = cs.length := by simp [fixU]
theorem fixU_get (L : Int) (k : Nat) (cs : List Cm) (i : Nat) : (fixU L k cs)[i]? = (cs[i]?).map fun c => if i < k then fix1 L c else c := by simp [fixU]
theorem fixU_zero (L : Int) (cs : List Cm) : fixU L 0 cs = cs := by
  apply List.ext_getElem?
  intro i
  rw [fixU_get]
  cases cs[i]? <;> simp
theorem fixU_all (cs : List Cm) : fixU cs.length cs.length cs = fixE cs := by
  apply List.ext_getElem?
  intro i
  rw [fixU_get, fixE, List.getElem?_map]
  cases h : cs[i]? with
  | none => rfl
  | some c =>
    have hl : i < cs.length := (List.getElem?_eq_some_iff.1 h).1
    simp [hl]
theorem fixU_step (L : Int) (k : Nat) (cs : List Cm) (c : Cm) (h : cs[k]? = some c) : (fixU L k cs).set k (fix1 L c) = fixU L (k + 1) cs := by
  apply List.ext_getElem?
  intro i
  rw [List.getElem?_set, fixU_get, fixU_get, fixU_len]
  by_cases e : k = i
  · subst e
    have hl : k < cs.length := (List.getElem?_eq_some_iff.1 h).1
    rw [if_pos rfl, if_pos hl, h]; simp
  · rw [if_neg e]
    cases cs[i]? with
    | none => rfl
    | some d =>
      simp only [Option.map_some, Option.some.injEq]
      by_cases h1 : i < k
      · rw [if_pos h1, if_pos (by omega)]
      · rw [if_neg h1, if_neg (by omega)]

section
variable {b : Nat} {s : ByteArray} {ht : ByteArray} {hw hv hn hm : Int}

theorem Stt.bad {w : World} {st : PS} (h : Stt w b s ht hw hv hn hm st) : Stt (w.setCell ⟨b, 2, none⟩ (.bool true)) b s ht hw hv hn hm ⟨st.p, true, st.cs⟩ := by
  obtain ⟨cv, hR, hO⟩ := h
  exact ⟨cv, Rd.setBad hR, ownsRow_setCell_below hO (Nat.lt_succ_self b) _⟩

set_option maxHeartbeats 2000000 in
theorem readLines_any (hs : s.size ≤ 1000) (h0 : 0 ≤ hn) (h1 : hn ≤ 8) (h2 : 1 ≤ hv) (h3 : hv ≤ 256) (p : Nat) (bad : Bool) (w : World) (hS : Stt w b s ht hw hv hn hm ⟨p, bad, []⟩) (hI : Inv s ⟨p, bad, []⟩) :
    Reads 43 #[.pointer (some ⟨b, 0, none⟩)] w b s ht hw hv hn hm (rdLs s hv hn ⟨p, bad, []⟩) := by
  have hmx : s.size ≤ maxLen := by unfold maxLen; omega
  unfold rdLs
  dsimp only
  unfold Reads
  cases hc : isLn (pk s p bad) with
  | true =>
    have hl : lft s ⟨p, bad, []⟩ ≤ s.size := by unfold lft; split <;> simp
    have hnx := rdL_nxt s hv hn s.size ⟨p, bad, []⟩ hI hl
    have e0 : (bad || !true) = bad := by simp
    rw [e0]
    generalize hfin : rdL s hv hn s.size ⟨p, bad, []⟩ = fin at *
    have Hfin := hide hfin
    clear hfin e0
    obtain ⟨fp, fb, cs⟩ := fin
    dsimp only at *
    have hcl : cs.length ≤ 1000 := by have := hnx.2.2.1; have := hnx.2.2.2; dsimp only at *; omega
    clear hnx
    generalize hF : s.size = F at *
    have HF := hide hF
    clear hF
    have HS := hide hS
    have HI := hide hI
    have Hl := hide hl
    have Hc := hide hc
    obtain ⟨cv, hR, hO⟩ := hS
    clear hI hl hc hO
    go_enter Try.func43, Try.ntmps43
    go_wp2_with fail
    refine (peek_any hR (by rw [unhide HF]; exact hmx)).mono ?_
    rintro e w1 ⟨rfl, n, rfl⟩
    go_wp2_with fail
    refine (isLine_any _ _).mono ?_
    rintro e w1 ⟨rfl, rfl⟩
    rw [unhide Hc]
    go_wp2_with fail
    go_loopg [] F (fun f wr => ∃ st', Hid (Stt wr b s ht hw hv hn hm st') ∧ Hid (Inv s st') ∧ Hid (lft s st' ≤ f) ∧ f ≤ F ∧ Hid (rdL s hv hn f st' = ⟨fp, fb, cs⟩) ∧ Below b w wr)
    case atStart => exact ⟨⟨p, bad, []⟩, HS, HI, Hl, Nat.le_refl _, Hfin, below_drewN (Below.refl _ _) n⟩
    case round =>
      obtain ⟨st', hS', hI', hl', hle, hr, hB⟩ := hrel
      obtain ⟨cv', hR', hO'⟩ := unhide hS'
      cases hc : isLn (pk s st'.p st'.bad) with
      | true =>
        have Hc := hide hc
        clear hc
        have hpos : 0 < gk := by
          have h1 := isLn_pk (unhide Hc)
          have h2 := unhide hl'
          unfold lft at h2
          rw [h1.1] at h2
          simp at h2
          omega
        obtain ⟨f, rfl⟩ : ∃ f, gk = f + 1 := ⟨gk - 1, by omega⟩
        have hcmd := fun w0 h => readLine_any (w := w0) (b := b) (ht := ht) (hw := hw) (hm := hm) st' h (unhide hI') (by rw [unhide HF]; exact hs) h0 h1 h2 h3 (unhide Hc)
        have Hcmd := hide hcmd
        clear hcmd
        go_wp2_with fail
        refine (peek_any hR' (by rw [unhide HF]; exact hmx)).mono ?_
        rintro e w1 ⟨rfl, n', rfl⟩
        go_wp2_with fail
        refine (isLine_any _ _).mono ?_
        rintro e w1 ⟨rfl, rfl⟩
        rw [unhide Hc]
        go_wp2_with fail
        have hcall := unhide Hcmd (wr.drewN n') ⟨cv', hR', hO'⟩
        unfold Reads at hcall
        refine hcall.mono ?_
        rintro e w2 ⟨rfl, hS2, hB2⟩
        clear hcall
        obtain ⟨hn1, hn2⟩ := ln1_nxt (hv := hv) (hn := hn) (unhide hI') (unhide Hc)
        have hr2 : rdL s hv hn f (ln1 s hv hn st') = ⟨fp, fb, cs⟩ := by
          have := unhide hr
          rw [rdL, if_pos (unhide Hc)] at this
          exact this
        have hl2 : lft s (ln1 s hv hn st') ≤ f := by have := unhide hl'; omega
        have HN := hide hn1.2.2
        have HR2 := hide hr2
        have HL2 := hide hl2
        clear hn1 hn2 hr2 hl2
        go_wp2_with fail
        go_roundg f
        case measure => omega
        case rel => exact ⟨_, hS2, HN, HL2, by omega, HR2, hB.trans ((below_drewN (Below.refl _ _) n').trans hB2)⟩
      | false =>
        have Hc := hide hc
        clear hc
        have hst : st' = ⟨fp, fb, cs⟩ := by
          have := unhide hr
          cases gk with
          | zero => exact this
          | succ f => rw [rdL, if_neg (by rw [unhide Hc]; simp)] at this; exact this
        have Hst := hide hst
        clear hst
        go_wp2_with fail
        refine (peek_any hR' (by rw [unhide HF]; exact hmx)).mono ?_
        rintro e w1 ⟨rfl, n', rfl⟩
        go_wp2_with fail
        refine (isLine_any _ _).mono ?_
        rintro e w1 ⟨rfl, rfl⟩
        rw [unhide Hc]
        rw [unhide Hst] at hR' hO'
        dsimp only at hR' hO'
        have hR'' := Rd.drewN hR' n'
        have hO'' : Own (wr.drewN n') b cv' cs := hO'
        have hB'' := below_drewN hB n'
        clear hR' hO' hB
        obtain ⟨ao, cap, rfl⟩ := hO''.shape
        have c8 := hR''.cell 8
        simp at c8
        go_wp2_with fail
        have hU0 : Own (wr.drewN n') b (.slice ao cs.length cap) (fixU cs.length 0 cs) := by rw [fixU_zero]; exact hO''
        have HU0 := hide hU0
        clear hU0 hO'' c8 hS' hI' hl' hr
        go_loopw [3] (fun i wr' => ∃ k : Nat, i = .int .i64 k ∧ k ≤ cs.length ∧ Hid (Rd wr' b s fp fb ht hw hv hn hm (.slice ao cs.length cap)) ∧ Hid (Own wr' b (.slice ao cs.length cap) (fixU cs.length k cs)) ∧ Hid (Below b w wr')) (fun i _ => cs.length - (intOf i).toNat)
        case atStart => exact ⟨0, rfl, Nat.zero_le _, hR'', HU0, hB''⟩
        case round =>
          obtain ⟨k, rfl, hk, hRk, hOk, hBk⟩ := hrel
          by_cases hlt : k < cs.length
          · obtain ⟨c, hc⟩ : ∃ c, cs[k]? = some c := ⟨_, List.getElem?_eq_getElem hlt⟩
            have hc' : (fixU cs.length k cs)[k]? = some c := by rw [fixU_get, hc]; simp
            have hst := fixU_step cs.length k cs c hc
            have hOk' := unhide hOk
            have hRk' := unhide hRk
            obtain ⟨g, cap2, he, hg⟩ := hOk'.form (by intro e; rw [e] at hc'; simp at hc')
            simp [fixU_len] at he
            obtain ⟨rfl, rfl⟩ := he
            have c7 := hRk'.cell 8
            simp at c7
            have y0 := hOk'.at_ hc' 0 (by omega)
            have y7 := hOk'.at_ hc' 7 (by omega)
            have fz := fun j => hOk'.fz j
            simp [Cm.cells] at y0 y7
            by_cases hkd : c.kind = 104
            · have q : (c.kind == 104) = true := by simpa using hkd
              have hO1 : Own (wr.setCell ⟨g, k * 11 + 7, none⟩ (.int .i64 cs.length)) b (.slice (some ⟨g, 0, none⟩) cs.length cap) ((fixU cs.length k cs).set k { c with yes := (cs.length : Int) }) := hOk'.put hc' (by omega) rfl
              have e : fix1 cs.length c = { c with yes := (cs.length : Int) } := by unfold fix1; rw [if_pos hkd]
              rw [← e, hst] at hO1
              have HR1 := hide (Rd.other hRk' (a := ⟨g, k * 11 + 7, none⟩) (.int .i64 cs.length) (by show g ≠ b; omega))
              have HB1 := hide ((unhide hBk).setCell (p := ⟨g, k * 11 + 7, none⟩) (Nat.le_of_lt hg) (.int .i64 cs.length))
              have HO1 := hide hO1
              clear hkd e hO1 hst hc hc' hOk' hRk'
              go_wp2_with fail
              go_roundw
              case rel => exact ⟨k + 1, by go_num, by omega, HR1, HO1, HB1⟩
              case measure => simp [intOf]; omega
            · have q : (c.kind == 104) = false := by simpa using hkd
              have e : fix1 cs.length c = c := by unfold fix1; rw [if_neg hkd]
              have hO1 : Own wr b (.slice (some ⟨g, 0, none⟩) cs.length cap) (fixU cs.length (k + 1) cs) := by
                rw [← hst, e, set_same _ _ _ hc']; exact hOk'
              have HO1 := hide hO1
              clear hkd e hO1 hst hc hc' hOk' hRk'
              go_wp2_with fail
              go_roundw
              case rel => exact ⟨k + 1, by go_num, by omega, hRk, HO1, hBk⟩
              case measure => simp [intOf]; omega
          · obtain rfl : k = cs.length := by omega
            have hO1 := unhide hOk
            rw [fixU_all] at hO1
            have HO1 := hide hO1
            clear hO1
            go_wp2_with fail
            go_end0
            exact ⟨rfl, ⟨_, unhide hRk, unhide HO1⟩, unhide hBk⟩
  | false =>
    have e0 : (bad || !false) = true := by simp
    have e1 : rdL s hv hn s.size ⟨p, true, []⟩ = ⟨p, true, []⟩ := by
      cases s.size with
      | zero => rfl
      | succ f => rw [rdL, if_neg (by dsimp only; rw [pk_bad]; decide)]
    rw [e0, e1]
    have Hc := hide hc
    clear e0 e1 hc
    have hS2 := fun n => Stt.bad (w := w.drewN n) hS
    obtain ⟨cv, hR, hO⟩ := hS
    have c2 := hR.cell 2
    have f2 := hR.frozen 2
    simp at c2
    have HS2 := hide hS2
    clear hS2
    go_enter Try.func43, Try.ntmps43
    go_wp2_with fail
    refine (peek_any hR hmx).mono ?_
    rintro e w1 ⟨rfl, n, rfl⟩
    go_wp2_with fail
    refine (isLine_any _ _).mono ?_
    rintro e w1 ⟨rfl, rfl⟩
    rw [unhide Hc]
    go_wp2_with fail
    have hS3 := unhide HS2 n
    obtain ⟨cv', hR', hO'⟩ := hS3
    have hB3 : Below b w ((w.drewN n).setCell ⟨b, 2, none⟩ (.bool true)) := Below.setCell (below_drewN (Below.refl b w) n) (p := ⟨b, 2, none⟩) (Nat.le_refl b) _
    generalize (w.drewN n).setCell ⟨b, 2, none⟩ (.bool true) = wB at *
    go_loopg [] 0 (fun f wr => ∃ j, wr = wB.drewN j)
    case atStart => exact ⟨0, rfl⟩
    case round =>
      obtain ⟨j, rfl⟩ := hrel
      go_wp2_with fail
      refine (peek_any (Rd.drewN hR' j) hmx).mono ?_
      rintro e w1 ⟨rfl, n', rfl⟩
      dsimp only
      rw [pk_bad]
      go_wp2_with fail
      refine (isLine_any _ _).mono ?_
      rintro e w1 ⟨rfl, rfl⟩
      rw [show isLn 0 = false from rfl]
      obtain ⟨ao, cap, rfl⟩ := hO'.shape
      have hR3 := Rd.drewN (Rd.drewN hR' j) n'
      have c8 := hR3.cell 8
      simp at c8
      have hB4 := below_drewN hB3 (j + n')
      have hO3 : Own ((wB.drewN j).drewN n') b (.slice ao ([] : List Cm).length cap) [] := hO'
      go_wp2_with fail
      go_loopw [3] (fun i wr' => i = .int .i64 0 ∧ wr' = wB.drewN (j + n')) (fun _ _ => 0)
      case atStart => exact ⟨rfl, rfl⟩
      case round =>
        obtain ⟨rfl, rfl⟩ := hrel
        go_wp2_with fail
        go_end0
        exact ⟨rfl, ⟨_, Rd.drewN hR' (j + n'), hO'⟩, hB4⟩
end
end Go.Proofs.Ytnkbfdbbcaffmab
/-
  strayLine.
-/
namespace Go.Proofs.Ytnkbfdbbcaffmab
open Go.RowKit

theorem strI_bd (L : Nat) : ∀ (cs : List Cm) (i : Nat) (last : Int), i + cs.length ≤ L → -1 ≤ strI L cs i last ∧ strI L cs i last ≤ L
  | [], i, last, h => by unfold strI; split <;> omega
  | c :: r, i, last, h => by
    simp only [List.length_cons] at h
    unfold strI
    split
    · omega
    · split
      · omega
      · exact strI_bd L r (i + 1) c.kind (by omega)
theorem stray_bd (cs : List Cm) : -1 ≤ stray cs ∧ stray cs ≤ cs.length := strI_bd cs.length cs 0 104 (by omega)

/-- Rows of commands that lie somewhere. -/
theorem own_cells {w : World} {kb : Nat} {ao : Option Addr} {cap : Nat} {cs : List Cm} (h : Own w kb (.slice ao cs.length cap) cs) {i : Nat} {c : Cm} (hc : cs[i]? = some c) :
    ∃ g, ao = some ⟨g, 0, none⟩ ∧ w.cell? ⟨g, i * 11, none⟩ = some (.int .u8 c.kind) ∧ w.cell? ⟨g, i * 11 + 7, none⟩ = some (.int .i64 c.yes) ∧ w.cell? ⟨g, i * 11 + 8, none⟩ = some (.int .i64 c.no) := by
  obtain ⟨g, cap2, he, hg⟩ := h.form (by rintro rfl; simp at hc)
  simp at he
  obtain ⟨rfl, rfl⟩ := he
  have y0 := h.at_ hc 0 (by omega)
  have y7 := h.at_ hc 7 (by omega)
  have y8 := h.at_ hc 8 (by omega)
  simp [Cm.cells] at y0 y7 y8
  exact ⟨g, rfl, y0, y7, y8⟩

set_option maxHeartbeats 2000000 in
theorem strayLine_any (w : World) (kb : Nat) (ao : Option Addr) (cap : Nat) (cs : List Cm) (hcl : cs.length ≤ 1000) (hO : Own w kb (.slice ao cs.length cap) cs) :
    Calls Try.prog 44 #[.slice ao cs.length cap] w fun e w' => e = .returned (.int .i64 (stray cs)) ∧ ∃ j, w' = w.drewN j := by
  generalize hr : stray cs = r
  have Hr := hide hr
  clear hr
  go_enter Try.func44, Try.ntmps44
  go_wp2_with fail
  go_loopw [3, 4] (fun l i wr => ∃ (k : Nat) (last : Int), l = .int .u8 last ∧ i = .int .i64 k ∧ k ≤ cs.length ∧ (∃ j, wr = w.drewN j) ∧ Hid (strI cs.length (cs.drop k) k last = r)) (fun _ i _ => cs.length - (intOf i).toNat)
  case atStart => exact ⟨0, 104, rfl, rfl, Nat.zero_le _, ⟨0, rfl⟩, by simpa [Hid, stray] using unhide Hr⟩
  case round =>
    obtain ⟨k, last, rfl, rfl, hk, ⟨j, rfl⟩, HK⟩ := hrel
    by_cases hlt : k < cs.length
    · obtain ⟨c, hc⟩ : ∃ c, cs[k]? = some c := ⟨_, List.getElem?_eq_getElem hlt⟩
      obtain ⟨g, rfl, y0, y7, y8⟩ := own_cells hO hc
      have hst := unhide HK
      have hgc : cs[k] = c := by rw [List.getElem?_eq_getElem hlt] at hc; exact Option.some.inj hc
      rw [List.drop_eq_getElem_cons hlt, hgc, strI] at hst
      have Hst := hide hst
      clear hst hgc hc HK
      have hlI : (k : Int) < (cs.length : Int) := by omega
      by_cases k1 : c.kind = 106
      · have e1 : (c.kind == 106) = true := by simpa using k1
        have e2 : (c.kind == 122) = false := by rw [k1]; rfl
        by_cases l1 : (cs.length : Int) ≤ c.yes
        · have d1 : decide ((cs.length : Int) ≤ c.yes) = true := by simpa using l1
          have hrf : (k : Int) = r := by rw [← unhide Hst, if_pos ⟨k1, l1⟩]
          have Hrf := hide hrf
          clear hrf k1 l1
          go_wp2_with fail
          go_ret
          exact ⟨ret_int (unhide Hrf), _, rfl⟩
        · have d1 : decide ((cs.length : Int) ≤ c.yes) = false := by simpa using l1
          have hrf : strI cs.length (cs.drop (k + 1)) (k + 1) c.kind = r := by rw [← unhide Hst, if_neg (fun h => l1 h.2), if_neg (fun h => by have := h.1; omega)]
          have Hrf := hide hrf
          clear hrf k1 l1
          go_wp2_with fail
          go_roundw
          case rel => exact ⟨k + 1, _, rfl, by go_num, by omega, ⟨_, rfl⟩, Hrf⟩
          case measure => simp [intOf]; omega
      · have e1 : (c.kind == 106) = false := by simpa using k1
        by_cases k2 : c.kind = 122
        · have e2 : (c.kind == 122) = true := by simpa using k2
          by_cases l1 : (cs.length : Int) ≤ c.no
          · have d1 : decide ((cs.length : Int) ≤ c.no) = true := by simpa using l1
            have hrf : (k : Int) = r := by rw [← unhide Hst, if_neg (fun h => k1 h.1), if_pos ⟨k2, l1⟩]
            have Hrf := hide hrf
            clear hrf k1 k2 l1
            go_wp2_with fail
            go_ret
            exact ⟨ret_int (unhide Hrf), _, rfl⟩
          · have d1 : decide ((cs.length : Int) ≤ c.no) = false := by simpa using l1
            have hrf : strI cs.length (cs.drop (k + 1)) (k + 1) c.kind = r := by rw [← unhide Hst, if_neg (fun h => k1 h.1), if_neg (fun h => l1 h.2)]
            have Hrf := hide hrf
            clear hrf k1 k2 l1
            go_wp2_with fail
            go_roundw
            case rel => exact ⟨k + 1, _, rfl, by go_num, by omega, ⟨_, rfl⟩, Hrf⟩
            case measure => simp [intOf]; omega
        · have e2 : (c.kind == 122) = false := by simpa using k2
          have hrf : strI cs.length (cs.drop (k + 1)) (k + 1) c.kind = r := by rw [← unhide Hst, if_neg (fun h => k1 h.1), if_neg (fun h => k2 h.1)]
          have Hrf := hide hrf
          clear hrf k1 k2
          go_wp2_with fail
          go_roundw
          case rel => exact ⟨k + 1, _, rfl, by go_num, by omega, ⟨_, rfl⟩, Hrf⟩
          case measure => simp [intOf]; omega
    · have hst := unhide HK
      rw [List.drop_of_length_le (by omega), strI] at hst
      have Hst := hide hst
      clear hst HK
      by_cases k1 : last = 104
      · have e1 : (last != 104) = false := by simpa using k1
        have hrf : (-1 : Int) = r := by rw [← unhide Hst, if_neg (fun h => h.1 k1)]
        have Hrf := hide hrf
        clear hrf k1
        go_wp2_with fail
        go_ret
        exact ⟨ret_int (unhide Hrf), _, rfl⟩
      · have e1 : (last != 104) = true := by simpa using k1
        by_cases k2 : last = 106
        · have e2 : (last != 106) = false := by simpa using k2
          have hrf : (-1 : Int) = r := by rw [← unhide Hst, if_neg (fun h => h.2 k2)]
          have Hrf := hide hrf
          clear hrf k1 k2
          go_wp2_with fail
          go_ret
          exact ⟨ret_int (unhide Hrf), _, rfl⟩
        · have e2 : (last != 106) = true := by simpa using k2
          have hrf : (cs.length : Int) = r := by rw [← unhide Hst, if_pos ⟨k1, k2⟩]
          have Hrf := hide hrf
          clear hrf k1 k2
          go_wp2_with fail
          go_ret
          exact ⟨ret_int (unhide Hrf), _, rfl⟩
end Go.Proofs.Ytnkbfdbbcaffmab
