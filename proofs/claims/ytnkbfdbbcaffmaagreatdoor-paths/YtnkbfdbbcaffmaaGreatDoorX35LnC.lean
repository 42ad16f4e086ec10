import Derived.Test.YtnkbfdbbcaffmaaGreatDoorX34LnS
import Derived.Test.YtnkbfdbbcaffmaaGreatDoorX04Rec
import Derived.Test.YtnkbfdbbcaffmaaGreatDoorX20Lie
import Derived.Test.YtnkbfdbbcaffmaaGreatDoorX28Ref5
/-
  ReadCode.
-/
namespace Go.Proofs.YtnkbfdbbcaffmaaGreatDoor
open Go.RowKit

/-- A code as it is read. -/
def codP (s : ByteArray) : Pg :=
  if 1000 < s.size then ⟨1, 0, ⟨#[]⟩, 0, 0, 0, 0, []⟩
  else if codBad s = true then ⟨2, (cod s).p, ⟨#[]⟩, 0, 0, 0, 0, []⟩
  else if 0 ≤ stray (cod s).cs then ⟨3, stray (cod s).cs, ⟨#[]⟩, 0, 0, 0, 0, []⟩
  else ⟨0, 0, s.extract 0 (hdr s).1, (hdr s).2.2.1, pw (hdr s).2.2.1, (hdr s).2.2.2.1, (hdr s).2.2.2.2, (cod s).cs⟩

set_option maxHeartbeats 2000000 in
theorem readCode_pg (s : ByteArray) (hmx : s.size ≤ maxLen) (w : World) :
    Calls Tryz.prog 27 #[.string s] w fun e w' => ∃ ao cap, e = .returned ((codP s).val ao cap) ∧ Below w.heap.size w w' ∧ Own w' (w.heap.size + 1) (.slice ao (codP s).cs.length cap) (codP s).cs := by
  have hmx' := hmx
  unfold maxLen at hmx'
  have hqq : codP s = if 1000 < s.size then ⟨1, 0, ⟨#[]⟩, 0, 0, 0, 0, []⟩
    else if codBad s = true then ⟨2, (cod s).p, ⟨#[]⟩, 0, 0, 0, 0, []⟩
    else if 0 ≤ stray (cod s).cs then ⟨3, stray (cod s).cs, ⟨#[]⟩, 0, 0, 0, 0, []⟩
    else ⟨0, 0, s.extract 0 (hdr s).1, (hdr s).2.2.1, pw (hdr s).2.2.1, (hdr s).2.2.2.1, (hdr s).2.2.2.2, (cod s).cs⟩ := rfl
  generalize codP s = q at *
  by_cases hbig : 1000 < s.size
  · rw [if_pos hbig] at hqq
    have Hq := hide hqq
    clear hqq
    go_enter Tryz.func27, Tryz.ntmps27
    go_wp2_with fail
    refine bodyPost_ret (v := .agg #[.int .i64 1, .int .i64 0, .string ⟨#[]⟩, .int .i64 0, .int .i64 0, .int .i64 0, .int .i64 0, .slice none 0 0]) (by simp [results, Tryz.results27, go_sem]) rfl ⟨none, 0, by rw [unhide Hq]; rfl, ?_, by rw [unhide Hq]; exact World.ownsRow_nil _ _ _ _⟩
    exact (Below.refl _ _).alloc (Nat.le_refl _) _
  · rw [if_neg hbig] at hqq
    have hsm : s.size ≤ 1000 := by omega
    have hvr := hdr_vars s
    have hpw := pw_bd _ (hdr_wid s).2
    have hI : Inv s ⟨(hdr s).1, (hdr s).2.1, []⟩ := ⟨Nat.zero_le _, hdr_le s⟩
    have hbody := fun w1 h => readLines_any (b := w.heap.size + 1) (s := s) (ht := s.extract 0 (hdr s).1) (hw := (hdr s).2.2.1) (hv := pw (hdr s).2.2.1) (hn := (hdr s).2.2.2.1) (hm := (hdr s).2.2.2.2) hsm (by omega) (by omega) hpw.1 hpw.2 (hdr s).1 (hdr s).2.1 w1 h hI
    have hkp := cod_le s
    have hkl := cod_len s
    rw [show rdLs s (pw (hdr s).2.2.1) (hdr s).2.2.2.1 ⟨(hdr s).1, (hdr s).2.1, []⟩ = cod s from rfl] at hbody
    unfold Reads at hbody
    have Hb := hide hbody
    have hkb : codBad s = ((cod s).bad || decide ((cod s).p < s.size)) := rfl
    have hsb := stray_bd (cod s).cs
    clear hbody hI hvr hpw
    generalize hH : hdr s = H at *
    obtain ⟨hp, hb, hW, hN, hM⟩ := H
    have HH := hide hH
    clear hH
    dsimp only at *
    have Hkb := hide hkb
    clear hkb
    generalize hK : cod s = K at *
    obtain ⟨kp, kb, kcs⟩ := K
    clear hK
    dsimp only at *
    generalize hV : pw hW = V at *
    have HV := hide hV
    clear hV
    generalize hB : codBad s = B at *
    have Hq := hide hqq
    clear hB hqq
    obtain ⟨hsb1, hsb2⟩ := hsb
    go_enter Tryz.func27, Tryz.ntmps27
    go_wp2_with fail
    refine (readHead_any (b := w.heap.size + 1) (s := s) (ht := ⟨#[]⟩) (hw := 0) (hv := 0) (hn := 0) (hm := 0) (cv := .slice none 0 0) (by
      have := At.new (w.alloc (.cells #[.int .i64 0, .int .i64 0, .string ⟨#[]⟩, .int .i64 0, .int .i64 0, .int .i64 0, .int .i64 0, .slice none 0 0] 44)) 75 #[.string s, .int .i64 0, .bool false, .string ⟨#[]⟩, .int .i64 0, .int .i64 0, .int .i64 0, .int .i64 0, .slice none 0 0]
      simpa [Rd] using this) hmx).mono ?_
    rintro e w1 ⟨rfl, hR1, hg1⟩
    rw [unhide HH] at hR1
    dsimp only at hR1
    rw [unhide HV] at hR1
    have hA1 := At.grown (At.alloc (At.new w 44 #[.int .i64 0, .int .i64 0, .string ⟨#[]⟩, .int .i64 0, .int .i64 0, .int .i64 0, .int .i64 0, .slice none 0 0]) _) hg1 (by simp)
    have hB1 := gb_below hg1 (by simp)
    have HA1 := hide hA1
    have HB1 := hide (((Below.refl w.heap.size w).alloc (Nat.le_refl _) _).alloc (by simp) _ |>.trans (hB1.mono (Nat.le_succ _)))
    clear hA1 hB1
    go_wp2_with fail
    have hS1 : Stt w1 (w.heap.size + 1) s (s.extract 0 hp) hW V hN hM ⟨hp, hb, []⟩ := ⟨_, hR1, World.ownsRow_nil w1 _ _ _⟩
    refine (unhide Hb w1 hS1).mono ?_
    rintro e w2 ⟨rfl, ⟨cv, hR2, hO2⟩, hB2⟩
    dsimp only at hR2 hO2
    have hA2 : At w2 w.heap.size 44 #[.int .i64 0, .int .i64 0, .string ⟨#[]⟩, .int .i64 0, .int .i64 0, .int .i64 0, .int .i64 0, .slice none 0 0] := (unhide HA1).below hB2 (Nat.lt_succ_self _)
    have hBB := (unhide HB1).trans (hB2.mono (Nat.le_succ _))
    obtain ⟨ao, cap, rfl⟩ := hO2.shape
    obtain ⟨c0, c1, c2, c3, c4, c5, c6, c7, c8, cf⟩ := At.nine hR2
    obtain ⟨r0, r1, r2, r3, r4, r5, r6, r7, rf⟩ := At.eight hA2
    clear HA1 HB1 hA2 hR1 hS1
    cases kb with
    | true =>
      have HB : Hid (B = true) := by rw [unhide Hkb]; rfl
      have hq2 := unhide Hq
      rw [if_pos (unhide HB)] at hq2
      have Hq2 := hide hq2
      clear hq2
      go_wp2_with fail
      refine bodyPost_ret (v := .agg #[.int .i64 2, .int .i64 kp, .string ⟨#[]⟩, .int .i64 0, .int .i64 0, .int .i64 0, .int .i64 0, .slice none 0 0]) (by simp [results, Tryz.results27, go_sem, r0, r1, r2, r3, r4, r5, r6, r7]) rfl ⟨none, 0, by rw [unhide Hq2]; rfl, ?_, by rw [unhide Hq2]; exact World.ownsRow_nil _ _ _ _⟩
      exact bset8 hBB _ _ _ _ _ _ _ _
    | false =>
      by_cases hlt : kp < s.size
      · have HB : Hid (B = true) := by rw [unhide Hkb]; simp [Hid, hlt]
        have hq2 := unhide Hq
        rw [if_pos (unhide HB)] at hq2
        have Hq2 := hide hq2
        clear hq2
        go_wp2_with fail
        refine bodyPost_ret (v := .agg #[.int .i64 2, .int .i64 kp, .string ⟨#[]⟩, .int .i64 0, .int .i64 0, .int .i64 0, .int .i64 0, .slice none 0 0]) (by simp [results, Tryz.results27, go_sem, r0, r1, r2, r3, r4, r5, r6, r7]) rfl ⟨none, 0, by rw [unhide Hq2]; rfl, ?_, by rw [unhide Hq2]; exact World.ownsRow_nil _ _ _ _⟩
        exact bset8 hBB _ _ _ _ _ _ _ _
      · have HB : Hid (B = false) := by rw [unhide Hkb]; simp [Hid, hlt]
        have hq2 := unhide Hq
        rw [if_neg (by rw [unhide HB]; simp)] at hq2
        have HO2 := hide hO2
        clear hO2
        by_cases hst : 0 ≤ stray kcs
        · rw [if_pos hst] at hq2
          have Hq2 := hide hq2
          clear hq2
          have hcall := hide (strayLine_any w2 _ ao cap kcs (by omega) (unhide HO2))
          generalize stray kcs = sl at *
          go_wp2_with fail
          refine (unhide hcall).mono ?_
          rintro e w3 ⟨rfl, j, rfl⟩
          go_wp2_with fail
          refine bodyPost_ret (v := .agg #[.int .i64 3, .int .i64 sl, .string ⟨#[]⟩, .int .i64 0, .int .i64 0, .int .i64 0, .int .i64 0, .slice none 0 0]) (by simp [results, Tryz.results27, go_sem, r0, r1, r2, r3, r4, r5, r6, r7]) rfl ⟨none, 0, by rw [unhide Hq2]; rfl, ?_, by rw [unhide Hq2]; exact World.ownsRow_nil _ _ _ _⟩
          exact bset8 (below_drewN hBB j) _ _ _ _ _ _ _ _
        · rw [if_neg hst] at hq2
          have Hq2 := hide hq2
          have hst2 : decide (0 ≤ stray kcs) = false := by simpa using hst
          clear hq2 hst
          have hcall := hide (strayLine_any w2 _ ao cap kcs (by omega) (unhide HO2))
          generalize stray kcs = sl at *
          go_wp2_with fail
          refine (unhide hcall).mono ?_
          rintro e w3 ⟨rfl, j, rfl⟩
          go_wp2_with fail
          refine bodyPost_ret (v := .agg #[.int .i64 0, .int .i64 0, .string (s.extract 0 hp), .int .i64 hW, .int .i64 V, .int .i64 hN, .int .i64 hM, .slice ao kcs.length cap]) (by simp [results, Tryz.results27, go_sem, r0, r1, r2, r3, r4, r5, r6, r7]) rfl ⟨ao, cap, by rw [unhide Hq2]; rfl, ?_, ?_⟩
          · exact bset8 (below_drewN hBB j) _ _ _ _ _ _ _ _
          · rw [unhide Hq2]
            exact oset8 (show Own (w2.drewN j) _ _ _ from unhide HO2) _ _ _ _ _ _ _ _

theorem cod_ok {s : ByteArray} (h : (codP s).e = 0) : ¬ 1000 < s.size ∧ codBad s = false ∧ stray (cod s).cs = -1 ∧ codP s = ⟨0, 0, s.extract 0 (hdr s).1, (hdr s).2.2.1, pw (hdr s).2.2.1, (hdr s).2.2.2.1, (hdr s).2.2.2.2, (cod s).cs⟩ := by
  unfold codP at *
  by_cases h1 : 1000 < s.size
  · rw [if_pos h1] at h; cases h
  · rw [if_neg h1] at h ⊢
    by_cases h2 : codBad s = true
    · rw [if_pos h2] at h; cases h
    · rw [if_neg h2] at h ⊢
      by_cases h3 : 0 ≤ stray (cod s).cs
      · rw [if_pos h3] at h; cases h
      · have := stray_bd (cod s).cs
        rw [if_neg h3]
        exact ⟨h1, by simpa using h2, by omega, rfl⟩
end Go.Proofs.YtnkbfdbbcaffmaaGreatDoor
/-
  Lines that are read fit.
-/
namespace Go.Proofs.YtnkbfdbbcaffmaaGreatDoor
open Go.RowKit

theorem opOK_zero (V : Int) (n : Nat) (hV : 1 ≤ V) : OpOK V n false (0 : Int).toNat := ⟨fun e => (by cases e), fun _ => by simp; omega⟩

theorem tlin_ok {s : ByteArray} {p : Nat} {V : Int} {n : Nat} {k : Int} (hV : 1 ≤ V) (hp : p < s.size) (hb : (tlin s p V n k).2.1 = false) : CmOK V n (tlin s p V n k).2.2 ∧ 0 ≤ (tlin s p V n k).2.2.yes ∧ 0 ≤ (tlin s p V n k).2.2.no := by
  have hx0 : p + 1 ≤ s.size := hp
  unfold tlin at *
  by_cases k1 : k = 61
  · rw [if_pos k1] at hb ⊢
    unfold cmSet at hb ⊢
    dsimp only at *
    have f1 := tb_fwd s (p + 1) false 97 (97 + (n : Int) - 1) hx0
    have f2 := opnd_fwd s _ (tb s (p + 1) false 97 (97 + (n : Int) - 1)).2.1 V n f1.2.1
    have f3 := opn_fwd s _ (opnd s (tb s (p + 1) false 97 (97 + (n : Int) - 1)).1 (tb s (p + 1) false 97 (97 + (n : Int) - 1)).2.1 V n).2.1 f2.2.1
    have f4 := opnd_fwd s _ (opn s (opnd s (tb s (p + 1) false 97 (97 + (n : Int) - 1)).1 (tb s (p + 1) false 97 (97 + (n : Int) - 1)).2.1 V n).1 (opnd s (tb s (p + 1) false 97 (97 + (n : Int) - 1)).1 (tb s (p + 1) false 97 (97 + (n : Int) - 1)).2.1 V n).2.1).2.1 V n f3.2.1
    have b3 := f4.back hb
    have b2 := f3.back b3
    have b1 := f2.back b2
    have v1 := tb_ok b1
    have x1 := opnd_ok hV b2
    have o1 := opn_ok b3
    have y1 := opnd_ok hV hb
    exact ⟨⟨.inl (by rfl), v1.1, x1.1, y1.1, fun _ => by dsimp only; omega, x1.2, fun _ => y1.2, fun _ => o1⟩, Int.le_refl _, Int.le_refl _⟩
  · rw [if_neg k1] at hb ⊢
    by_cases k2 : k = 108
    · rw [if_pos k2] at hb ⊢
      unfold cmLoad at hb ⊢
      dsimp only at *
      have f1 := tb_fwd s (p + 1) false 97 (97 + (n : Int) - 1) hx0
      have f2 := opnd_fwd s _ (tb s (p + 1) false 97 (97 + (n : Int) - 1)).2.1 V n f1.2.1
      have b1 := f2.back hb
      have v1 := tb_ok b1
      have x1 := opnd_ok hV hb
      exact ⟨⟨.inl (by rfl), v1.1, x1.1, Int.le_refl _, fun _ => by dsimp only; omega, x1.2, fun e => (by rcases e with e | e <;> (dsimp only at e; omega)), fun e => (by dsimp only at e; omega)⟩, Int.le_refl _, Int.le_refl _⟩
    · rw [if_neg k2] at hb ⊢
      by_cases k3 : k = 115
      · rw [if_pos k3] at hb ⊢
        unfold cmStore at hb ⊢
        dsimp only at *
        have f1 := opnd_fwd s (p + 1) false V n hx0
        have f2 := opnd_fwd s _ (opnd s (p + 1) false V n).2.1 V n f1.2.1
        have b1 := f2.back hb
        have x1 := opnd_ok hV b1
        have y1 := opnd_ok hV hb
        exact ⟨⟨.inl (by rfl), Int.le_refl _, x1.1, y1.1, fun e => (by rcases e with e | e <;> (dsimp only at e; omega)), x1.2, fun _ => y1.2, fun e => (by dsimp only at e; omega)⟩, Int.le_refl _, Int.le_refl _⟩
      · rw [if_neg k3] at hb ⊢
        by_cases k4 : k = 122
        · rw [if_pos k4] at hb ⊢
          unfold cmZero at hb ⊢
          dsimp only at *
          have f1 := opnd_fwd s (p + 1) false V n hx0
          have f2 := nmb_fwd s _ (opnd s (p + 1) false V n).2.1 f1.2.1
          have b1 := f2.back hb
          have x1 := opnd_ok hV b1
          have n1 := nmb_bd s (opnd s (p + 1) false V n).1 (opnd s (p + 1) false V n).2.1
          exact ⟨⟨.inr (by rfl), Int.le_refl _, x1.1, Int.le_refl _, fun e => (by rcases e with e | e <;> (dsimp only at e; omega)), x1.2, fun e => (by rcases e with e | e <;> (dsimp only at e; omega)), fun e => (by dsimp only at e; omega)⟩, Int.le_refl _, n1.1⟩
        · rw [if_neg k4] at hb ⊢
          by_cases k5 : k = 106
          · rw [if_pos k5] at hb ⊢
            unfold cmJump at hb ⊢
            dsimp only at *
            have n1 := nmb_bd s (p + 1) false
            exact ⟨⟨.inr (by rfl), Int.le_refl _, Int.le_refl _, Int.le_refl _, fun e => (by rcases e with e | e <;> (dsimp only at e; omega)), opOK_zero V n hV, fun e => (by rcases e with e | e <;> (dsimp only at e; omega)), fun e => (by dsimp only at e; omega)⟩, n1.1, Int.le_refl _⟩
          · rw [if_neg k5]
            unfold cmEnd
            dsimp only at *
            exact ⟨⟨.inr (by rfl), Int.le_refl _, Int.le_refl _, Int.le_refl _, fun e => (by rcases e with e | e <;> (dsimp only at e; omega)), opOK_zero V n hV, fun e => (by rcases e with e | e <;> (dsimp only at e; omega)), fun e => (by dsimp only at e; omega)⟩, Int.le_refl _, Int.le_refl _⟩

section
variable {s : ByteArray} {V : Int} {n : Nat}
theorem ln1_good (hV : 1 ≤ V) {st : PS} (hc : isLn (pk s st.p st.bad) = true) : Good V n st (ln1 s V n st) := by
  obtain ⟨hb0, hp⟩ := isLn_pk hc
  intro hb hcs d hd
  have hd' : d ∈ st.cs ++ [lcm (tlin s st.p V n (pk s st.p st.bad)).2.2 st.cs.length] := hd
  rcases List.mem_append.1 hd' with hd' | hd'
  · exact hcs d hd'
  · simp at hd'
    subst hd'
    obtain ⟨h1, h2, h3⟩ := tlin_ok hV hp hb
    refine ⟨h1.at_ _ _, ?_, h3⟩
    unfold lcm
    dsimp only
    split
    · exact h2
    · omega

theorem rdL_good (hV : 1 ≤ V) : ∀ (f : Nat) (st : PS), Inv s st → lft s st ≤ f → Good V n st (rdL s V n f st)
  | 0, st, _, _ => fun _ h => h
  | f + 1, st, h, hl => by
    unfold rdL
    split
    · rename_i hc
      obtain ⟨nx, lx⟩ := ln1_nxt (hv := V) (hn := (n : Int)) h hc
      have n2 := rdL_nxt s V n f _ nx.2.2 (by omega)
      intro hb hcs
      exact rdL_good hV f _ nx.2.2 (by omega) hb (ln1_good hV hc (n2.1.back hb) hcs)
    · exact fun _ h => h

theorem CsOK.fixE {cs : List Cm} (h : CsOK V n cs) : CsOK V n (fixE cs) := by
  intro d hd
  unfold Proofs.YtnkbfdbbcaffmaaGreatDoor.fixE at hd
  obtain ⟨c, hc, rfl⟩ := List.mem_map.1 hd
  have := h c hc
  unfold fix1
  split
  · exact ⟨this.1.at_ _ _, Int.natCast_nonneg _, this.2.2⟩
  · exact this
end

theorem cod_csok (s : ByteArray) (h : codBad s = false) : CsOK (pw (hdr s).2.2.1) (hdr s).2.2.2.1 (cod s).cs := by
  simp [codBad] at h
  have hV := (pw_bd _ (hdr_wid s).2).1
  have hI2 : Inv s ⟨(hdr s).1, (hdr s).2.1 || !(isLn (pk s (hdr s).1 (hdr s).2.1)), []⟩ := ⟨Nat.zero_le _, hdr_le s⟩
  have := rdL_good (n := (hdr s).2.2.2.1) hV s.size _ hI2 (by unfold lft; split <;> simp) h.1 (fun c hc => by cases hc)
  exact this.fixE

theorem codP_ok {s : ByteArray} (h : (codP s).e = 0) : (codP s).OK := by
  obtain ⟨h1, h2, h3, h4⟩ := cod_ok h
  rw [h4]
  exact ⟨(hdr_wid s).1, (hdr_wid s).2, rfl, hdr_vars s, hdr_words s, cod_csok s h2, by have := cod_len s; dsimp only; omega⟩
end Go.Proofs.YtnkbfdbbcaffmaaGreatDoor
