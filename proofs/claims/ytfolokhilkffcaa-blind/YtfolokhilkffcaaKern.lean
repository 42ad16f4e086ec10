/-
  ReadKernel, leak.Check.
-/
import Derived.Test.YtfolokhilkffcaaRec
namespace Go.Proofs.Ytfolokhilkffcaa
open Go.RowKit

/-- The reader's state at the text's end. -/
def krn (s : ByteArray) : PS := rdB s (pw (hdr s).2.2.1) (hdr s).2.2.2.1 s.size ⟨(hdr s).1, (hdr s).2.1, []⟩

def krnBad (s : ByteArray) : Bool := (krn s).bad || decide ((krn s).p < s.size)

theorem hdr_wid (s : ByteArray) : 1 ≤ (hdr s).2.2.1 ∧ (hdr s).2.2.1 ≤ 8 := by
  have := tb_wid s 0 false
  unfold hdr
  dsimp only
  omega
theorem hdr_vars (s : ByteArray) : (hdr s).2.2.2.1 ≤ 8 := by
  unfold hdr
  dsimp only
  exact cnt_le _ _ _ _
theorem cnt_fwd (s : ByteArray) (bad : Bool) : ∀ f p, p ≤ s.size → p + cnt s bad f p ≤ s.size ∧ (bad = true → cnt s bad f p = 0)
  | 0, p, h => ⟨by simpa [cnt] using h, fun _ => rfl⟩
  | f + 1, p, h => by
    unfold cnt
    split
    · rename_i hk
      have hp := tk_pk s p bad (by omega)
      have := cnt_fwd s bad f (p + 1) hp.2.2
      exact ⟨by omega, fun e => by rw [hp.2.1] at e; cases e⟩
    · exact ⟨by omega, fun _ => rfl⟩
theorem hdr_le (s : ByteArray) : (hdr s).1 ≤ s.size := by
  unfold hdr
  dsimp only
  have h1 := tb_fwd s 0 false 49 56 (Nat.zero_le _)
  have h2 := cnt_fwd s (tb s 0 false 49 56).2.1 8 _ h1.2.1
  have h3 := tk_fwd s _ ((tb s 0 false 49 56).2.1 || cnt s (tb s 0 false 49 56).2.1 8 (tb s 0 false 49 56).1 == 0) 47 h2.1
  have h4 := cnt_fwd s (tk s ((tb s 0 false 49 56).1 + cnt s (tb s 0 false 49 56).2.1 8 (tb s 0 false 49 56).1) ((tb s 0 false 49 56).2.1 || cnt s (tb s 0 false 49 56).2.1 8 (tb s 0 false 49 56).1 == 0) 47).2 16 _ h3.2.1
  exact (tk_fwd s _ _ 58 h4.1).2.1

theorem krn_le (s : ByteArray) : (krn s).p ≤ s.size :=
  (rdB_nxt s _ _ s.size ⟨(hdr s).1, (hdr s).2.1, []⟩ ⟨Nat.zero_le _, hdr_le s⟩ (by unfold lft; split <;> simp)).2.2.2
theorem krn_len (s : ByteArray) : (krn s).cs.length ≤ s.size := by
  have := (rdB_nxt s (pw (hdr s).2.2.1) (hdr s).2.2.2.1 s.size ⟨(hdr s).1, (hdr s).2.1, []⟩ ⟨Nat.zero_le _, hdr_le s⟩ (by unfold lft; split <;> simp)).2.2
  exact Nat.le_trans this.1 this.2

theorem At.seven {w : World} {c : Nat} {t : TypeId} {v0 v1 v2 v3 v4 v5 v6 : Value} (h : At w c t #[v0, v1, v2, v3, v4, v5, v6]) :
    w.cell? ⟨c, 0, none⟩ = some v0 ∧ w.cell? ⟨c, 1, none⟩ = some v1 ∧ w.cell? ⟨c, 2, none⟩ = some v2 ∧ w.cell? ⟨c, 3, none⟩ = some v3 ∧ w.cell? ⟨c, 4, none⟩ = some v4 ∧ w.cell? ⟨c, 5, none⟩ = some v5 ∧ w.cell? ⟨c, 6, none⟩ = some v6 ∧ (∀ j, w.frozen? ⟨c, j, none⟩ = false) := by
  refine ⟨?_, ?_, ?_, ?_, ?_, ?_, ?_, fun j => h.frozen j⟩ <;> (rw [h.cell]; rfl)

theorem At.eight {w : World} {c : Nat} {t : TypeId} {v0 v1 v2 v3 v4 v5 v6 v7 : Value} (h : At w c t #[v0, v1, v2, v3, v4, v5, v6, v7]) :
    w.cell? ⟨c, 0, none⟩ = some v0 ∧ w.cell? ⟨c, 1, none⟩ = some v1 ∧ w.cell? ⟨c, 2, none⟩ = some v2 ∧ w.cell? ⟨c, 3, none⟩ = some v3 ∧ w.cell? ⟨c, 4, none⟩ = some v4 ∧ w.cell? ⟨c, 5, none⟩ = some v5 ∧ w.cell? ⟨c, 6, none⟩ = some v6 ∧ w.cell? ⟨c, 7, none⟩ = some v7 := by
  refine ⟨?_, ?_, ?_, ?_, ?_, ?_, ?_, ?_⟩ <;> (rw [h.cell]; rfl)

theorem bset7 {c : Nat} {w w2 : World} (h : Below c w w2) (v0 v1 v2 v3 v4 v5 v6 : Value) :
    Below c w (((((((w2.setCell ⟨c, 0, none⟩ v0).setCell ⟨c, 1, none⟩ v1).setCell ⟨c, 2, none⟩ v2).setCell ⟨c, 3, none⟩ v3).setCell ⟨c, 4, none⟩ v4).setCell ⟨c, 5, none⟩ v5).setCell ⟨c, 6, none⟩ v6) :=
  ((((((h.setCell (Nat.le_refl _) _).setCell (Nat.le_refl _) _).setCell (Nat.le_refl _) _).setCell (Nat.le_refl _) _).setCell (Nat.le_refl _) _).setCell (Nat.le_refl _) _).setCell (Nat.le_refl _) _
theorem oset7 {c : Nat} {w : World} {cv : Value} {cs : List Cm} (h : Own w (c + 1) cv cs) (v0 v1 v2 v3 v4 v5 v6 : Value) :
    Own (((((((w.setCell ⟨c, 0, none⟩ v0).setCell ⟨c, 1, none⟩ v1).setCell ⟨c, 2, none⟩ v2).setCell ⟨c, 3, none⟩ v3).setCell ⟨c, 4, none⟩ v4).setCell ⟨c, 5, none⟩ v5).setCell ⟨c, 6, none⟩ v6) (c + 1) cv cs := by
  have hc : c < c + 1 + 1 := by omega
  exact ownsRow_setCell_below (ownsRow_setCell_below (ownsRow_setCell_below (ownsRow_setCell_below (ownsRow_setCell_below (ownsRow_setCell_below (ownsRow_setCell_below h hc _) hc _) hc _) hc _) hc _) hc _) hc _

/-- What ReadKernel answers. -/
def kernV (s : ByteArray) (cv : Value) : Value :=
  if 300 < s.size then .agg #[.int .i64 1, .int .i64 0, .int .i64 0, .int .i64 0, .int .i64 0, .int .i64 0, .slice none 0 0]
  else if krnBad s = true then .agg #[.int .i64 2, .int .i64 (krn s).p, .int .i64 0, .int .i64 0, .int .i64 0, .int .i64 0, .slice none 0 0]
  else .agg #[.int .i64 0, .int .i64 0, .int .i64 (hdr s).2.2.1, .int .i64 (pw (hdr s).2.2.1), .int .i64 (hdr s).2.2.2.1, .int .i64 (hdr s).2.2.2.2, cv]

set_option maxHeartbeats 2000000 in
theorem readKernel_any (s : ByteArray) (hmx : s.size ≤ maxLen) (w : World) :
    Calls Try.prog 21 #[.string s] w fun e w' => ∃ ao n cap, e = .returned (kernV s (.slice ao n cap)) ∧ Below w.heap.size w w' ∧ (s.size ≤ 300 → Own w' (w.heap.size + 1) (.slice ao n cap) (krn s).cs) := by
  have hmx' := hmx
  unfold maxLen at hmx'
  by_cases hbig : 300 < s.size
  · have hkv : kernV s (.slice none 0 0) = .agg #[.int .i64 1, .int .i64 0, .int .i64 0, .int .i64 0, .int .i64 0, .int .i64 0, .slice none 0 0] := by unfold kernV; rw [if_pos hbig]
    have Hkv := hide hkv
    clear hkv
    go_enter Try.func21, Try.ntmps21
    go_wp2_with fail
    refine bodyPost_ret (v := .agg #[.int .i64 1, .int .i64 0, .int .i64 0, .int .i64 0, .int .i64 0, .int .i64 0, .slice none 0 0]) (by simp [results, Try.results21, go_sem]) rfl ⟨none, 0, 0, by rw [unhide Hkv], ?_, fun h => by omega⟩
    exact (Below.refl _ _).alloc (Nat.le_refl _) _
  · have hsm : s.size ≤ 1000 := by omega
    have hvr := hdr_vars s
    have hpw := pw_bd _ (hdr_wid s).2
    have hbody := body_all (b := w.heap.size + 1) (s := s) (hw := (hdr s).2.2.1) (hv := pw (hdr s).2.2.1) (hn := (hdr s).2.2.2.1) (hm := (hdr s).2.2.2.2) hsm (by omega) (by omega) hpw.1 hpw.2 s.size s.size (Nat.le_refl _)
      ⟨(hdr s).1, (hdr s).2.1, []⟩
    have hI : Inv s ⟨(hdr s).1, (hdr s).2.1, []⟩ := ⟨Nat.zero_le _, hdr_le s⟩
    have hl : lft s ⟨(hdr s).1, (hdr s).2.1, []⟩ ≤ s.size := by unfold lft; split <;> simp
    have hbody2 := fun w1 h => hbody w1 h hI hl
    have hkp := krn_le s
    rw [show rdB s (pw (hdr s).2.2.1) (hdr s).2.2.2.1 s.size ⟨(hdr s).1, (hdr s).2.1, []⟩ = krn s from rfl] at hbody2
    unfold Reads at hbody2
    have Hb := hide hbody2
    clear hbody hbody2 hI hl hvr hpw
    have hKV : ∀ cv, kernV s cv = if krnBad s = true then .agg #[.int .i64 2, .int .i64 (krn s).p, .int .i64 0, .int .i64 0, .int .i64 0, .int .i64 0, .slice none 0 0] else .agg #[.int .i64 0, .int .i64 0, .int .i64 (hdr s).2.2.1, .int .i64 (pw (hdr s).2.2.1), .int .i64 (hdr s).2.2.2.1, .int .i64 (hdr s).2.2.2.2, cv] := fun cv => by
      unfold kernV; rw [if_neg hbig]
    have HKV := hide hKV
    clear hKV
    generalize hH : hdr s = H at *
    obtain ⟨hp, hb, hW, hN, hM⟩ := H
    have HH := hide hH
    clear hH
    dsimp only at *
    have hkb : krnBad s = ((krn s).bad || decide ((krn s).p < s.size)) := rfl
    have Hkb := hide hkb
    clear hkb
    generalize hK : krn s = K at *
    obtain ⟨kp, kb, kcs⟩ := K
    clear hK
    dsimp only at *
    generalize hV : pw hW = V at *
    have HV := hide hV
    clear hV
    generalize hB : krnBad s = B at *
    clear hB
    go_enter Try.func21, Try.ntmps21
    go_wp2_with fail
    refine (readHead_any (b := w.heap.size + 1) (s := s) (hw := 0) (hv := 0) (hn := 0) (hm := 0) (cv := .slice none 0 0) (by
      have := At.new (w.alloc (.cells #[.int .i64 0, .int .i64 0, .int .i64 0, .int .i64 0, .int .i64 0, .int .i64 0, .slice none 0 0] 53)) 64 #[.string s, .int .i64 0, .bool false, .int .i64 0, .int .i64 0, .int .i64 0, .int .i64 0, .slice none 0 0]
      simpa [Rd] using this) hmx).mono ?_
    rintro e w1 ⟨rfl, hR1, hg1⟩
    rw [unhide HH] at hR1
    dsimp only at hR1
    rw [unhide HV] at hR1
    have hA1 := At.grown (At.alloc (At.new w 53 #[.int .i64 0, .int .i64 0, .int .i64 0, .int .i64 0, .int .i64 0, .int .i64 0, .slice none 0 0]) _) hg1 (by simp)
    have hB1 := gb_below hg1 (by simp)
    have HA1 := hide hA1
    have HB1 := hide (((Below.refl w.heap.size w).alloc (Nat.le_refl _) _).alloc (by simp) _ |>.trans (hB1.mono (Nat.le_succ _)))
    clear hA1 hB1
    go_wp2_with fail
    have hS1 : Stt w1 (w.heap.size + 1) s hW V hN hM ⟨hp, hb, []⟩ := ⟨_, hR1, World.ownsRow_nil w1 _ _ _⟩
    refine (unhide Hb w1 hS1).mono ?_
    rintro e w2 ⟨rfl, ⟨cv, hR2, hO2⟩, hB2⟩
    dsimp only at hR2 hO2
    have hA2 : At w2 w.heap.size 53 #[.int .i64 0, .int .i64 0, .int .i64 0, .int .i64 0, .int .i64 0, .int .i64 0, .slice none 0 0] := by
      have := unhide HA1
      unfold At at this ⊢
      rw [hB2.block w.heap.size (by omega)]; exact this
    have hBB := (unhide HB1).trans (hB2.mono (Nat.le_succ _))
    obtain ⟨ao, cap, rfl⟩ := hO2.shape
    obtain ⟨c0, c1, c2, c3, c4, c5, c6, c7⟩ := At.eight hR2
    obtain ⟨r0, r1, r2, r3, r4, r5, r6, rf⟩ := At.seven hA2
    clear HA1 HB1 hA2 hR1 hS1
    cases kb with
    | true =>
      have HB : Hid (B = true) := by rw [unhide Hkb]; rfl
      go_wp2_with fail
      refine bodyPost_ret (v := .agg #[.int .i64 2, .int .i64 kp, .int .i64 0, .int .i64 0, .int .i64 0, .int .i64 0, .slice none 0 0]) (by simp [results, Try.results21, go_sem, r0, r1, r2, r3, r4, r5, r6]) rfl ⟨ao, kcs.length, cap, by rw [unhide HKV, if_pos (by rw [unhide HB])], ?_, fun _ => ?_⟩
      · exact bset7 hBB _ _ _ _ _ _ _
      · exact oset7 hO2 _ _ _ _ _ _ _
    | false =>
      by_cases hlt : kp < s.size
      · have HB : Hid (B = true) := by rw [unhide Hkb]; simp [Hid, hlt]
        go_wp2_with fail
        refine bodyPost_ret (v := .agg #[.int .i64 2, .int .i64 kp, .int .i64 0, .int .i64 0, .int .i64 0, .int .i64 0, .slice none 0 0]) (by simp [results, Try.results21, go_sem, r0, r1, r2, r3, r4, r5, r6]) rfl ⟨ao, kcs.length, cap, by rw [unhide HKV, if_pos (by rw [unhide HB])], ?_, fun _ => ?_⟩
        · exact bset7 hBB _ _ _ _ _ _ _
        · exact oset7 hO2 _ _ _ _ _ _ _
      · have HB : Hid (B = false) := by rw [unhide Hkb]; simp [Hid, hlt]
        go_wp2_with fail
        refine bodyPost_ret (v := .agg #[.int .i64 0, .int .i64 0, .int .i64 hW, .int .i64 V, .int .i64 hN, .int .i64 hM, .slice ao kcs.length cap]) (by simp [results, Try.results21, go_sem, r0, r1, r2, r3, r4, r5, r6]) rfl ⟨ao, kcs.length, cap, by rw [unhide HKV, if_neg (by rw [unhide HB]; simp)], ?_, fun _ => ?_⟩
        · exact bset7 hBB _ _ _ _ _ _ _
        · exact oset7 hO2 _ _ _ _ _ _ _

/-- What Check answers. -/
def chk (s : ByteArray) : Int × Int := if 300 < s.size then (1, 0) else if krnBad s = true then (2, (krn s).p) else (0, 0)

theorem kernV_form (s : ByteArray) (ao : Option Addr) (n cap : Nat) : ∃ c2 c3 c4 c5 ao' n' cap', kernV s (.slice ao n cap) = .agg #[.int .i64 (chk s).1, .int .i64 (chk s).2, .int .i64 c2, .int .i64 c3, .int .i64 c4, .int .i64 c5, .slice ao' n' cap'] := by
  unfold kernV chk
  split
  · exact ⟨_, _, _, _, _, _, _, rfl⟩
  · split
    · exact ⟨_, _, _, _, _, _, _, rfl⟩
    · exact ⟨_, _, _, _, _, _, _, rfl⟩
end Go.Proofs.Ytfolokhilkffcaa
