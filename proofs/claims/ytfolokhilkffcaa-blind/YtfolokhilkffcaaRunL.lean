/-
  leak.Run.
-/
import Derived.Test.YtfolokhilkffcaaRunK
import Derived.Test.YtfolokhilkffcaaInp
namespace Go.Proofs.Ytfolokhilkffcaa
open Go.RowKit

theorem tb_ok {s : ByteArray} {p : Nat} {a : Bool} {lo hi : Int} (h : (tb s p a lo hi).2.1 = false) : 0 ≤ (tb s p a lo hi).2.2 ∧ (tb s p a lo hi).2.2 ≤ hi - lo := by
  unfold tb at *
  by_cases hr : lo ≤ pk s p a ∧ pk s p a ≤ hi
  · rw [if_pos hr]; dsimp only; omega
  · rw [if_neg hr] at h; cases h

theorem opnd_ok {s : ByteArray} {p : Nat} {a : Bool} {V : Int} {n : Nat} (hV : 1 ≤ V) (h : (opnd s p a V n).2.1 = false) : 0 ≤ (opnd s p a V n).2.2.2 ∧ OpOK V n (opnd s p a V n).2.2.1 (opnd s p a V n).2.2.2.toNat := by
  unfold opnd at *
  by_cases hr : 48 ≤ pk s p a ∧ pk s p a ≤ 57
  · rw [if_pos hr] at h ⊢
    dsimp only at *
    have h1 := Int.emod_nonneg (tb s p a 48 57).2.2 (b := V) (by omega)
    have h2 := Int.emod_lt_of_pos (tb s p a 48 57).2.2 (b := V) (by omega)
    exact ⟨h1, fun e => (by cases e), fun _ => by omega⟩
  · rw [if_neg hr] at h ⊢
    dsimp only at *
    have := tb_ok h
    exact ⟨this.1, fun _ => by omega, fun e => (by cases e)⟩

theorem opn_ok {s : ByteArray} {p : Nat} {a : Bool} (h : (opn s p a).2.1 = false) : isOp (opn s p a).2.2 = true := by
  unfold opn at *
  by_cases hr : isOp (pk s p a) = true
  · rw [if_pos hr]; exact hr
  · rw [if_neg hr] at h; cases h

/-- A mark that is not set behind was not set before. -/
theorem Fwd.back {s : ByteArray} {p q : Nat} {a b : Bool} (h : Fwd s p a q b) (hb : b = false) : a = false := by
  cases a with
  | false => rfl
  | true => rw [(h.2.2 rfl).2] at hb; cases hb

theorem tcmd_ok {s : ByteArray} {p : Nat} {V : Int} {n : Nat} {k : Int} (hV : 1 ≤ V) (hp : p < s.size) (hk : isCmd k = true) (hb : (tcmd s p V n k).2.1 = false) (y o : Int) : CmOK V n { (tcmd s p V n k).2.2 with yes := y, no := o } := by
  have hkk := tcmd_kind s p V n k
  have hx0 : p + 1 ≤ s.size := hp
  unfold tcmd at *
  by_cases k1 : k = 61
  · rw [if_pos k1] at hb ⊢
    unfold cmSet at hb ⊢
    dsimp only at *
    have f1 := tb_fwd s (p + 1) false 97 (97 + (n : Int) - 1) hx0
    have f2 := opnd_fwd s _ (tb s (p + 1) false 97 (97 + (n : Int) - 1)).2.1 V n f1.2.1
    have f3 := opn_fwd s _ (opnd s (tb s (p + 1) false 97 (97 + (n : Int) - 1)).1 (tb s (p + 1) false 97 (97 + (n : Int) - 1)).2.1 V n).2.1 f2.2.1
    have f4 := opnd_fwd s _ (opn s (opnd s (tb s (p + 1) false 97 (97 + (n : Int) - 1)).1 (tb s (p + 1) false 97 (97 + (n : Int) - 1)).2.1 V n).1 (opnd s (tb s (p + 1) false 97 (97 + (n : Int) - 1)).1 (tb s (p + 1) false 97 (97 + (n : Int) - 1)).2.1 V n).2.1).2.1 V n f3.2.1
    have b3 := f4.back hb
    have b2 := f3.back b3
    have b1 := f2.back b2
    have v1 := tb_ok b1
    have x1 := opnd_ok hV b2
    have o1 := opn_ok b3
    have y1 := opnd_ok hV hb
    exact ⟨by rfl, v1.1, x1.1, y1.1, fun _ => by dsimp only; omega, x1.2, fun _ => y1.2, fun _ => o1⟩
  · rw [if_neg k1] at hb ⊢
    by_cases k2 : k = 108
    · rw [if_pos k2] at hb ⊢
      unfold cmLoad at hb ⊢
      dsimp only at *
      have f1 := tb_fwd s (p + 1) false 97 (97 + (n : Int) - 1) hx0
      have f2 := opnd_fwd s _ (tb s (p + 1) false 97 (97 + (n : Int) - 1)).2.1 V n f1.2.1
      have b1 := f2.back hb
      have v1 := tb_ok b1
      have x1 := opnd_ok hV hb
      exact ⟨by rfl, v1.1, x1.1, Int.le_refl _, fun _ => by dsimp only; omega, x1.2, fun e => (by rcases e with e | e <;> (dsimp only at e; omega)), fun e => (by dsimp only at e; omega)⟩
    · rw [if_neg k2] at hb ⊢
      by_cases k3 : k = 115
      · rw [if_pos k3] at hb ⊢
        unfold cmStore at hb ⊢
        dsimp only at *
        have f1 := opnd_fwd s (p + 1) false V n hx0
        have f2 := opnd_fwd s _ (opnd s (p + 1) false V n).2.1 V n f1.2.1
        have b1 := f2.back hb
        have x1 := opnd_ok hV b1
        have y1 := opnd_ok hV hb
        exact ⟨by rfl, Int.le_refl _, x1.1, y1.1, fun e => (by rcases e with e | e <;> (dsimp only at e; omega)), x1.2, fun _ => y1.2, fun e => (by dsimp only at e; omega)⟩
      · rw [if_neg k3] at hb ⊢
        unfold cmTest at hb ⊢
        dsimp only at *
        have x1 := opnd_ok hV hb
        exact ⟨hk, Int.le_refl _, x1.1, Int.le_refl _, fun e => (by rcases e with e | e <;> (dsimp only at e; omega)), x1.2, fun e => (by rcases e with e | e <;> (dsimp only at e; omega)), fun e => (by dsimp only at e; omega)⟩

theorem CmOK.at_ {V : Int} {n : Nat} {c : Cm} (h : CmOK V n c) (y o : Int) : CmOK V n { c with yes := y, no := o } := ⟨h.kind, h.v0, h.x0, h.y0, h.var, h.x, h.y, h.op⟩

theorem CsOK.rdr {V : Int} {n : Nat} {cs : List Cm} (h : CsOK V n cs) (lo hi : Nat) (old : Int) (now : Nat) : CsOK V n (rdr cs lo hi old now) := by
  intro c hc
  obtain ⟨i, hi', e⟩ := List.mem_iff_getElem.1 hc
  have e2 := rdr_get cs lo hi old now i
  rw [List.getElem?_eq_getElem hi', e] at e2
  cases hd : cs[i]? with
  | none => rw [hd] at e2; cases e2
  | some d =>
    rw [hd] at e2
    simp at e2
    have hdm := h d (List.mem_of_getElem? hd)
    subst e2
    split
    · refine ⟨hdm.1.at_ _ _, ?_, ?_⟩
      · show 0 ≤ (if d.yes = old then (now : Int) else d.yes)
        split
        · omega
        · exact hdm.2.1
      · show 0 ≤ (if d.no = old then (now : Int) else d.no)
        split
        · omega
        · exact hdm.2.2
    · exact hdm
theorem CsOK.setNo {V : Int} {n : Nat} {cs : List Cm} (h : CsOK V n cs) (i v : Nat) : CsOK V n (setNo cs i v) := by
  unfold Proofs.Ytfolokhilkffcaa.setNo
  split
  · rename_i c hc
    have hcm := h c (List.mem_of_getElem? hc)
    intro d hd
    rcases List.mem_or_eq_of_mem_set hd with hd | rfl
    · exact h d hd
    · exact ⟨hcm.1.at_ _ _, hcm.2.1, Int.natCast_nonneg _⟩
  · exact h

section
variable {s : ByteArray} {V : Int} {n : Nat}
/-- Where the mark is not set behind, all commands fit. -/
def Good (V : Int) (n : Nat) (st st' : PS) : Prop := st'.bad = false → CsOK V n st.cs → CsOK V n st'.cs

theorem blk_good {rdb : PS → PS} {N : Nat} (hn : ∀ st, Inv s st → lft s st ≤ N → Nxt s st (rdb st)) (hg : ∀ st, Inv s st → lft s st ≤ N → Good V n st (rdb st)) {st : PS} (h : Inv s st) (hl : lft s st ≤ N) : Good V n st (blk rdb s st) := by
  unfold blk
  have h1 := nxt_tk h 40
  have h2 := hn _ h1.2.2 (Nat.le_trans h1.lft hl)
  have h3 := nxt_tk h2.2.2 41
  intro hb hc
  exact hg _ h1.2.2 (Nat.le_trans h1.lft hl) (h3.1.back hb) hc

theorem step_good {rdb : PS → PS} {N : Nat} (hV : 1 ≤ V) (hn : ∀ st, Inv s st → lft s st ≤ N → Nxt s st (rdb st)) (hg : ∀ st, Inv s st → lft s st ≤ N → Good V n st (rdb st)) {st : PS} (h : Inv s st) (hl : lft s st ≤ N + 1) (hc : isCmd (pk s st.p st.bad) = true) : Good V n st (cmdStep rdb s V n st) := by
  obtain ⟨i1, _, _, l1⟩ := ps1_nxt (hv := V) (hn := (n : Int)) h hc
  obtain ⟨hb0, hp⟩ := isCmd_pk hc
  have g1 : Good V n st (ps1 s V n st) := by
    intro hb hcs
    intro d hd
    have hd' : d ∈ st.cs ++ [{ (tcmd s st.p V n (pk s st.p st.bad)).2.2 with yes := st.cs.length + 1, no := st.cs.length + 1 }] := hd
    rcases List.mem_append.1 hd' with hd' | hd'
    · exact hcs d hd'
    · simp at hd'
      subst hd'
      exact ⟨tcmd_ok hV hp hc hb _ _, by dsimp only; omega, by dsimp only; omega⟩
  unfold cmdStep
  split
  · have a := blk_nxt hn i1 (by omega)
    have ga := blk_good hn hg i1 (by omega)
    have c := blk_nxt hn a.2.2 (by have := a.lft; omega)
    have gc := blk_good hn hg a.2.2 (by have := a.lft; omega)
    intro hb hcs
    have hb2 : (blk rdb s (blk rdb s (ps1 s V n st))).bad = false := hb
    have hb1 := c.1.back hb2
    have hb0 := a.1.back hb1
    exact (CsOK.rdr (gc hb2 (ga hb1 (g1 hb0 hcs))) _ _ _ _).setNo _ _
  · split
    · have a := blk_nxt hn i1 (by omega)
      have ga := blk_good hn hg i1 (by omega)
      intro hb hcs
      have hb1 : (blk rdb s (ps1 s V n st)).bad = false := hb
      have hb0 := a.1.back hb1
      exact (CsOK.rdr (ga hb1 (g1 hb0 hcs)) _ _ _ _).setNo _ _
    · exact g1

theorem rdB_good (hV : 1 ≤ V) : ∀ (f : Nat) (st : PS), Inv s st → lft s st ≤ f → Good V n st (rdB s V n f st)
  | 0, st, _, _ => fun _ h => h
  | f + 1, st, h, hl => by
    unfold rdB
    split
    · rename_i hc
      have hrn : ∀ st, Inv s st → lft s st ≤ f → Nxt s st (rdB s V n f st) := rdB_nxt s V n f
      have hrg : ∀ st, Inv s st → lft s st ≤ f → Good V n st (rdB s V n f st) := rdB_good hV f
      obtain ⟨nx, lx⟩ := step_nxt (hv := V) (hn := (n : Int)) hrn h hl hc
      have gs := step_good hV hrn hrg h hl hc
      have n2 := hrn _ nx.2.2 (by omega)
      intro hb hcs
      exact hrg _ nx.2.2 (by omega) hb (gs (n2.1.back hb) hcs)
    · exact fun _ h => h
end

theorem krn_ok (s : ByteArray) (h : krnBad s = false) : CsOK (pw (hdr s).2.2.1) (hdr s).2.2.2.1 (krn s).cs := by
  simp [krnBad] at h
  have hV := (pw_bd _ (hdr_wid s).2).1
  exact rdB_good hV s.size ⟨(hdr s).1, (hdr s).2.1, []⟩ ⟨Nat.zero_le _, hdr_le s⟩ (by unfold lft; split <;> simp) h.1 (fun c hc => by cases hc)

theorem hdr_words (s : ByteArray) : (hdr s).2.2.2.2 ≤ 16 := by
  unfold hdr
  dsimp only
  exact cnt_le _ _ _ _
end Go.Proofs.Ytfolokhilkffcaa
