import Derived.Test.YtnkbfdbbcaffmabX08Mach6
import Derived.Test.YtnkbfdbbcaffmabX11Kern
/-
  IsInput, refusal.
-/
namespace Go.Proofs.Ytnkbfdbbcaffmab
open Go.RowKit

def okV (V z : Int) : Bool := decide (0 ≤ z) && decide (z < V)
/-- Is it an input? -/
def inB (V : Int) (k : Nat) (zs : List Int) : Bool := (zs.length == k) && zs.all (okV V)

theorem Lies.at_ {w : World} {ab ao : Nat} {zs : List Int} (h : Lies w ⟨ab, ao, none⟩ zs) (i : Nat) (hi : i < zs.length) : w.cell? ⟨ab, ao + i, none⟩ = some (.int .i64 (zs.getD i 0)) := by
  have := h i zs[i] (List.getElem?_eq_getElem hi)
  rw [Addr.add_lit] at this
  simpa [List.getD, hi] using this

set_option maxHeartbeats 1000000 in
theorem isInput_any (tx : ByteArray) (W V : Int) (n m : Nat) (ab ao cin : Nat) (zs : List Int) (hl : zs.length ≤ 9223372036854775807) (hn : n ≤ 100) (hm : m ≤ 100) (w : World) (hL : Lies w ⟨ab, ao, none⟩ zs) :
    Calls Try.prog 60 #[.agg #[.string tx, .int .i64 W, .int .i64 V, .int .i64 n, .int .i64 m], .slice (some ⟨ab, ao, none⟩) zs.length cin] w fun e w' => e = .returned (.bool (inB V (n + m) zs)) ∧ w.grownBy w' none := by
  generalize hr : inB V (n + m) zs = r
  have Hr := hide hr
  clear hr
  have hL1 := hL.grown (gb_alloc (gb_refl w none) (.cells #[.string tx, .int .i64 W, .int .i64 V, .int .i64 n, .int .i64 m] 53)) (by simp)
  have HL1 := hide hL1
  clear hL1
  by_cases hlen : zs.length = n + m
  · have hb : ((zs.length : Int) != (n : Int) + (m : Int)) = false := by simp; omega
    have hz2 : zs.length ≤ 200 := by omega
    have hr2 : zs.all (okV V) = r := by
      rw [← unhide Hr, inB, hlen]; simp
    have Hr2 := hide hr2
    clear hr2 hlen
    have hA := At.new w 53 #[.string tx, .int .i64 W, .int .i64 V, .int .i64 n, .int .i64 m]
    have q1 := hA.cell 2
    simp at q1
    clear hA q1
    go_enter Try.func60, Try.ntmps60
    go_wp2_with fail
    go_loopw [5] (fun i wr => ∃ k : Nat, i = .int .i64 k ∧ k ≤ zs.length ∧ (∃ j, wr = (w.alloc (.cells #[.string tx, .int .i64 W, .int .i64 V, .int .i64 n, .int .i64 m] 53)).drewN j) ∧ Hid ((zs.drop k).all (okV V) = r)) (fun i _ => zs.length - (intOf i).toNat)
    case atStart => exact ⟨0, rfl, by omega, ⟨0, rfl⟩, Hr2⟩
    case round =>
      obtain ⟨k, rfl, hk, ⟨j, rfl⟩, HK⟩ := hrel
      by_cases hlt : k < zs.length
      · have hc := (unhide HL1).at_ k hlt
        have hst := unhide HK
        rw [List.drop_eq_getElem_cons hlt, List.all_cons] at hst
        have hgd : zs.getD k 0 = zs[k] := by simp [List.getD, hlt]
        rw [hgd] at hc
        have Hst := hide hst
        clear hst hgd
        generalize hz : zs[k] = z at *
        clear hz
        have hlI : (k : Int) < (zs.length : Int) := by omega
        by_cases h0 : z < 0
        · have hd0 : decide (z < 0) = true := by simpa using h0
          have hrf : false = r := by rw [← unhide Hst, okV]; simp; omega
          have Hrf := hide hrf
          clear hrf h0
          go_wp2_with fail
          go_quiet (fail)
          go_wp2_with fail
          go_ret
          exact ⟨ret_bool (unhide Hrf), gb_drewN (gb_drewN (gb_alloc (gb_refl _ _) _) _) _⟩
        · have hd0 : decide (z < 0) = false := by simpa using h0
          by_cases hV : V ≤ z
          · have hd1 : decide (V ≤ z) = true := by simpa using hV
            have hrf : false = r := by rw [← unhide Hst, okV]; simp; omega
            have Hrf := hide hrf
            clear hrf h0 hV
            go_wp2_with fail
            go_quiet (fail)
            go_wp2_with fail
            go_ret
            exact ⟨ret_bool (unhide Hrf), gb_drewN (gb_drewN (gb_alloc (gb_refl _ _) _) _) _⟩
          · have hd1 : decide (V ≤ z) = false := by simpa using hV
            have hrf : (zs.drop (k + 1)).all (okV V) = r := by
              have h := unhide Hst
              have e : okV V z = true := by simp [okV]; omega
              rw [e, Bool.true_and] at h; exact h
            have Hrf := hide hrf
            clear hrf h0 hV
            go_wp2_with fail
            go_quiet (fail)
            go_wp2_with fail
            go_roundw
            case rel => exact ⟨k + 1, by go_num, by omega, ⟨_, rfl⟩, Hrf⟩
            case measure => simp [intOf]; omega
      · have hrf : true = r := by
          rw [← unhide HK, List.drop_of_length_le (by omega)]; rfl
        have Hrf := hide hrf
        clear hrf
        go_wp2_with fail
        go_ret
        exact ⟨ret_bool (unhide Hrf), gb_drewN (gb_alloc (gb_refl _ _) _) _⟩
  · have hb : ((zs.length : Int) != (n : Int) + (m : Int)) = true := by simp; omega
    have hr2 : false = r := by
      rw [← unhide Hr, inB]
      have : (zs.length == n + m) = false := by simpa using hlen
      rw [this]; rfl
    have Hr2 := hide hr2
    clear hr2 hlen
    go_enter Try.func60, Try.ntmps60
    go_wp2_with fail
    go_ret
    exact ⟨ret_bool (unhide Hr2), gb_alloc (gb_refl _ _) _⟩

/-- The first thing that is wrong with what a run begins with. -/
def rfs (V : Int) (k : Nat) (view : Int) (zs : List Int) (fuel : Int) : Int :=
  if view < 0 ∨ 8 < view then 4 else if inB V k zs = false then 5 else if fuel < 0 ∨ 10000 < fuel then 6 else 0

end Go.Proofs.Ytnkbfdbbcaffmab
/-
  leak.Run.
-/
namespace Go.Proofs.Ytnkbfdbbcaffmab
open Go.RowKit

theorem tb_ok {s : ByteArray} {p : Nat} {a : Bool} {lo hi : Int} (h : (tb s p a lo hi).2.1 = false) : 0 ≤ (tb s p a lo hi).2.2 ∧ (tb s p a lo hi).2.2 ≤ hi - lo := by
  unfold tb at *
  by_cases hr : lo ≤ pk s p a ∧ pk s p a ≤ hi
  · rw [if_pos hr]; dsimp only; omega
  · rw [if_neg hr] at h; cases h

theorem opnd_ok {s : ByteArray} {p : Nat} {a : Bool} {V : Int} {n : Nat} (hV : 1 ≤ V) (h : (opnd s p a V n).2.1 = false) : 0 ≤ (opnd s p a V n).2.2.2 ∧ OpOK V n (opnd s p a V n).2.2.1 (opnd s p a V n).2.2.2.toNat := by
  unfold opnd at *
  by_cases hr : 48 ≤ pk s p a ∧ pk s p a ≤ 57
  · rw [if_pos hr] at h ⊢
    dsimp only at *
    have h1 := Int.emod_nonneg (tb s p a 48 57).2.2 (b := V) (by omega)
    have h2 := Int.emod_lt_of_pos (tb s p a 48 57).2.2 (b := V) (by omega)
    exact ⟨h1, fun e => (by cases e), fun _ => by omega⟩
  · rw [if_neg hr] at h ⊢
    dsimp only at *
    have := tb_ok h
    exact ⟨this.1, fun _ => by omega, fun e => (by cases e)⟩

theorem opn_ok {s : ByteArray} {p : Nat} {a : Bool} (h : (opn s p a).2.1 = false) : isOp (opn s p a).2.2 = true := by
  unfold opn at *
  by_cases hr : isOp (pk s p a) = true
  · rw [if_pos hr]; exact hr
  · rw [if_neg hr] at h; cases h

/-- A mark that is not set behind was not set before. -/
theorem Fwd.back {s : ByteArray} {p q : Nat} {a b : Bool} (h : Fwd s p a q b) (hb : b = false) : a = false := by
  cases a with
  | false => rfl
  | true => rw [(h.2.2 rfl).2] at hb; cases hb

theorem tcmd_ok {s : ByteArray} {p : Nat} {V : Int} {n : Nat} {k : Int} (hV : 1 ≤ V) (hp : p < s.size) (hk : isCmd k = true) (hb : (tcmd s p V n k).2.1 = false) (y o : Int) : CmOK V n { (tcmd s p V n k).2.2 with yes := y, no := o } := by
  have hkk := tcmd_kind s p V n k
  have hx0 : p + 1 ≤ s.size := hp
  unfold tcmd at *
  by_cases k1 : k = 61
  · rw [if_pos k1] at hb ⊢
    unfold cmSet at hb ⊢
    dsimp only at *
    have f1 := tb_fwd s (p + 1) false 97 (97 + (n : Int) - 1) hx0
    have f2 := opnd_fwd s _ (tb s (p + 1) false 97 (97 + (n : Int) - 1)).2.1 V n f1.2.1
    have f3 := opn_fwd s _ (opnd s (tb s (p + 1) false 97 (97 + (n : Int) - 1)).1 (tb s (p + 1) false 97 (97 + (n : Int) - 1)).2.1 V n).2.1 f2.2.1
    have f4 := opnd_fwd s _ (opn s (opnd s (tb s (p + 1) false 97 (97 + (n : Int) - 1)).1 (tb s (p + 1) false 97 (97 + (n : Int) - 1)).2.1 V n).1 (opnd s (tb s (p + 1) false 97 (97 + (n : Int) - 1)).1 (tb s (p + 1) false 97 (97 + (n : Int) - 1)).2.1 V n).2.1).2.1 V n f3.2.1
    have b3 := f4.back hb
    have b2 := f3.back b3
    have b1 := f2.back b2
    have v1 := tb_ok b1
    have x1 := opnd_ok hV b2
    have o1 := opn_ok b3
    have y1 := opnd_ok hV hb
    exact ⟨.inl (by rfl), v1.1, x1.1, y1.1, fun _ => by dsimp only; omega, x1.2, fun _ => y1.2, fun _ => o1⟩
  · rw [if_neg k1] at hb ⊢
    by_cases k2 : k = 108
    · rw [if_pos k2] at hb ⊢
      unfold cmLoad at hb ⊢
      dsimp only at *
      have f1 := tb_fwd s (p + 1) false 97 (97 + (n : Int) - 1) hx0
      have f2 := opnd_fwd s _ (tb s (p + 1) false 97 (97 + (n : Int) - 1)).2.1 V n f1.2.1
      have b1 := f2.back hb
      have v1 := tb_ok b1
      have x1 := opnd_ok hV hb
      exact ⟨.inl (by rfl), v1.1, x1.1, Int.le_refl _, fun _ => by dsimp only; omega, x1.2, fun e => (by rcases e with e | e <;> (dsimp only at e; omega)), fun e => (by dsimp only at e; omega)⟩
    · rw [if_neg k2] at hb ⊢
      by_cases k3 : k = 115
      · rw [if_pos k3] at hb ⊢
        unfold cmStore at hb ⊢
        dsimp only at *
        have f1 := opnd_fwd s (p + 1) false V n hx0
        have f2 := opnd_fwd s _ (opnd s (p + 1) false V n).2.1 V n f1.2.1
        have b1 := f2.back hb
        have x1 := opnd_ok hV b1
        have y1 := opnd_ok hV hb
        exact ⟨.inl (by rfl), Int.le_refl _, x1.1, y1.1, fun e => (by rcases e with e | e <;> (dsimp only at e; omega)), x1.2, fun _ => y1.2, fun e => (by dsimp only at e; omega)⟩
      · rw [if_neg k3] at hb ⊢
        unfold cmTest at hb ⊢
        dsimp only at *
        have x1 := opnd_ok hV hb
        exact ⟨.inl hk, Int.le_refl _, x1.1, Int.le_refl _, fun e => (by rcases e with e | e <;> (dsimp only at e; omega)), x1.2, fun e => (by rcases e with e | e <;> (dsimp only at e; omega)), fun e => (by dsimp only at e; omega)⟩

theorem CmOK.at_ {V : Int} {n : Nat} {c : Cm} (h : CmOK V n c) (y o : Int) : CmOK V n { c with yes := y, no := o } := ⟨h.kind, h.v0, h.x0, h.y0, h.var, h.x, h.y, h.op⟩
theorem CmOK.br {V : Int} {n : Nat} {c : Cm} (h : CmOK V n c) (y o p q : Int) : CmOK V n { c with yes := y, no := o, sec := p, beh := q } := ⟨h.kind, h.v0, h.x0, h.y0, h.var, h.x, h.y, h.op⟩

theorem CsOK.rdr {V : Int} {n : Nat} {cs : List Cm} (h : CsOK V n cs) (lo hi : Nat) (old : Int) (now : Nat) : CsOK V n (rdr cs lo hi old now) := by
  intro c hc
  obtain ⟨i, hi', e⟩ := List.mem_iff_getElem.1 hc
  have e2 := rdr_get cs lo hi old now i
  rw [List.getElem?_eq_getElem hi', e] at e2
  cases hd : cs[i]? with
  | none => rw [hd] at e2; cases e2
  | some d =>
    rw [hd] at e2
    simp at e2
    have hdm := h d (List.mem_of_getElem? hd)
    subst e2
    split
    · refine ⟨hdm.1.at_ _ _, ?_, ?_⟩
      · show 0 ≤ (if d.yes = old then (now : Int) else d.yes)
        split
        · omega
        · exact hdm.2.1
      · show 0 ≤ (if d.no = old then (now : Int) else d.no)
        split
        · omega
        · exact hdm.2.2
    · exact hdm
theorem CsOK.setNo {V : Int} {n : Nat} {cs : List Cm} (h : CsOK V n cs) (i v : Nat) : CsOK V n (setNo cs i v) := by
  unfold Proofs.Ytnkbfdbbcaffmab.setNo
  split
  · rename_i c hc
    have hcm := h c (List.mem_of_getElem? hc)
    intro d hd
    rcases List.mem_or_eq_of_mem_set hd with hd | rfl
    · exact h d hd
    · exact ⟨hcm.1.at_ _ _, hcm.2.1, Int.natCast_nonneg _⟩
  · exact h

theorem CsOK.setBr {V : Int} {n : Nat} {cs : List Cm} (h : CsOK V n cs) (i v e : Nat) : CsOK V n (setBr cs i v e) := by
  unfold Proofs.Ytnkbfdbbcaffmab.setBr
  split
  · rename_i c hc
    have hcm := h c (List.mem_of_getElem? hc)
    intro d hd
    rcases List.mem_or_eq_of_mem_set hd with hd | rfl
    · exact h d hd
    · exact ⟨hcm.1.br _ _ _ _, hcm.2.1, Int.natCast_nonneg _⟩
  · exact h

section
variable {s : ByteArray} {V : Int} {n : Nat}
/-- Where the mark is not set behind, all commands fit. -/
def Good (V : Int) (n : Nat) (st st' : PS) : Prop := st'.bad = false → CsOK V n st.cs → CsOK V n st'.cs

theorem blk_good {rdb : PS → PS} {N : Nat} (hn : ∀ st, Inv s st → lft s st ≤ N → Nxt s st (rdb st)) (hg : ∀ st, Inv s st → lft s st ≤ N → Good V n st (rdb st)) {st : PS} (h : Inv s st) (hl : lft s st ≤ N) : Good V n st (blk rdb s st) := by
  unfold blk
  have h1 := nxt_tk h 40
  have h2 := hn _ h1.2.2 (Nat.le_trans h1.lft hl)
  have h3 := nxt_tk h2.2.2 41
  intro hb hc
  exact hg _ h1.2.2 (Nat.le_trans h1.lft hl) (h3.1.back hb) hc

theorem step_good {rdb : PS → PS} {N : Nat} (hV : 1 ≤ V) (hn : ∀ st, Inv s st → lft s st ≤ N → Nxt s st (rdb st)) (hg : ∀ st, Inv s st → lft s st ≤ N → Good V n st (rdb st)) {st : PS} (h : Inv s st) (hl : lft s st ≤ N + 1) (hc : isCmd (pk s st.p st.bad) = true) : Good V n st (cmdStep rdb s V n st) := by
  obtain ⟨i1, _, _, l1⟩ := ps1_nxt (hv := V) (hn := (n : Int)) h hc
  obtain ⟨hb0, hp⟩ := isCmd_pk hc
  have g1 : Good V n st (ps1 s V n st) := by
    intro hb hcs
    intro d hd
    have hd' : d ∈ st.cs ++ [{ (tcmd s st.p V n (pk s st.p st.bad)).2.2 with yes := st.cs.length + 1, no := st.cs.length + 1 }] := hd
    rcases List.mem_append.1 hd' with hd' | hd'
    · exact hcs d hd'
    · simp at hd'
      subst hd'
      exact ⟨tcmd_ok hV hp hc hb _ _, by dsimp only; omega, by dsimp only; omega⟩
  unfold cmdStep
  split
  · have a := blk_nxt hn i1 (by omega)
    have ga := blk_good hn hg i1 (by omega)
    have c := blk_nxt hn a.2.2 (by have := a.lft; omega)
    have gc := blk_good hn hg a.2.2 (by have := a.lft; omega)
    intro hb hcs
    have hb2 : (blk rdb s (blk rdb s (ps1 s V n st))).bad = false := hb
    have hb1 := c.1.back hb2
    have hb0 := a.1.back hb1
    exact (CsOK.rdr (gc hb2 (ga hb1 (g1 hb0 hcs))) _ _ _ _).setBr _ _ _
  · split
    · have a := blk_nxt hn i1 (by omega)
      have ga := blk_good hn hg i1 (by omega)
      intro hb hcs
      have hb1 : (blk rdb s (ps1 s V n st)).bad = false := hb
      have hb0 := a.1.back hb1
      exact (CsOK.rdr (ga hb1 (g1 hb0 hcs)) _ _ _ _).setNo _ _
    · exact g1

theorem rdB_good (hV : 1 ≤ V) : ∀ (f : Nat) (st : PS), Inv s st → lft s st ≤ f → Good V n st (rdB s V n f st)
  | 0, st, _, _ => fun _ h => h
  | f + 1, st, h, hl => by
    unfold rdB
    split
    · rename_i hc
      have hrn : ∀ st, Inv s st → lft s st ≤ f → Nxt s st (rdB s V n f st) := rdB_nxt s V n f
      have hrg : ∀ st, Inv s st → lft s st ≤ f → Good V n st (rdB s V n f st) := rdB_good hV f
      obtain ⟨nx, lx⟩ := step_nxt (hv := V) (hn := (n : Int)) hrn h hl hc
      have gs := step_good hV hrn hrg h hl hc
      have n2 := hrn _ nx.2.2 (by omega)
      intro hb hcs
      exact hrg _ nx.2.2 (by omega) hb (gs (n2.1.back hb) hcs)
    · exact fun _ h => h
end

theorem krn_ok (s : ByteArray) (h : krnBad s = false) : CsOK (pw (hdr s).2.2.1) (hdr s).2.2.2.1 (krn s).cs := by
  simp [krnBad] at h
  have hV := (pw_bd _ (hdr_wid s).2).1
  exact rdB_good hV s.size ⟨(hdr s).1, (hdr s).2.1, []⟩ ⟨Nat.zero_le _, hdr_le s⟩ (by unfold lft; split <;> simp) h.1 (fun c hc => by cases hc)

theorem hdr_words (s : ByteArray) : (hdr s).2.2.2.2 ≤ 16 := by
  unfold hdr
  dsimp only
  exact cnt_le _ _ _ _
end Go.Proofs.Ytnkbfdbbcaffmab
