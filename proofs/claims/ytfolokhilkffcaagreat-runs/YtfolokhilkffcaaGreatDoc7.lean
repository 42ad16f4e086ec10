/-
  out; the document's Run. The document's Run. The document's Run, walked.
-/
import Derived.Test.YtfolokhilkffcaaGreatDoc4
import Derived.Test.YtfolokhilkffcaaGreatRunM
import Derived.Test.YtfolokhilkffcaaGreatAgree2
namespace Go.Proofs.YtfolokhilkffcaaGreat
open Go.RowKit

section
variable {w : World} {b : Nat} {N : Int} {n m : Nat} {st : Int} {ks : ByteArray} {view : Int} {tag steps : Int} {t : ByteArray} {σ sn : List Int}

set_option maxHeartbeats 2000000 in
theorem rout_any (h : PlS w b N n m st ks view σ sn tag steps t) :
    Calls Tryz.prog 50 #[.pointer (some ⟨b, 0, none⟩)] w fun e w' => ∃ stv, e = .returned (.agg #[.int .i64 tag, .int .i64 steps, .string (strOfNums sn), stv]) ∧ Sr w b stv σ ∧ w.grownBy w' none := by
  obtain ⟨stv, snv, hP, hT, hS⟩ := h
  obtain ⟨ao, cap, rfl⟩ := hS.shape
  obtain ⟨so, scap, rfl⟩ := hT.shape
  obtain ⟨m0, m1, m2, m3, m4, m5, m6, m7, m8, m9, mf⟩ := hP.thirteen
  have hbl : b < w.heap.size := At.lt hP
  have hcv := fun o => sn_conv (show Sn (w.alloc o).drew b (.slice ao sn.length cap) sn from hS.alloc o)
  generalize strOfNums sn = str at *
  go_enter Tryz.func50, Tryz.ntmps50
  go_wp2_with fail
  go_region
  go_wp2_with fail
  refine bodyPost_ret (v := .agg #[.int .i64 tag, .int .i64 steps, .string str, .slice so σ.length scap]) (by simp [results, Tryz.results50, go_sem]) rfl ⟨_, rfl, hT, gb_drew (gb_alloc (gb_refl _ _) _)⟩
end

theorem act_or (V view : Int) (n m : Nat) (σ : List Int) (c : Cm) : (act V view n m σ c).2.2.2 = c.yes ∨ (act V view n m σ c).2.2.2 = c.no := by
  unfold act
  split
  · exact .inl rfl
  · split
    · split <;> exact .inl rfl
    · split
      · split <;> exact .inl rfl
      · dsimp only
        split
        · exact .inr rfl
        · exact .inl rfl

theorem krn_head {s : ByteArray} (h : krnBad s = false) : (hdr s).2.1 = false := by
  simp [krnBad] at h
  have := rdB_nxt s (pw (hdr s).2.2.1) (hdr s).2.2.2.1 s.size ⟨(hdr s).1, (hdr s).2.1, []⟩ ⟨Nat.zero_le _, hdr_le s⟩ (by unfold lft; split <;> simp)
  exact this.1.back h.1

theorem Does.pos {V : Int} {n : Nat} {c : Cm} {t a b : List UInt8} (h : Does V n c t a b) : 0 < t.length := by
  rcases h with ⟨_, _, _, _, _, rfl, _⟩ | ⟨_, _, _, rfl, _⟩ | ⟨_, _, _, rfl, _⟩ | ⟨_, _, _, _, rfl, _⟩ | ⟨_, _, _, rfl, _⟩ <;> simp

/-- A list that came out of the document's run. -/
def StR (w : World) (B : Nat) (st : Value) (σ : List Int) : Prop := ∃ b, B ≤ b ∧ Sr w b st σ

/-- Where the document's run is: ended, or at command i. -/
def Way (V view : Int) (n m fuel : Nat) (cs : List Cm) (κ : Nat → List UInt8) (R : Res) (g : Nat) (σ sn : List Int) (tag : Int) (steps : Nat) (t : ByteArray) : Prop :=
  (tag ≠ 0 ∧ R = ⟨tag, steps, sn, σ⟩) ∨ (tag = 0 ∧ ∃ i : Nat, i ≤ cs.length ∧ t.data.toList = κ i ∧ runP V view n m fuel cs g i σ sn steps = R ∧ g + steps = fuel + 1 ∧ steps ≤ fuel ∧ sn.length ≤ 4 * steps)

theorem source_way {w : World} {b : Nat} {W : Nat} {n m fuel : Nat} {st : Int} {ks : ByteArray} {view : Int} {cs : List Cm} {κ : Nat → List UInt8} {R : Res} {g : Nat} {σ sn : List Int} {steps : Nat} {t : ByteArray}
    (h : PlS w b (pw W) n m st ks view σ sn 0 steps t) (hw : Way (pw W) view n m fuel cs κ R g σ sn 0 steps t) (hW1 : 1 ≤ W) (hW : W ≤ 8) (hfit : Fits (pw W) σ) (hnm : n + m = σ.length) (hlen : σ.length ≤ 100) (hv0 : 0 ≤ view) (hv1 : view ≤ 8) (hf : fuel ≤ 10000)
    (hcs : CsOK (pw W) n cs) (hfl : Flow (pw W) n cs 0 cs.length κ) (hend : κ cs.length = []) (hκ : ∀ i, i ≤ cs.length → (κ i).length ≤ 90000) :
    Calls Tryz.prog 49 #[.pointer (some ⟨b, 0, none⟩), .int .i64 fuel] w fun e w' => e = .returned (.tuple #[]) ∧ (∃ g' σ' sn' tag' t' steps', g = g' + 1 ∧ PlS w' b (pw W) n m st ks view σ' sn' tag' ((steps' : Nat) : Int) t' ∧ Way (pw W) view n m fuel cs κ R g' σ' sn' tag' steps' t' ∧ Fits (pw W) σ' ∧ σ'.length = σ.length) ∧ Below b w w' := by
  rcases hw with ⟨h0, _⟩ | ⟨_, i, hi, ht, hrun, hg, hst, hsn⟩
  · exact absurd rfl h0
  obtain ⟨g', rfl⟩ : ∃ g', g = g' + 1 := ⟨g - 1, by omega⟩
  have hsz := size_list t
  rw [ht] at hsz
  have hb := hκ i hi
  rw [runP] at hrun
  simp only [Int.toNat_natCast] at hrun
  by_cases hlt : i < cs.length
  · obtain ⟨c, y, o, e1, e2, e3, e4, e5, e6, e7, e8⟩ := hfl i (Nat.zero_le _) hlt
    rw [e1] at hrun
    dsimp only at hrun
    have hpos := e8.pos
    by_cases hfu : fuel ≤ steps
    · have e : steps = fuel := by omega
      subst e
      rw [if_pos hfu] at hrun
      refine (source_fuel h (by omega)).mono ?_
      rintro e w' ⟨rfl, hP, hB⟩
      exact ⟨rfl, ⟨g', σ, sn, 3, t, steps, rfl, hP, .inl ⟨by decide, hrun.symm⟩, hfit, rfl⟩, hB⟩
    · rw [if_neg hfu] at hrun
      obtain ⟨hcok, _, _⟩ := hcs c (List.mem_of_getElem? e1)
      have hor := act_or (pw W) view n m σ c
      have hfits2 := act_fits (view := view) (m := m) hcok hfit hnm hW1
      have hσl2 := act_σlen (pw W) view n m σ c
      have hal := act_len (pw W) view n m σ c
      refine (source_does (κ := fun i => κ i.toNat) e8 ht (by rw [e2]; rfl) (by rw [e3]; rfl) hcok h hW hfit hnm hlen (by omega) hv0 hv1 fuel (by omega) (by omega) (by omega) (by omega)).mono ?_
      rintro e w' ⟨rfl, ⟨t', ht', hP⟩, hB⟩
      have hst1 : ((steps : Int) + 1) = ((steps + 1 : Nat) : Int) := by omega
      rw [hst1] at hP
      cases htr : (act (pw W) view n m σ c).2.2.1 with
      | true =>
        rw [htr, if_pos rfl] at hrun hP
        exact ⟨rfl, ⟨g', _, _, 2, t', steps + 1, rfl, hP, .inl ⟨by decide, hrun.symm⟩, hfits2, hσl2⟩, hB⟩
      | false =>
        rw [htr, if_neg (by simp)] at hrun hP
        refine ⟨rfl, ⟨g', _, _, 0, t', steps + 1, rfl, hP, .inr ⟨rfl, (act (pw W) view n m σ c).2.2.2.toNat, ?_, ht', ?_, by omega, by omega, ?_⟩, hfits2, hσl2⟩, hB⟩
        · rcases hor with hor | hor <;> rw [hor] <;> omega
        · have e : (((act (pw W) view n m σ c).2.2.2.toNat : Nat) : Int) = (act (pw W) view n m σ c).2.2.2 := by rcases hor with hor | hor <;> rw [hor] <;> omega
          rw [e]; exact hrun
        · rw [List.length_append]; omega
  · have e : i = cs.length := by omega
    subst e
    rw [List.getElem?_eq_none (Nat.le_refl _)] at hrun
    dsimp only at hrun
    refine (source_halt h fuel (ht.trans hend)).mono ?_
    rintro e w' ⟨rfl, hP, hB⟩
    exact ⟨rfl, ⟨g', σ, sn, 1, t, steps, rfl, hP, .inl ⟨by decide, hrun.symm⟩, hfit, rfl⟩, hB⟩

theorem Sr.grown {w w' : World} {b : Nat} {stv : Value} {σ : List Int} (h : Sr w b stv σ) (hg : w.grownBy w' none) : Sr w' b stv σ := World.ownsRow.kept h hg (by
  cases h' : stv.ownBlock with
  | none => exact .inl rfl
  | some k => exact .inr (by simp))

set_option maxHeartbeats 2000000 in
theorem refRun_any (s : ByteArray) (hmx : s.size ≤ maxLen) (view fuel : Int) (ao : Option Addr) (cin : Nat) (zs : List Int) (hl : zs.length ≤ 9223372036854775807) (w : World) (hL : LiesO w ao zs) :
    Calls Tryz.prog 24 #[.string s, .int .i64 view, .slice ao zs.length cin, .int .i64 fuel] w fun e w' => ∃ st, e = .returned (.tuple #[.agg #[.int .i64 (pRun s view zs fuel).2.tag, .int .i64 (pRun s view zs fuel).2.steps, .string (strOfNums (pRun s view zs fuel).2.sn), st], .int .i64 (pRun s view zs fuel).1]) ∧ StR w' w.heap.size st (pRun s view zs fuel).2.σ ∧ Below w.heap.size w w' := by
  have hck := chk_eq s
  generalize hP : pRun s view zs fuel = P
  have HP := hide hP
  clear hP
  by_cases he : (chk s).1 = 0
  · obtain ⟨hbig, hbad⟩ := chk_ok he
    have hh := krn_head hbad
    have hs300 : s.size ≤ 300 := by omega
    have hcs := krn_ok s hbad
    have hvr := hdr_vars s
    have hwo := hdr_words s
    have hwd := hdr_wid s
    obtain ⟨κ, hκ0, hκe, hfl, hκl⟩ := krn_flow s hs300 hbad
    have hPP : P = if rfs (pw (hdr s).2.2.1) ((hdr s).2.2.2.1 + (hdr s).2.2.2.2) view zs fuel ≠ 0 then (rfs (pw (hdr s).2.2.1) ((hdr s).2.2.2.1 + (hdr s).2.2.2.2) view zs fuel, zres)
        else (0, runP (pw (hdr s).2.2.1) view (hdr s).2.2.2.1 (hdr s).2.2.2.2 fuel.toNat (krn s).cs (fuel.toNat + 1) 0 zs [] 0) := by
      rw [← unhide HP, pRun, if_neg (by rw [he]; simp)]
    have hb : ((rchk s).1 != 0) = false := by rw [← hck]; simpa using he
    have FI := hide (fun w0 (h0 : LiesO w0 ao zs) => fits_any s (by omega) hh view fuel ao cin zs hl w0 h0)
    by_cases hz : rfs (pw (hdr s).2.2.1) ((hdr s).2.2.2.1 + (hdr s).2.2.2.2) view zs fuel = 0
    · rw [if_neg (by rw [hz]; simp)] at hPP
      have hrb : (rfs (pw (hdr s).2.2.1) ((hdr s).2.2.2.1 + (hdr s).2.2.2.2) view zs fuel != 0) = false := by simpa using hz
      have hrr : 0 ≤ view ∧ view ≤ 8 ∧ inB (pw (hdr s).2.2.1) ((hdr s).2.2.2.1 + (hdr s).2.2.2.2) zs = true ∧ 0 ≤ fuel ∧ fuel ≤ 10000 := by
        unfold rfs at hz
        by_cases c1 : view < 0 ∨ 8 < view
        · rw [if_pos c1] at hz; cases hz
        · rw [if_neg c1] at hz
          cases c2 : inB (pw (hdr s).2.2.1) ((hdr s).2.2.2.1 + (hdr s).2.2.2.2) zs with
          | false => rw [c2, if_pos rfl] at hz; cases hz
          | true =>
            rw [c2, if_neg (by simp)] at hz
            by_cases c3 : fuel < 0 ∨ 10000 < fuel
            · rw [if_pos c3] at hz; cases hz
            · exact ⟨by omega, by omega, rfl, by omega, by omega⟩
      obtain ⟨hv0, hv1, hin, hf0, hf1⟩ := hrr
      obtain ⟨hzl, hfit⟩ := inB_fits hin
      obtain ⟨fu, rfl⟩ := Int.eq_ofNat_of_zero_le hf0
      simp only [Int.toNat_natCast] at hPP
      have BG := hide (fun w0 (h0 : LiesO w0 ao zs) => begin_any s (by omega) hh view ao cin zs (by omega) w0 h0)
      generalize rfs (pw (hdr s).2.2.1) ((hdr s).2.2.2.1 + (hdr s).2.2.2.2) view zs fu = q at *
      have hst := hdr_le s
      have HW := hide hwd
      have Hvr := hide hvr
      have Hwo := hide hwo
      have Hfl := hide hfl
      have Hκl := hide hκl
      have Hκe := hide hκe
      have Hκ0 := hide hκ0
      have Hcs := hide hcs
      have Hzl := hide hzl
      have Hfit := hide hfit
      have HPP := hide hPP
      clear hPP hz hfl hκl hκ0 hκe hcs hvr hwo hwd hh he hck hzl hfit hin
      generalize (hdr s).2.2.1 = W at *
      generalize (hdr s).2.2.2.1 = n at *
      generalize (hdr s).2.2.2.2 = m at *
      generalize hsst : (hdr s).1 = start at *
      clear hsst
      go_enter Tryz.func24, Tryz.ntmps24
      go_wp2_with fail
      refine (refCheck_any s hmx _).mono ?_
      rintro e w1 ⟨rfl, rfl⟩
      generalize (rchk s).1 = x at *
      generalize (rchk s).2 = y at *
      go_wp2_with fail
      refine (unhide FI _ (hL.grown (gb_alloc (gb_refl _ _) _))).mono ?_
      rintro e w2 ⟨rfl, hg2⟩
      have hL2 := hL.grown (gb_trans (gb_alloc (gb_refl w none) (.cells #[.int .i64 0, .int .i64 0, .string ⟨#[]⟩, .slice none 0 0] 55)) hg2)
      go_wp2_with fail
      refine (unhide BG _ hL2).mono ?_
      rintro e w3 ⟨b, ks, rfl, hb3, hP3, hB3⟩
      have hA2 := At.grown (At.new w 55 #[.int .i64 0, .int .i64 0, .string ⟨#[]⟩, .slice none 0 0]) hg2 (by simp)
      have hA3 : At w3 w.heap.size 55 #[.int .i64 0, .int .i64 0, .string ⟨#[]⟩, .slice none 0 0] := by
        have hl := hA2.lt
        unfold At at hA2 ⊢
        rw [hB3.block _ hl]; exact hA2
      have hB := (((Below.refl w.heap.size w).alloc (Nat.le_refl _) (.cells #[.int .i64 0, .int .i64 0, .string ⟨#[]⟩, .slice none 0 0] 55)).trans ⟨hg2.os, hg2.tape, hg2.output, hg2.size, fun k hk => hg2.block k (by simp; omega) (by simp)⟩).trans (hB3.mono (by have := hg2.size; simp at this; omega))
      have hbw : w.heap.size < b := by have := hA2.lt; omega
      obtain ⟨m0, m1, m2, m3, m4, m5, m6, m7, mf, _, _⟩ := hP3.thirteen
      have f1 : (0 : Int) ≤ (start : Int) := by omega
      have f2 : (start : Int) ≤ (s.size : Int) := by omega
      go_wp2_with fail
      have hP4 := hP3.setTodo (s.extract start s.size)
      have hB4 : Below w.heap.size w (w3.setCell ⟨b, 10, none⟩ (.string (s.extract start s.size))) := hB.setCell (Nat.le_of_lt hbw) _
      have hA4 : At (w3.setCell ⟨b, 10, none⟩ (.string (s.extract start s.size))) w.heap.size 55 #[.int .i64 0, .int .i64 0, .string ⟨#[]⟩, .slice none 0 0] := hA3.other _ (by show b ≠ w.heap.size; omega)
      generalize hR : runP (pw W) view n m fu (krn s).cs (fu + 1) 0 zs [] 0 = R at *
      have hW4 : Way (pw W) view n m fu (krn s).cs κ R (fu + 1) zs [] 0 0 (s.extract start s.size) := .inr ⟨rfl, 0, Nat.zero_le _, by rw [ext_list, unhide Hκ0]; rfl, hR, rfl, Nat.zero_le _, by simp⟩
      have HR := hide hR
      have HP4 := hide hP4
      have HB4 := hide hB4
      have HA4 := hide hA4
      have HW4 := hide hW4
      clear hR hP4 hB4 hA4 hW4 hP3 hA2 hA3 hB hB3 hg2 hL2 m0 m1 m2 m3 m4 m5 m6 m7 mf hL
      generalize (krn s).cs = cs at *
      generalize w3.setCell ⟨b, 10, none⟩ (.string (s.extract start s.size)) = w4 at *
      go_loopg [] (fu + 1) (fun g wr => ∃ (σ sn : List Int) (tag : Int) (steps : Nat) (t : ByteArray), Hid (PlS wr b (pw W) n m start ks view σ sn tag steps t) ∧ Hid (Way (pw W) view n m fu cs κ R g σ sn tag steps t) ∧ Hid (Fits (pw W) σ) ∧ Hid (σ.length = n + m) ∧ Hid (Below w.heap.size w wr) ∧ Hid (At wr w.heap.size 55 #[.int .i64 0, .int .i64 0, .string ⟨#[]⟩, .slice none 0 0]))
      case atStart => exact ⟨zs, [], 0, 0, _, HP4, HW4, Hfit, Hzl, HB4, HA4⟩
      case round =>
        obtain ⟨σ, sn, tag, steps, t, hP, hWy, hfit, hσ, hBe, hAo⟩ := hrel
        obtain ⟨m0, m1, m2, m3, m4, m5, m6, m7, mf, _, _⟩ := (unhide hP).thirteen
        by_cases ht : tag = 0
        · subst ht
          have hwd := unhide HW
          have hsrc := source_way (unhide hP) (unhide hWy) hwd.1 hwd.2 (unhide hfit) (unhide hσ).symm (by rw [unhide hσ]; have := unhide Hvr; have := unhide Hwo; omega) hv0 hv1 (by omega) (unhide Hcs) (unhide Hfl) (unhide Hκe) (unhide Hκl)
          have HS := hide hsrc
          clear hsrc
          go_wp2_with fail
          refine (unhide HS).mono ?_
          rintro e w5 ⟨rfl, ⟨g', σ', sn', tag', t', steps', rfl, hP5, hW5, hF5, hσ5⟩, hB5⟩
          go_wp2_with fail
          go_roundg g'
          case measure => omega
          case rel => exact ⟨σ', sn', tag', steps', t', hP5, hW5, hF5, hσ5.trans (unhide hσ), (unhide hBe).trans (hB5.mono (by omega)), (by
            have h := unhide hAo
            unfold At at h
            show w5.heap[w.heap.size]? = _
            rw [hB5.block w.heap.size hbw]; exact h)⟩
        · have hz : (tag == 0) = false := by simpa using ht
          have hfin : R = ⟨tag, steps, sn, σ⟩ := by
            rcases unhide hWy with h | h
            · exact h.2
            · exact absurd h.1 ht
          have Hfin := hide hfin
          clear hfin ht
          go_wp2_with fail
          refine (rout_any (unhide hP)).mono ?_
          rintro e w6 ⟨stv, rfl, hT6, hg6⟩
          have hA6 := At.grown (unhide hAo) hg6 (by simp)
          have r0 := hA6.cell 0
          have r1 := hA6.cell 1
          have r2 := hA6.cell 2
          have r3 := hA6.cell 3
          have rf := fun j => hA6.frozen j
          simp at r0 r1 r2 r3
          obtain ⟨so, scap, rfl⟩ := hT6.shape
          generalize hstr : strOfNums sn = str at *
          have Hstr := hide hstr
          clear hstr
          go_wp2_with fail
          refine bodyPost_ret (v := .tuple #[.agg #[.int .i64 tag, .int .i64 steps, .string str, .slice so σ.length scap], .int .i64 0]) (by simp [results, Tryz.results24, go_sem, r0, r1, r2, r3]) rfl ⟨.slice so σ.length scap, by rw [unhide HPP, unhide Hfin, unhide Hstr], ?_, ?_⟩
          · rw [unhide HPP, unhide Hfin]
            have hT7 : Sr w6 b (.slice so σ.length scap) σ := hT6.grown hg6
            exact ⟨b, Nat.le_of_lt hbw, (((hT7.set _ (Nat.le_of_lt hbw)).set _ (Nat.le_of_lt hbw)).set _ (Nat.le_of_lt hbw)).set _ (Nat.le_of_lt hbw)⟩
          · have hB6 := (unhide hBe).trans (show Below w.heap.size wr w6 from ⟨hg6.os, hg6.tape, hg6.output, hg6.size, fun k hk => hg6.block k (by have := (unhide hBe).size; omega) (by simp)⟩)
            exact (((hB6.setCell (Nat.le_refl _) _).setCell (Nat.le_refl _) _).setCell (Nat.le_refl _) _).setCell (Nat.le_refl _) _
    · rw [if_pos hz] at hPP
      have hrb : (rfs (pw (hdr s).2.2.1) ((hdr s).2.2.2.1 + (hdr s).2.2.2.2) view zs fuel != 0) = true := by simpa using hz
      generalize rfs (pw (hdr s).2.2.1) ((hdr s).2.2.2.1 + (hdr s).2.2.2.2) view zs fuel = q at *
      have HP2 := hide hPP
      clear hPP hz hfl hκl hκ0 hκe hcs hvr hwo hwd hh he hck
      go_enter Tryz.func24, Tryz.ntmps24
      go_wp2_with fail
      refine (refCheck_any s hmx _).mono ?_
      rintro e w1 ⟨rfl, rfl⟩
      generalize (rchk s).1 = x at *
      generalize (rchk s).2 = y at *
      go_wp2_with fail
      refine (unhide FI _ (hL.grown (gb_alloc (gb_refl _ _) _))).mono ?_
      rintro e w2 ⟨rfl, hg2⟩
      have hA2 := At.grown (At.new w 55 #[.int .i64 0, .int .i64 0, .string ⟨#[]⟩, .slice none 0 0]) hg2 (by simp)
      have r0 := hA2.cell 0
      have r1 := hA2.cell 1
      have r2 := hA2.cell 2
      have r3 := hA2.cell 3
      have rf := fun j => hA2.frozen j
      simp at r0 r1 r2 r3
      go_wp2_with fail
      refine bodyPost_ret (v := .tuple #[.agg #[.int .i64 0, .int .i64 0, .string ⟨#[]⟩, .slice none 0 0], .int .i64 q]) (by simp [results, Tryz.results24, go_sem, r0, r1, r2, r3]) rfl ⟨.slice none 0 0, by rw [unhide HP2]; rfl, ?_, ?_⟩
      · rw [unhide HP2]; exact ⟨w.heap.size, Nat.le_refl _, sr_nil _ _⟩
      · have hB := ((Below.refl w.heap.size w).alloc (Nat.le_refl _) (.cells #[.int .i64 0, .int .i64 0, .string ⟨#[]⟩, .slice none 0 0] 55)).trans ⟨hg2.os, hg2.tape, hg2.output, hg2.size, fun k hk => hg2.block k (by simp; omega) (by simp)⟩
        exact (((hB.setCell (Nat.le_refl _) _).setCell (Nat.le_refl _) _).setCell (Nat.le_refl _) _).setCell (Nat.le_refl _) _
  · have hb : ((rchk s).1 != 0) = true := by rw [← hck]; simpa using he
    have hP2 : P = ((rchk s).1, zres) := by rw [← unhide HP, pRun, if_pos he, hck]
    have HP2 := hide hP2
    clear hP2 he hck
    go_enter Tryz.func24, Tryz.ntmps24
    go_wp2_with fail
    refine (refCheck_any s hmx _).mono ?_
    rintro e w1 ⟨rfl, rfl⟩
    generalize (rchk s).1 = x at *
    generalize (rchk s).2 = y at *
    go_wp2_with fail
    refine bodyPost_ret (v := .tuple #[.agg #[.int .i64 0, .int .i64 0, .string ⟨#[]⟩, .slice none 0 0], .int .i64 x]) (by simp [results, Tryz.results24, go_sem]) rfl ⟨.slice none 0 0, by rw [unhide HP2]; rfl, ?_, (Below.refl _ _).alloc (Nat.le_refl _) _⟩
    rw [unhide HP2]; exact ⟨w.heap.size, Nat.le_refl _, sr_nil _ _⟩
end Go.Proofs.YtfolokhilkffcaaGreat
