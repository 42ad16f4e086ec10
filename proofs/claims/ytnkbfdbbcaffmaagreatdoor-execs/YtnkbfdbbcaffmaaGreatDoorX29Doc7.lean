import Derived.Test.YtnkbfdbbcaffmaaGreatDoorX26Pl8
import Derived.Test.YtnkbfdbbcaffmaaGreatDoorX28Ref5
import Derived.Test.YtnkbfdbbcaffmaaGreatDoorX06Agree2
import Derived.Test.YtnkbfdbbcaffmaaGreatDoorX08Ref3
import Derived.Test.YtnkbfdbbcaffmaaGreatDoorX09Law
/-
  out; the document's Run. The document's Run. The document's Run, walked.
-/
namespace Go.Proofs.YtnkbfdbbcaffmaaGreatDoor
open Go.RowKit

section
variable {w : World} {b : Nat} {N : Int} {n m : Nat} {st : Int} {ks : KX} {view : Int} {tag steps : Int} {t : ByteArray} {σ sn : List Int}

set_option maxHeartbeats 2000000 in
theorem rout_any (h : PlS w b N n m st ks view σ sn tag steps t) :
    Calls Tryz.prog 59 #[.pointer (some ⟨b, 0, none⟩)] w fun e w' => ∃ stv, e = .returned (.agg #[.int .i64 tag, .int .i64 steps, .string (strOfNums sn), stv]) ∧ Sr w b stv σ ∧ w.grownBy w' none := by
  obtain ⟨stv, snv, hP, hT, hS, hX⟩ := h
  obtain ⟨ao, cap, rfl⟩ := hS.shape
  obtain ⟨so, scap, rfl⟩ := hT.shape
  obtain ⟨m0, m1, m2, m3, m4, m5, m6, m7, m8, m9, mf⟩ := hP.thirteen
  have hbl : b < w.heap.size := At.lt hP
  have hcv := fun o => sn_conv (show Sn (w.alloc o).drew b (.slice ao sn.length cap) sn from hS.alloc o)
  generalize strOfNums sn = str at *
  go_enter Tryz.func59, Tryz.ntmps59
  go_wp2_with fail
  go_region
  go_wp2_with fail
  refine bodyPost_ret (v := .agg #[.int .i64 tag, .int .i64 steps, .string str, .slice so σ.length scap]) (by simp [results, Tryz.results59, go_sem]) rfl ⟨_, rfl, hT, gb_drew (gb_alloc (gb_refl _ _) _)⟩
end

/-- A list that came out of the document's run. -/
def StR (w : World) (B : Nat) (st : Value) (σ : List Int) : Prop := ∃ b, B ≤ b ∧ Sr w b st σ

/-- Where the document's run is: ended, or at command i. -/
def Way (V view : Int) (n m fuel : Nat) (cs : List Cm) (κ : Nat → List UInt8) (R : Res) (g : Nat) (σ sn : List Int) (tag : Int) (steps : Nat) (t : ByteArray) : Prop :=
  (tag ≠ 0 ∧ R = ⟨tag, steps, sn, σ⟩) ∨ (tag = 0 ∧ ∃ i : Nat, i ≤ cs.length ∧ t.data.toList = κ i ∧ runP V view n m fuel cs g i σ sn steps = R ∧ g + steps = fuel + 1 ∧ steps ≤ fuel ∧ sn.length ≤ 4 * steps)

theorem source_way {w : World} {b : Nat} {W : Nat} {n m fuel : Nat} {st : Int} {ks : KX} {view : Int} {cs : List Cm} {κ : Nat → List UInt8} {R : Res} {g : Nat} {σ sn : List Int} {steps : Nat} {t : ByteArray}
    (h : PlS w b (pw W) n m st ks view σ sn 0 steps t) (hw : Way (pw W) view n m fuel cs κ R g σ sn 0 steps t) (hW1 : 1 ≤ W) (hW : W ≤ 8) (hfit : Fits (pw W) σ) (hnm : n + m = σ.length) (hlen : σ.length ≤ 100) (hv0 : 0 ≤ view) (hv1 : view ≤ 8) (hf : fuel ≤ 10000)
    (hcs : CsOK (pw W) n cs) (hfl : Flow (pw W) n cs 0 cs.length κ) (hend : κ cs.length = []) (hκ : ∀ i, i ≤ cs.length → (κ i).length ≤ 90000) :
    Calls Tryz.prog 58 #[.pointer (some ⟨b, 0, none⟩), .int .i64 fuel] w fun e w' => e = .returned (.tuple #[]) ∧ (∃ g' σ' sn' tag' t' steps', g = g' + 1 ∧ PlS w' b (pw W) n m st ks view σ' sn' tag' ((steps' : Nat) : Int) t' ∧ Way (pw W) view n m fuel cs κ R g' σ' sn' tag' steps' t' ∧ Fits (pw W) σ' ∧ σ'.length = σ.length) ∧ Below b w w' := by
  rcases hw with ⟨h0, _⟩ | ⟨_, i, hi, ht, hrun, hg, hst, hsn⟩
  · exact absurd rfl h0
  obtain ⟨g', rfl⟩ : ∃ g', g = g' + 1 := ⟨g - 1, by omega⟩
  have hsz := size_list t
  rw [ht] at hsz
  have hb := hκ i hi
  rw [runP] at hrun
  simp only [Int.toNat_natCast] at hrun
  by_cases hlt : i < cs.length
  · obtain ⟨c, y, o, e1, e2, e3, e4, e5, e6, e7, e8⟩ := hfl i (Nat.zero_le _) hlt
    rw [e1] at hrun
    dsimp only at hrun
    have hpos := e8.pos
    by_cases hfu : fuel ≤ steps
    · have e : steps = fuel := by omega
      subst e
      rw [if_pos hfu] at hrun
      refine (source_fuel h (by omega)).mono ?_
      rintro e w' ⟨rfl, hP, hB⟩
      exact ⟨rfl, ⟨g', σ, sn, 3, t, steps, rfl, hP, .inl ⟨by decide, hrun.symm⟩, hfit, rfl⟩, hB⟩
    · rw [if_neg hfu] at hrun
      obtain ⟨hcok, _, _⟩ := hcs c (List.mem_of_getElem? e1)
      have hor := act_or (pw W) view n m σ c
      have hfits2 := act_fits (view := view) (m := m) hcok hfit hnm hW1
      have hσl2 := act_σlen (pw W) view n m σ c
      have hal := act_len (pw W) view n m σ c
      refine (source_does (κ := fun i => κ i.toNat) e8 ht (by rw [e2]; rfl) (by rw [e3]; rfl) hcok h hW hfit hnm hlen (by omega) hv0 hv1 fuel (by omega) (by omega) (by omega) (by omega)).mono ?_
      rintro e w' ⟨rfl, ⟨t', ht', hP⟩, hB⟩
      have hst1 : ((steps : Int) + 1) = ((steps + 1 : Nat) : Int) := by omega
      rw [hst1] at hP
      cases htr : (act (pw W) view n m σ c).2.2.1 with
      | true =>
        rw [htr, if_pos rfl] at hrun hP
        exact ⟨rfl, ⟨g', _, _, 2, t', steps + 1, rfl, hP, .inl ⟨by decide, hrun.symm⟩, hfits2, hσl2⟩, hB⟩
      | false =>
        rw [htr, if_neg (by simp)] at hrun hP
        refine ⟨rfl, ⟨g', _, _, 0, t', steps + 1, rfl, hP, .inr ⟨rfl, (act (pw W) view n m σ c).2.2.2.toNat, ?_, ht', ?_, by omega, by omega, ?_⟩, hfits2, hσl2⟩, hB⟩
        · rcases hor with hor | hor <;> rw [hor] <;> omega
        · have e : (((act (pw W) view n m σ c).2.2.2.toNat : Nat) : Int) = (act (pw W) view n m σ c).2.2.2 := by rcases hor with hor | hor <;> rw [hor] <;> omega
          rw [e]; exact hrun
        · rw [List.length_append]; omega
  · have e : i = cs.length := by omega
    subst e
    rw [List.getElem?_eq_none (Nat.le_refl _)] at hrun
    dsimp only at hrun
    refine (source_halt h fuel (ht.trans hend)).mono ?_
    rintro e w' ⟨rfl, hP, hB⟩
    exact ⟨rfl, ⟨g', σ, sn, 1, t, steps, rfl, hP, .inl ⟨by decide, hrun.symm⟩, hfit, rfl⟩, hB⟩

theorem Sr.grown {w w' : World} {b : Nat} {stv : Value} {σ : List Int} (h : Sr w b stv σ) (hg : w.grownBy w' none) : Sr w' b stv σ := World.ownsRow.kept h hg (by
  cases h' : stv.ownBlock with
  | none => exact .inl rfl
  | some k => exact .inr (by simp))

set_option maxHeartbeats 2000000 in
theorem refRun_any (s : ByteArray) (hmx : s.size ≤ maxLen) (view fuel : Int) (ao : Option Addr) (cin : Nat) (zs : List Int) (hl : zs.length ≤ 9223372036854775807) (w : World) (hL : LiesO w ao zs) :
    Calls Tryz.prog 32 #[.string s, .int .i64 view, .slice ao zs.length cin, .int .i64 fuel] w fun e w' => ∃ st, e = .returned (.tuple #[.agg #[.int .i64 (pRun s view zs fuel).2.tag, .int .i64 (pRun s view zs fuel).2.steps, .string (strOfNums (pRun s view zs fuel).2.sn), st], .int .i64 (pRun s view zs fuel).1]) ∧ StR w' w.heap.size st (pRun s view zs fuel).2.σ ∧ Below w.heap.size w w' := by
  have hck := chk_eq s
  generalize hP : pRun s view zs fuel = P
  have HP := hide hP
  clear hP
  by_cases he : (chk s).1 = 0
  · obtain ⟨hbig, hbad⟩ := chk_ok he
    have hh := krn_head hbad
    have hs300 : s.size ≤ 300 := by omega
    have hcs := krn_ok s hbad
    have hvr := hdr_vars s
    have hwo := hdr_words s
    have hwd := hdr_wid s
    obtain ⟨κ, hκ0, hκe, hfl, hκl⟩ := krn_flow s hs300 hbad
    have hPP : P = if rfs (pw (hdr s).2.2.1) ((hdr s).2.2.2.1 + (hdr s).2.2.2.2) view zs fuel ≠ 0 then (rfs (pw (hdr s).2.2.1) ((hdr s).2.2.2.1 + (hdr s).2.2.2.2) view zs fuel, zres)
        else (0, runP (pw (hdr s).2.2.1) view (hdr s).2.2.2.1 (hdr s).2.2.2.2 fuel.toNat (krn s).cs (fuel.toNat + 1) 0 zs [] 0) := by
      rw [← unhide HP, pRun, if_neg (by rw [he]; simp)]
    have hb : ((rchk s).1 != 0) = false := by rw [← hck]; simpa using he
    have FI := hide (fun w0 (h0 : LiesO w0 ao zs) => fits_any s (by omega) hh view fuel ao cin zs hl w0 h0)
    by_cases hz : rfs (pw (hdr s).2.2.1) ((hdr s).2.2.2.1 + (hdr s).2.2.2.2) view zs fuel = 0
    · rw [if_neg (by rw [hz]; simp)] at hPP
      have hrb : (rfs (pw (hdr s).2.2.1) ((hdr s).2.2.2.1 + (hdr s).2.2.2.2) view zs fuel != 0) = false := by simpa using hz
      have hrr : 0 ≤ view ∧ view ≤ 8 ∧ inB (pw (hdr s).2.2.1) ((hdr s).2.2.2.1 + (hdr s).2.2.2.2) zs = true ∧ 0 ≤ fuel ∧ fuel ≤ 10000 := by
        unfold rfs at hz
        by_cases c1 : view < 0 ∨ 8 < view
        · rw [if_pos c1] at hz; cases hz
        · rw [if_neg c1] at hz
          cases c2 : inB (pw (hdr s).2.2.1) ((hdr s).2.2.2.1 + (hdr s).2.2.2.2) zs with
          | false => rw [c2, if_pos rfl] at hz; cases hz
          | true =>
            rw [c2, if_neg (by simp)] at hz
            by_cases c3 : fuel < 0 ∨ 10000 < fuel
            · rw [if_pos c3] at hz; cases hz
            · exact ⟨by omega, by omega, rfl, by omega, by omega⟩
      obtain ⟨hv0, hv1, hin, hf0, hf1⟩ := hrr
      obtain ⟨hzl, hfit⟩ := inB_fits hin
      obtain ⟨fu, rfl⟩ := Int.eq_ofNat_of_zero_le hf0
      simp only [Int.toNat_natCast] at hPP
      have BG := hide (fun w0 (h0 : LiesO w0 ao zs) => begin_any s (by omega) hh view ao cin zs (by omega) w0 h0)
      generalize rfs (pw (hdr s).2.2.1) ((hdr s).2.2.2.1 + (hdr s).2.2.2.2) view zs fu = q at *
      have hst := hdr_le s
      have HW := hide hwd
      have Hvr := hide hvr
      have Hwo := hide hwo
      have Hfl := hide hfl
      have Hκl := hide hκl
      have Hκe := hide hκe
      have Hκ0 := hide hκ0
      have Hcs := hide hcs
      have Hzl := hide hzl
      have Hfit := hide hfit
      have HPP := hide hPP
      clear hPP hz hfl hκl hκ0 hκe hcs hvr hwo hwd hh he hck hzl hfit hin
      generalize (hdr s).2.2.1 = W at *
      generalize (hdr s).2.2.2.1 = n at *
      generalize (hdr s).2.2.2.2 = m at *
      generalize hsst : (hdr s).1 = start at *
      clear hsst
      go_enter Tryz.func32, Tryz.ntmps32
      go_wp2_with fail
      refine (refCheck_any s hmx _).mono ?_
      rintro e w1 ⟨rfl, rfl⟩
      generalize (rchk s).1 = x at *
      generalize (rchk s).2 = y at *
      go_wp2_with fail
      refine (unhide FI _ (hL.grown (gb_alloc (gb_refl _ _) _))).mono ?_
      rintro e w2 ⟨rfl, hg2⟩
      have hL2 := hL.grown (gb_trans (gb_alloc (gb_refl w none) (.cells #[.int .i64 0, .int .i64 0, .string ⟨#[]⟩, .slice none 0 0] 55)) hg2)
      go_wp2_with fail
      refine (unhide BG _ hL2).mono ?_
      rintro e w3 ⟨b, ks, rfl, hb3, hP3, hB3⟩
      have hA2 := At.grown (At.new w 55 #[.int .i64 0, .int .i64 0, .string ⟨#[]⟩, .slice none 0 0]) hg2 (by simp)
      have hA3 : At w3 w.heap.size 55 #[.int .i64 0, .int .i64 0, .string ⟨#[]⟩, .slice none 0 0] := by
        have hl := hA2.lt
        unfold At at hA2 ⊢
        rw [hB3.block _ hl]; exact hA2
      have hB := (((Below.refl w.heap.size w).alloc (Nat.le_refl _) (.cells #[.int .i64 0, .int .i64 0, .string ⟨#[]⟩, .slice none 0 0] 55)).trans ⟨hg2.os, hg2.tape, hg2.output, hg2.size, fun k hk => hg2.block k (by simp; omega) (by simp)⟩).trans (hB3.mono (by have := hg2.size; simp at this; omega))
      have hbw : w.heap.size < b := by have := hA2.lt; omega
      obtain ⟨m0, m1, m2, m3, m4, m5, m6, m7, mf, _, _⟩ := hP3.thirteen
      have f1 : (0 : Int) ≤ (start : Int) := by omega
      have f2 : (start : Int) ≤ (s.size : Int) := by omega
      go_wp2_with fail
      have hP4 := hP3.setTodo (s.extract start s.size)
      have hB4 : Below w.heap.size w (w3.setCell ⟨b, 10, none⟩ (.string (s.extract start s.size))) := hB.setCell (Nat.le_of_lt hbw) _
      have hA4 : At (w3.setCell ⟨b, 10, none⟩ (.string (s.extract start s.size))) w.heap.size 55 #[.int .i64 0, .int .i64 0, .string ⟨#[]⟩, .slice none 0 0] := hA3.other _ (by show b ≠ w.heap.size; omega)
      generalize hR : runP (pw W) view n m fu (krn s).cs (fu + 1) 0 zs [] 0 = R at *
      have hW4 : Way (pw W) view n m fu (krn s).cs κ R (fu + 1) zs [] 0 0 (s.extract start s.size) := .inr ⟨rfl, 0, Nat.zero_le _, by rw [ext_list, unhide Hκ0]; rfl, hR, rfl, Nat.zero_le _, by simp⟩
      have HR := hide hR
      have HP4 := hide hP4
      have HB4 := hide hB4
      have HA4 := hide hA4
      have HW4 := hide hW4
      clear hR hP4 hB4 hA4 hW4 hP3 hA2 hA3 hB hB3 hg2 hL2 m0 m1 m2 m3 m4 m5 m6 m7 mf hL
      generalize (krn s).cs = cs at *
      generalize w3.setCell ⟨b, 10, none⟩ (.string (s.extract start s.size)) = w4 at *
      go_loopg [] (fu + 1) (fun g wr => ∃ (σ sn : List Int) (tag : Int) (steps : Nat) (t : ByteArray), Hid (PlS wr b (pw W) n m start ⟨ks, 0, .slice none 0 0, [], .slice none 0 0, []⟩ view σ sn tag steps t) ∧ Hid (Way (pw W) view n m fu cs κ R g σ sn tag steps t) ∧ Hid (Fits (pw W) σ) ∧ Hid (σ.length = n + m) ∧ Hid (Below w.heap.size w wr) ∧ Hid (At wr w.heap.size 55 #[.int .i64 0, .int .i64 0, .string ⟨#[]⟩, .slice none 0 0]))
      case atStart => exact ⟨zs, [], 0, 0, _, HP4, HW4, Hfit, Hzl, HB4, HA4⟩
      case round =>
        obtain ⟨σ, sn, tag, steps, t, hP, hWy, hfit, hσ, hBe, hAo⟩ := hrel
        obtain ⟨m0, m1, m2, m3, m4, m5, m6, m7, mf, _, _⟩ := (unhide hP).thirteen
        by_cases ht : tag = 0
        · subst ht
          have hwd := unhide HW
          have hsrc := source_way (unhide hP) (unhide hWy) hwd.1 hwd.2 (unhide hfit) (unhide hσ).symm (by rw [unhide hσ]; have := unhide Hvr; have := unhide Hwo; omega) hv0 hv1 (by omega) (unhide Hcs) (unhide Hfl) (unhide Hκe) (unhide Hκl)
          have HS := hide hsrc
          clear hsrc
          go_wp2_with fail
          refine (unhide HS).mono ?_
          rintro e w5 ⟨rfl, ⟨g', σ', sn', tag', t', steps', rfl, hP5, hW5, hF5, hσ5⟩, hB5⟩
          go_wp2_with fail
          go_roundg g'
          case measure => omega
          case rel => exact ⟨σ', sn', tag', steps', t', hP5, hW5, hF5, hσ5.trans (unhide hσ), (unhide hBe).trans (hB5.mono (by omega)), (by
            have h := unhide hAo
            unfold At at h
            show w5.heap[w.heap.size]? = _
            rw [hB5.block w.heap.size hbw]; exact h)⟩
        · have hz : (tag == 0) = false := by simpa using ht
          have hfin : R = ⟨tag, steps, sn, σ⟩ := by
            rcases unhide hWy with h | h
            · exact h.2
            · exact absurd h.1 ht
          have Hfin := hide hfin
          clear hfin ht
          go_wp2_with fail
          refine (rout_any (unhide hP)).mono ?_
          rintro e w6 ⟨stv, rfl, hT6, hg6⟩
          have hA6 := At.grown (unhide hAo) hg6 (by simp)
          have r0 := hA6.cell 0
          have r1 := hA6.cell 1
          have r2 := hA6.cell 2
          have r3 := hA6.cell 3
          have rf := fun j => hA6.frozen j
          simp at r0 r1 r2 r3
          obtain ⟨so, scap, rfl⟩ := hT6.shape
          generalize hstr : strOfNums sn = str at *
          have Hstr := hide hstr
          clear hstr
          go_wp2_with fail
          refine bodyPost_ret (v := .tuple #[.agg #[.int .i64 tag, .int .i64 steps, .string str, .slice so σ.length scap], .int .i64 0]) (by simp [results, Tryz.results32, go_sem, r0, r1, r2, r3]) rfl ⟨.slice so σ.length scap, by rw [unhide HPP, unhide Hfin, unhide Hstr], ?_, ?_⟩
          · rw [unhide HPP, unhide Hfin]
            have hT7 : Sr w6 b (.slice so σ.length scap) σ := hT6.grown hg6
            exact ⟨b, Nat.le_of_lt hbw, (((hT7.set _ (Nat.le_of_lt hbw)).set _ (Nat.le_of_lt hbw)).set _ (Nat.le_of_lt hbw)).set _ (Nat.le_of_lt hbw)⟩
          · have hB6 := (unhide hBe).trans (show Below w.heap.size wr w6 from ⟨hg6.os, hg6.tape, hg6.output, hg6.size, fun k hk => hg6.block k (by have := (unhide hBe).size; omega) (by simp)⟩)
            exact (((hB6.setCell (Nat.le_refl _) _).setCell (Nat.le_refl _) _).setCell (Nat.le_refl _) _).setCell (Nat.le_refl _) _
    · rw [if_pos hz] at hPP
      have hrb : (rfs (pw (hdr s).2.2.1) ((hdr s).2.2.2.1 + (hdr s).2.2.2.2) view zs fuel != 0) = true := by simpa using hz
      generalize rfs (pw (hdr s).2.2.1) ((hdr s).2.2.2.1 + (hdr s).2.2.2.2) view zs fuel = q at *
      have HP2 := hide hPP
      clear hPP hz hfl hκl hκ0 hκe hcs hvr hwo hwd hh he hck
      go_enter Tryz.func32, Tryz.ntmps32
      go_wp2_with fail
      refine (refCheck_any s hmx _).mono ?_
      rintro e w1 ⟨rfl, rfl⟩
      generalize (rchk s).1 = x at *
      generalize (rchk s).2 = y at *
      go_wp2_with fail
      refine (unhide FI _ (hL.grown (gb_alloc (gb_refl _ _) _))).mono ?_
      rintro e w2 ⟨rfl, hg2⟩
      have hA2 := At.grown (At.new w 55 #[.int .i64 0, .int .i64 0, .string ⟨#[]⟩, .slice none 0 0]) hg2 (by simp)
      have r0 := hA2.cell 0
      have r1 := hA2.cell 1
      have r2 := hA2.cell 2
      have r3 := hA2.cell 3
      have rf := fun j => hA2.frozen j
      simp at r0 r1 r2 r3
      go_wp2_with fail
      refine bodyPost_ret (v := .tuple #[.agg #[.int .i64 0, .int .i64 0, .string ⟨#[]⟩, .slice none 0 0], .int .i64 q]) (by simp [results, Tryz.results32, go_sem, r0, r1, r2, r3]) rfl ⟨.slice none 0 0, by rw [unhide HP2]; rfl, ?_, ?_⟩
      · rw [unhide HP2]; exact ⟨w.heap.size, Nat.le_refl _, sr_nil _ _⟩
      · have hB := ((Below.refl w.heap.size w).alloc (Nat.le_refl _) (.cells #[.int .i64 0, .int .i64 0, .string ⟨#[]⟩, .slice none 0 0] 55)).trans ⟨hg2.os, hg2.tape, hg2.output, hg2.size, fun k hk => hg2.block k (by simp; omega) (by simp)⟩
        exact (((hB.setCell (Nat.le_refl _) _).setCell (Nat.le_refl _) _).setCell (Nat.le_refl _) _).setCell (Nat.le_refl _) _
  · have hb : ((rchk s).1 != 0) = true := by rw [← hck]; simpa using he
    have hP2 : P = ((rchk s).1, zres) := by rw [← unhide HP, pRun, if_pos he, hck]
    have HP2 := hide hP2
    clear hP2 he hck
    go_enter Tryz.func32, Tryz.ntmps32
    go_wp2_with fail
    refine (refCheck_any s hmx _).mono ?_
    rintro e w1 ⟨rfl, rfl⟩
    generalize (rchk s).1 = x at *
    generalize (rchk s).2 = y at *
    go_wp2_with fail
    refine bodyPost_ret (v := .tuple #[.agg #[.int .i64 0, .int .i64 0, .string ⟨#[]⟩, .slice none 0 0], .int .i64 x]) (by simp [results, Tryz.results32, go_sem]) rfl ⟨.slice none 0 0, by rw [unhide HP2]; rfl, ?_, (Below.refl _ _).alloc (Nat.le_refl _) _⟩
    rw [unhide HP2]; exact ⟨w.heap.size, Nat.le_refl _, sr_nil _ _⟩
end Go.Proofs.YtnkbfdbbcaffmaaGreatDoor
/-
  sameInts, lent.
-/
namespace Go.Proofs.YtnkbfdbbcaffmaaGreatDoor
open Go.RowKit

theorem LiesO.drewN {w : World} {ao : Option Addr} {zs : List Int} (h : LiesO w ao zs) (j : Nat) : LiesO (w.drewN j) ao zs := h.grown (gb_drewN (gb_refl w none) j)

set_option maxHeartbeats 1000000 in
theorem sameInts_any (a1 a2 : Option Addr) (c1 c2 : Nat) (zs : List Int) (hl : zs.length ≤ 9223372036854775807) (w : World) (h1 : LiesO w a1 zs) (h2 : LiesO w a2 zs) :
    Calls Tryz.prog 40 #[.slice a1 zs.length c1, .slice a2 zs.length c2] w fun e w' => e = .returned (.bool true) ∧ ∃ j, w' = w.drewN j := by
  have H1 := hide h1
  have H2 := hide h2
  clear h1 h2
  go_enter Tryz.func40, Tryz.ntmps40
  go_wp2_with fail
  go_loopw [5] (fun i wr => ∃ k : Nat, i = .int .i64 k ∧ k ≤ zs.length ∧ ∃ j, wr = w.drewN j) (fun i _ => zs.length - (intOf i).toNat)
  case atStart => exact ⟨0, rfl, Nat.zero_le _, 0, rfl⟩
  case round =>
    obtain ⟨k, rfl, hk, j, rfl⟩ := hrel
    by_cases hlt : k < zs.length
    · rcases unhide H1 with hn | ⟨ab, off, rfl, hL1, _⟩
      · rw [hn] at hlt; simp at hlt
      rcases unhide H2 with hn | ⟨ab2, off2, rfl, hL2, _⟩
      · rw [hn] at hlt; simp at hlt
      have q1 := hL1.at_ k hlt
      have q2 := hL2.at_ k hlt
      clear hL1 hL2
      generalize zs.getD k 0 = z at *
      have hlI : (k : Int) < (zs.length : Int) := by omega
      go_wp2_with fail
      go_quiet (fail)
      go_wp2_with fail
      go_roundw
      case rel => exact ⟨k + 1, by go_num, by omega, _, rfl⟩
      case measure => simp [intOf]; omega
    · go_wp2_with fail
      go_ret
      exact ⟨rfl, j, rfl⟩

def lentV (zs : List Int) : Array Value := ((zs.map fun z => Value.int .i64 z) ++ [Value.int .i64 (-77), Value.int .i64 (-77)]).toArray

set_option maxHeartbeats 2000000 in
set_option maxRecDepth 100000 in
theorem lent_any (ao : Option Addr) (cin : Nat) (zs : List Int) (hl : zs.length ≤ 17592186043904) (w : World) (hL : LiesO w ao zs) :
    Calls Tryz.prog 30 #[.slice ao zs.length cin] w fun e w' => ∃ g, e = .returned (.slice (some ⟨g, 0, none⟩) zs.length (zs.length + 2)) ∧ At w' g 3 (lentV zs) ∧ w.heap.size ≤ g ∧ Below w.heap.size w w' := by
  have hmk := run_make_row' (P := Tryz.prog) 29 3 (.int .i64 0) 8 Tryz.underlying29 Tryz.infoInt rfl .i64 .i64 (zs.length + 2) (by omega) (by omega)
  have e2 : ((zs.length + 2 : Nat) : Int) = (zs.length : Int) + 2 := by omega
  simp only [e2] at hmk
  clear e2
  go_enter Tryz.func30, Tryz.ntmps30
  go_wp2_with (refine wpList_copy_splice rfl (.tmp 8) (.tmp 9) 29 29 rfl 3 Tryz.underlying29 Tryz.sizeInt (some ⟨w.heap.size, 0, none⟩) ao (zs.length + 2) (zs.length + 2) zs.length cin rfl rfl w.heap.size 0 (List.replicate (zs.length + 2) (.int .i64 0)) 3 ?_ (zs.map fun z => Value.int .i64 z) ?_ ?_ ?_ ?_ w.heap.size _ (Below.refl _ _) (Nat.le_refl _) ?_)
  · have h := At.new w 3 (madeCells #[.int .i64 0] (zs.length + 2))
    have e : madeCells #[Value.int .i64 0] (zs.length + 2) = (List.replicate (zs.length + 2) (Value.int .i64 0)).toArray := by
      apply Array.ext'; rw [made_int]
    rw [e] at h ⊢
    simpa [At] using h
  · simp
  · intro hp
    rcases hL with hn | ⟨ab, off, rfl, hL, _⟩
    · rw [hn] at hp; simp at hp
    · exact ⟨_, rfl, fun j a ha => (hL.grown (gb_alloc (gb_refl w none) _) (by simp)) j a ha⟩
  · simp
  · intro v hv
    obtain ⟨z, _, rfl⟩ := List.mem_map.1 hv
    rfl
  · intro w' hG hB
    have hA : At w' w.heap.size 3 ((zs.map fun z => Value.int .i64 z) ++ [Value.int .i64 0, Value.int .i64 0]).toArray := by
      have h := hG.out
      have e : splice (List.replicate (zs.length + 2) (Value.int .i64 0)) 0 (zs.map fun z => Value.int .i64 z) = (zs.map fun z => Value.int .i64 z) ++ [Value.int .i64 0, Value.int .i64 0] := by
        simp [splice]
      rw [e] at h
      exact h
    have hB' : Below w.heap.size w w' := ((Below.refl w.heap.size w).alloc (Nat.le_refl _) _).trans hB
    have c1 := hA.cell zs.length
    have c2 := hA.cell (zs.length + 1)
    have fz := fun j => hA.frozen j
    simp at c1 c2
    clear hmk hG hB hL
    have i1 : (zs.length : Int) < (zs.length : Int) + 2 := by omega
    have i2 : (zs.length : Int) + 1 < (zs.length : Int) + 2 := by omega
    go_wp2_with fail
    go_ret
    refine ⟨w.heap.size, rfl, ?_, Nat.le_refl _, (hB'.setCell (Nat.le_refl _) _).setCell (Nat.le_refl _) _⟩
    have h := (hA.set zs.length (.int .i64 (-77))).set (zs.length + 1) (.int .i64 (-77))
    have e : (((((zs.map fun z => Value.int .i64 z) ++ [Value.int .i64 0, Value.int .i64 0]).toArray).setIfInBounds zs.length (Value.int .i64 (-77))).setIfInBounds (zs.length + 1) (Value.int .i64 (-77))) = lentV zs := by
      apply Array.ext'
      simp [lentV]
    rw [e] at h
    exact h

theorem lentV_len (zs : List Int) : (lentV zs).size = zs.length + 2 := by simp [lentV]
theorem lent_lies {w : World} {g : Nat} {zs : List Int} (h : At w g 3 (lentV zs)) : LiesO w (some ⟨g, 0, none⟩) zs := .inr ⟨g, 0, rfl, fun j v hv => by
  rw [Addr.add_lit, Nat.zero_add, h.cell j]
  obtain ⟨hj, hv'⟩ := List.getElem?_eq_some_iff.1 hv
  simp [lentV, List.getElem?_append, hj, hv'], h.lt⟩

set_option maxHeartbeats 1000000 in
theorem whole_any (g : Nat) (ao : Option Addr) (cin : Nat) (zs : List Int) (hl : zs.length ≤ 17592186043904) (w : World) (hA : At w g 3 (lentV zs)) (hL : LiesO w ao zs) :
    Calls Tryz.prog 35 #[.slice (some ⟨g, 0, none⟩) zs.length (zs.length + 2), .slice ao zs.length cin] w fun e w' => e = .returned (.bool true) ∧ Below w.heap.size w w' := by
  have hs := hide (sameInts_any (some ⟨g, 0, none⟩) ao (zs.length + 2) cin zs (by omega) w (lent_lies hA) hL)
  have c1 := hA.cell zs.length
  have c2 := hA.cell (zs.length + 1)
  simp [lentV] at c1 c2
  clear hL hA
  go_enter Tryz.func35, Tryz.ntmps35
  go_wp2_with fail
  refine (unhide hs).mono ?_
  rintro e w1 ⟨rfl, j, rfl⟩
  have i1 : (zs.length : Int) + 1 < (zs.length : Int) + 2 := by omega
  have i2 : (zs.length : Int) < (zs.length : Int) + 2 := by omega
  go_wp2_with fail
  go_ret
  exact ⟨rfl, below_drewN (Below.refl _ _) j⟩

set_option maxHeartbeats 1000000 in
theorem sameResult_any (tag steps : Int) (str : ByteArray) (a1 a2 : Option Addr) (c1 c2 : Nat) (zs : List Int) (hl : zs.length ≤ 17592186043904) (w : World) (h1 : LiesO w a1 zs) (h2 : LiesO w a2 zs) :
    Calls Tryz.prog 33 #[.agg #[.int .i64 tag, .int .i64 steps, .string str, .slice a1 zs.length c1], .agg #[.int .i64 tag, .int .i64 steps, .string str, .slice a2 zs.length c2]] w fun e w' => e = .returned (.bool true) ∧ Below w.heap.size w w' := by
  have hs := hide (fun w0 (h1 : LiesO w0 a1 zs) (h2 : LiesO w0 a2 zs) => sameInts_any a1 a2 c1 c2 zs (by omega) w0 h1 h2)
  have hg := gb_alloc (gb_alloc (gb_refl w none) (.cells #[.int .i64 tag, .int .i64 steps, .string str, .slice a1 zs.length c1] 52)) (.cells #[.int .i64 tag, .int .i64 steps, .string str, .slice a2 zs.length c2] 55)
  have H1 := hide (h1.grown hg)
  have H2 := hide (h2.grown hg)
  clear h1 h2
  go_enter Tryz.func33, Tryz.ntmps33
  go_wp2_with fail
  refine (unhide hs _ (unhide H1) (unhide H2)).mono ?_
  rintro e w1 ⟨rfl, j, rfl⟩
  go_wp2_with fail
  go_ret
  exact ⟨rfl, below_drewN (((Below.refl _ _).alloc (Nat.le_refl _) _).alloc (by simp) _) j⟩
end Go.Proofs.YtnkbfdbbcaffmaaGreatDoor
