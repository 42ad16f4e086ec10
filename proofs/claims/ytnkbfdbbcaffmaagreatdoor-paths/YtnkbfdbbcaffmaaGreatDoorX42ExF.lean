import Derived.Test.YtnkbfdbbcaffmaaGreatDoorX41ExD
import Derived.Test.YtnkbfdbbcaffmaaGreatDoorX31LawE
/-
  The document's runs of a code.
-/
namespace Go.Proofs.YtnkbfdbbcaffmaaGreatDoor
open Go.RowKit

/-- What a run of a code, by the document, leaves. -/
def RunsP (s : ByteArray) (view : Int) (zs : List Int) (fuel : Int) (w : World) (e : Ending) (w' : World) : Prop :=
  ((((codP s).run view zs fuel).1 ≠ 0 ∧ e = .returned (.tuple #[.pointer none, .int .i64 ((codP s).run view zs fuel).1])) ∨
   (((codP s).run view zs fuel).1 = 0 ∧ ∃ b N n m st ks t, e = .returned (.tuple #[.pointer (some ⟨b, 0, none⟩), .int .i64 0]) ∧ w.heap.size ≤ b ∧
      PlS w' b N n m st ks view ((codP s).run view zs fuel).2.σ ((codP s).run view zs fuel).2.sn ((codP s).run view zs fuel).2.tag ((codP s).run view zs fuel).2.steps t ∧
      ks.ps = pathP (codP s).V view (codP s).n (codP s).m fuel.toNat (codP s).cs (fuel.toNat + 1) 0 zs 0)) ∧ Below w.heap.size w w'

/-- The play is as it was, where nothing below is turned; the lines lie in new memory. -/
theorem PlS.lined {w w' : World} {b : Nat} {N : Int} {n m : Nat} {st : Int} {ks : ByteArray} {view : Int} {σ sn : List Int} {tag steps : Int} {t : ByteArray} {lv : Value} {ls : List ByteArray}
    (h : PlS w b N n m st ⟨ks, 0, .slice none 0 0, [], .slice none 0 0, []⟩ view σ sn tag steps t) (hB : Below w.heap.size w w') (hL : Ls w' w.heap.size lv ls) (hb : b < w.heap.size) :
    PlS w' b N n m st ⟨ks, 0, .slice none 0 0, [], lv, ls⟩ view σ sn tag steps t := by
  obtain ⟨stv, snv, hP, hT, hS, hX⟩ := h
  have hg := below_gb hB
  refine ⟨stv, snv, At.grown hP hg (by simp), Sr.grown hT hg, Sn.grown hS hg, ⟨World.ownsRow_nil _ _ _ _, fun g _ e => by cases e⟩, ⟨?_, ?_⟩⟩
  · obtain ⟨q1, q2⟩ := hL
    refine ⟨q1, ?_⟩
    rcases q2 with q2 | ⟨g, cap, cur, e1, e2, e3, e4⟩
    · exact .inl q2
    · exact .inr ⟨g, cap, cur, e1, by omega, e3, e4⟩
  · intro g hgs e
    have h1 := (World.ownsRow.lt hT) g hgs
    have h2 := (World.ownsRow.lt hL) g e
    omega

set_option maxHeartbeats 2000000 in
theorem refRuns_any (s : ByteArray) (hmx : s.size ≤ maxLen) (view fuel : Int) (ao : Option Addr) (cin : Nat) (zs : List Int) (hl : zs.length ≤ 9223372036854775807) (w : World) (hL : LiesO w ao zs) :
    Calls Tryz.prog 60 #[.string s, .int .i64 view, .slice ao zs.length cin, .int .i64 fuel] w (RunsP s view zs fuel w) := by
  have CK := hide (fun w0 => refCheckCode_any s hmx w0)
  by_cases he : (codP s).e = 0
  · obtain ⟨hbig, hbad, hstr, hq⟩ := cod_ok he
    have hok := codP_ok he
    have hh := cod_head hbad
    obtain ⟨ls, hLn⟩ := cod_lines s hbad
    have hnx := cod_next hstr
    have hne := cod_ne hbad
    have hll := hLn.len
    have hget := fun i c (h : (cod s).cs[i]? = some c) => hLn.get h
    have hcl := cod_len s
    have hsm : s.size ≤ 1000 := by omega
    have LI := hide (fun w0 => lines_any s hsm hh _ _ _ _ hLn w0)
    have hPP : (codP s).run view zs fuel = if rfs (pw (hdr s).2.2.1) ((hdr s).2.2.2.1 + (hdr s).2.2.2.2) view zs fuel ≠ 0 then (rfs (pw (hdr s).2.2.1) ((hdr s).2.2.2.1 + (hdr s).2.2.2.2) view zs fuel, zres)
        else (0, runP (pw (hdr s).2.2.1) view (hdr s).2.2.2.1 (hdr s).2.2.2.2 fuel.toNat (cod s).cs (fuel.toNat + 1) 0 zs [] 0) := by
      rw [Pg.run, if_neg (by rw [he]; simp), hq]
    have hPa : pathP (codP s).V view (codP s).n (codP s).m fuel.toNat (codP s).cs (fuel.toNat + 1) 0 zs 0 = pathP (pw (hdr s).2.2.1) view (hdr s).2.2.2.1 (hdr s).2.2.2.2 fuel.toNat (cod s).cs (fuel.toNat + 1) 0 zs 0 := by rw [hq]
    have hcs := cod_csok s hbad
    have hvr := hdr_vars s
    have hwo := hdr_words s
    have hwd := hdr_wid s
    have FI := hide (fun w0 (h0 : LiesO w0 ao zs) => fits_any s hsm hh view fuel ao cin zs hl w0 h0)
    unfold RunsP
    generalize hP : (codP s).run view zs fuel = P at *
    generalize hPth : pathP (codP s).V view (codP s).n (codP s).m fuel.toNat (codP s).cs (fuel.toNat + 1) 0 zs 0 = Pth at *
    clear hP hPth hq hok
    by_cases hz : rfs (pw (hdr s).2.2.1) ((hdr s).2.2.2.1 + (hdr s).2.2.2.2) view zs fuel = 0
    · rw [if_neg (by rw [hz]; simp)] at hPP
      obtain ⟨hv, hin, hfu⟩ := rfs_ok hz
      obtain ⟨hzl, hfit⟩ := inB_fits hin
      obtain ⟨fu, rfl⟩ := Int.eq_ofNat_of_zero_le (show 0 ≤ fuel by omega)
      simp only [Int.toNat_natCast] at hPP hPa
      have hv0 : 0 ≤ view := by omega
      have hv1 : view ≤ 8 := by omega
      have hf1 : fu ≤ 10000 := by omega
      have BG := hide (fun w0 (h0 : LiesO w0 ao zs) => begin_any s hsm hh view ao cin zs (by omega) w0 h0)
      rw [hz] at FI
      rw [he] at CK
      have HW := hide hwd
      have Hvr := hide hvr
      have Hwo := hide hwo
      have Hcs := hide hcs
      have Hzl := hide hzl
      have Hfit := hide hfit
      have HPP := hide hPP
      have HPa := hide hPa
      have Hnx := hide hnx
      have Hget := hide hget
      have Hll := hide hll
      have hc0 : 0 < (cod s).cs.length := List.length_pos_iff.2 hne
      clear hPP hz hcs hvr hwo hwd hh he hzl hfit hin hPa hnx hget hll hLn hne hv hfu hstr hbad hl
      generalize (hdr s).2.2.1 = W at *
      generalize (hdr s).2.2.2.1 = n at *
      generalize (hdr s).2.2.2.2 = m at *
      generalize (hdr s).1 = start at *
      generalize (codP s).z1 = z1 at *
      generalize (cod s).cs = cs at *
      go_enter Tryz.func60, Tryz.ntmps60
      go_wp2_with fail
      refine (unhide CK _).mono ?_
      rintro e w1 ⟨rfl, hB1⟩
      have hL1 := hL.grown (below_gb hB1)
      go_wp2_with fail
      refine (unhide FI _ hL1).mono ?_
      rintro e w2 ⟨rfl, hg2⟩
      have hL2 := hL1.grown hg2
      have hB2 : Below w.heap.size w w2 := hB1.trans ⟨hg2.os, hg2.tape, hg2.output, hg2.size, fun k hk => hg2.block k (by have := hB1.size; omega) (by simp)⟩
      go_wp2_with fail
      refine (unhide BG _ hL2).mono ?_
      rintro e w3 ⟨b, ks, rfl, hb3, hP3, hB3⟩
      have hB3' := hB2.trans (hB3.mono hB2.size)
      have hbw : w.heap.size ≤ b := Nat.le_trans hB2.size hb3
      go_wp2_with fail
      refine (unhide LI _).mono ?_
      rintro e w4 ⟨lv, rfl, hLs, hB4⟩
      have hbl : b < w3.heap.size := by obtain ⟨stv, snv, hP, _⟩ := hP3; exact At.lt hP
      have hP4 := hP3.lined hB4 hLs hbl
      have hB4' := hB3'.trans (hB4.mono hB3'.size)
      obtain ⟨la, lc, rfl⟩ := hLs.shape
      have hW4 : WayC (pw W) view n m fu cs P.2 Pth (fu + 1) zs [] 0 0 ⟨ks, 0, .slice none 0 0, [], .slice la ls.length lc, ls⟩ := .inr ⟨rfl, 0, hc0, rfl, by rw [unhide HPP]; rfl, by rw [unhide HPa]; rfl, rfl, Nat.zero_le _, by simp, rfl⟩
      have HP4 := hide hP4
      have HB4 := hide hB4'
      have HW4 := hide hW4
      clear hP4 hB4' hW4 hP3 hB3 hB4 hB3' hB2 hB1 hg2 hL2 hL1 hLs hL
      go_wp2_with fail
      go_loopg [] (fu + 1) (fun g wr => ∃ (σ sn : List Int) (tag : Int) (steps : Nat) (ks' : KX), Hid (PlS wr b (pw W) n m start ks' view σ sn tag steps ⟨#[]⟩) ∧ Hid (WayC (pw W) view n m fu cs P.2 Pth g σ sn tag steps ks') ∧ Hid (ks'.lv = .slice la ls.length lc) ∧ Hid (ks'.ls = ls) ∧ Hid (Fits (pw W) σ) ∧ Hid (σ.length = n + m) ∧ Hid (Below w.heap.size w wr))
      case atStart => exact ⟨zs, [], 0, 0, _, HP4, HW4, rfl, rfl, Hfit, Hzl, HB4⟩
      case round =>
        obtain ⟨σ, sn, tag, steps, ks', hP, hWy, hlv, hls, hfit, hσ, hBe⟩ := hrel
        obtain ⟨m0, m1, m2, m3, m4, m5, m6, m7, mf, _, _⟩ := (unhide hP).thirteen
        by_cases ht : tag = 0
        · subst ht
          have hwd := unhide HW
          have hlv' : ks'.lv = .slice la ks'.ls.length lc := by rw [unhide hls]; exact unhide hlv
          have hsrc := line_way (unhide hP) (unhide hWy) hlv' hwd.1 hwd.2 (unhide hfit) (unhide hσ).symm (by rw [unhide hσ]; have := unhide Hvr; have := unhide Hwo; omega) hv0 hv1 hf1 (unhide Hcs) (by omega) (by rw [unhide hls]; exact unhide Hll) (by rw [unhide hls]; exact unhide Hget) (unhide Hnx)
          rw [unhide hls] at hsrc
          have HS := hide hsrc
          clear hsrc hlv'
          go_wp2_with fail
          refine (unhide HS).mono ?_
          rintro e w5 ⟨rfl, ⟨g', σ', sn', tag', ks2, steps', rfl, hP5, hW5, hlv5, hls5, hF5, hσ5⟩, hB5⟩
          go_wp2_with fail
          go_roundg g'
          case measure => omega
          case rel => exact ⟨σ', sn', tag', steps', ks2, hP5, hW5, hlv5.trans (unhide hlv), hls5, hF5, hσ5.trans (unhide hσ), (unhide hBe).trans (hB5.mono hbw)⟩
        · have hz : (tag == 0) = false := by simpa using ht
          have hfin : P.2 = ⟨tag, steps, sn, σ⟩ ∧ Pth = ks'.ps := by
            rcases unhide hWy with h | h
            · exact h.2
            · exact absurd h.1 ht
          have Hfin := hide hfin.1
          have Hfin2 := hide hfin.2
          clear hfin ht
          go_wp2_with fail
          go_ret2
          exact ⟨.inr ⟨by rw [unhide HPP], b, pw W, n, m, start, ks', ⟨#[]⟩, rfl, hbw, by rw [unhide Hfin]; exact unhide hP, (unhide Hfin2).symm⟩, unhide hBe⟩
    · rw [if_pos hz] at hPP
      have hrb : (rfs (pw (hdr s).2.2.1) ((hdr s).2.2.2.1 + (hdr s).2.2.2.2) view zs fuel != 0) = true := by simpa using hz
      rw [he] at CK
      generalize rfs (pw (hdr s).2.2.1) ((hdr s).2.2.2.1 + (hdr s).2.2.2.2) view zs fuel = q at *
      have HP2 := hide hPP
      have Hz := hide hz
      generalize (codP s).z1 = z1 at *
      clear hPP hz hcs hvr hwo hwd hh he hPa hnx hget hll hLn hne hstr hbad
      go_enter Tryz.func60, Tryz.ntmps60
      go_wp2_with fail
      refine (unhide CK _).mono ?_
      rintro e w1 ⟨rfl, hB1⟩
      have hL1 := hL.grown (below_gb hB1)
      go_wp2_with fail
      refine (unhide FI _ hL1).mono ?_
      rintro e w2 ⟨rfl, hg2⟩
      have hB2 : Below w.heap.size w w2 := hB1.trans ⟨hg2.os, hg2.tape, hg2.output, hg2.size, fun k hk => hg2.block k (by have := hB1.size; omega) (by simp)⟩
      go_wp2_with fail
      go_ret2
      exact ⟨.inl ⟨by rw [unhide HP2]; exact unhide Hz, by rw [unhide HP2]; rfl⟩, hB2⟩
  · have hb : ((codP s).e != 0) = true := by simpa using he
    have hPP : (codP s).run view zs fuel = ((codP s).e, zres) := by rw [Pg.run, if_pos he]
    unfold RunsP
    rw [hPP]
    have He := hide he
    clear hPP he
    generalize (codP s).e = x at *
    generalize (codP s).z1 = z1 at *
    go_enter Tryz.func60, Tryz.ntmps60
    go_wp2_with fail
    refine (unhide CK _).mono ?_
    rintro e w1 ⟨rfl, hB1⟩
    go_wp2_with fail
    go_ret2
    exact ⟨.inl ⟨unhide He, rfl⟩, hB1⟩

set_option maxHeartbeats 2000000 in
theorem refExec_any (s : ByteArray) (hmx : s.size ≤ maxLen) (view fuel : Int) (ao : Option Addr) (cin : Nat) (zs : List Int) (hl : zs.length ≤ 9223372036854775807) (w : World) (hL : LiesO w ao zs) :
    Calls Tryz.prog 37 #[.string s, .int .i64 view, .slice ao zs.length cin, .int .i64 fuel] w fun e w' => ∃ st, e = .returned (.tuple #[.agg #[.int .i64 ((codP s).run view zs fuel).2.tag, .int .i64 ((codP s).run view zs fuel).2.steps, .string (strOfNums ((codP s).run view zs fuel).2.sn), st], .int .i64 ((codP s).run view zs fuel).1]) ∧ StR w' w.heap.size st ((codP s).run view zs fuel).2.σ ∧ Below w.heap.size w w' := by
  have RU := hide (fun w0 (h0 : LiesO w0 ao zs) => refRuns_any s hmx view fuel ao cin zs hl w0 h0)
  have hzero : ((codP s).run view zs fuel).1 ≠ 0 → ((codP s).run view zs fuel).2 = zres := by
    unfold Pg.run
    split
    · exact fun _ => rfl
    · split
      · exact fun _ => rfl
      · exact fun h => absurd rfl h
  unfold RunsP at RU
  generalize (codP s).run view zs fuel = P at *
  generalize pathP (codP s).V view (codP s).n (codP s).m fuel.toNat (codP s).cs (fuel.toNat + 1) 0 zs 0 = Pth at *
  have Hzero := hide hzero
  have hA0 := At.new w 55 #[.int .i64 0, .int .i64 0, .string ⟨#[]⟩, .slice none 0 0]
  have HA0 := hide hA0
  have hL0 := hL.grown (gb_alloc (gb_refl w none) (.cells #[.int .i64 0, .int .i64 0, .string ⟨#[]⟩, .slice none 0 0] 55))
  clear hA0 hzero
  go_enter Tryz.func37, Tryz.ntmps37
  go_wp2_with fail
  refine (unhide RU _ hL0).mono ?_
  rintro e w1 ⟨hcase, hB1⟩
  have hA1 := (unhide HA0).below hB1 (by simp)
  have hBa := ((Below.refl w.heap.size w).alloc (Nat.le_refl _) (.cells #[.int .i64 0, .int .i64 0, .string ⟨#[]⟩, .slice none 0 0] 55)).trans (hB1.mono (by simp))
  have r0 := hA1.cell 0
  have r1 := hA1.cell 1
  have r2 := hA1.cell 2
  have r3 := hA1.cell 3
  have rf := fun j => hA1.frozen j
  simp at r0 r1 r2 r3
  rcases hcase with ⟨hne, rfl⟩ | ⟨he0, b, N, n, m, st, ks, t, rfl, hbw, hP, hps⟩
  · have hb : (P.1 != 0) = true := by simpa using hne
    have HP2 := hide (unhide Hzero hne)
    clear hne
    go_wp2_with fail
    refine bodyPost_ret (v := .tuple #[.agg #[.int .i64 0, .int .i64 0, .string ⟨#[]⟩, .slice none 0 0], .int .i64 P.1]) (by simp [results, Tryz.results37, go_sem, r0, r1, r2, r3]) rfl ⟨.slice none 0 0, by rw [unhide HP2]; rfl, ⟨w.heap.size, Nat.le_refl _, by rw [unhide HP2]; exact sr_nil _ _⟩, ?_⟩
    exact (((hBa.setCell (Nat.le_refl _) _).setCell (Nat.le_refl _) _).setCell (Nat.le_refl _) _).setCell (Nat.le_refl _) _
  · have He0 := hide he0
    have OU := hide (rout_any hP)
    simp at hbw
    clear hP he0
    go_wp2_with fail
    refine (unhide OU).mono ?_
    rintro e w2 ⟨stv, rfl, hT, hg2⟩
    have hT2 := hT.grown hg2
    obtain ⟨so, scap, rfl⟩ := hT.shape
    have hA2 := At.grown hA1 hg2 (by simp)
    clear r0 r1 r2 r3 rf
    have r0 := hA2.cell 0
    have r1 := hA2.cell 1
    have r2 := hA2.cell 2
    have r3 := hA2.cell 3
    have rf := fun j => hA2.frozen j
    simp at r0 r1 r2 r3
    have hB2 : Below w.heap.size w w2 := hBa.trans ⟨hg2.os, hg2.tape, hg2.output, hg2.size, fun k hk => hg2.block k (by have := hBa.size; omega) (by simp)⟩
    generalize hstr : strOfNums P.2.sn = str at *
    have Hstr := hide hstr
    clear hstr
    go_wp2_with fail
    refine bodyPost_ret (v := .tuple #[.agg #[.int .i64 P.2.tag, .int .i64 P.2.steps, .string str, .slice so P.2.σ.length scap], .int .i64 0]) (by simp [results, Tryz.results37, go_sem, r0, r1, r2, r3]) rfl ⟨.slice so P.2.σ.length scap, by rw [unhide Hstr, unhide He0], ⟨b, by omega, ?_⟩, ?_⟩
    · exact (((hT2.set _ (by show w.heap.size ≤ b; omega)).set _ (by show w.heap.size ≤ b; omega)).set _ (by show w.heap.size ≤ b; omega)).set _ (by show w.heap.size ≤ b; omega)
    · exact (((hB2.setCell (Nat.le_refl _) _).setCell (Nat.le_refl _) _).setCell (Nat.le_refl _) _).setCell (Nat.le_refl _) _

/-- Path's answer by a run's. -/
theorem pPath_run (s : ByteArray) (zs : List Int) (fuel : Int) : (pPath s zs fuel).1 = ((codP s).run 0 zs fuel).1 ∧ (((codP s).run 0 zs fuel).1 ≠ 0 → (pPath s zs fuel).2 = []) ∧ (((codP s).run 0 zs fuel).1 = 0 → (pPath s zs fuel).2 = pathP (codP s).V 0 (codP s).n (codP s).m fuel.toNat (codP s).cs (fuel.toNat + 1) 0 zs 0) := by
  unfold pPath Pg.run
  by_cases h1 : (codP s).e = 0
  · by_cases h2 : rfs (codP s).V ((codP s).n + (codP s).m) 0 zs fuel = 0
    · simp [h1, h2]
    · simp [h1, h2]
  · simp [h1]

set_option maxHeartbeats 2000000 in
theorem refPath_any (s : ByteArray) (hmx : s.size ≤ maxLen) (fuel : Int) (ao : Option Addr) (cin : Nat) (zs : List Int) (hl : zs.length ≤ 9223372036854775807) (w : World) (hL : LiesO w ao zs) :
    Calls Tryz.prog 39 #[.string s, .slice ao zs.length cin, .int .i64 fuel] w fun e w' => ∃ st, e = .returned (.tuple #[st, .int .i64 (pPath s zs fuel).1]) ∧ StR w' w.heap.size st (pPath s zs fuel).2 ∧ Below w.heap.size w w' := by
  have RU := hide (refRuns_any s hmx 0 fuel ao cin zs hl w hL)
  obtain ⟨p1, p2, p3⟩ := pPath_run s zs fuel
  rw [p1]
  unfold RunsP at RU
  generalize (pPath s zs fuel).2 = Q at *
  generalize (codP s).run 0 zs fuel = P at *
  generalize pathP (codP s).V 0 (codP s).n (codP s).m fuel.toNat (codP s).cs (fuel.toNat + 1) 0 zs 0 = Pth at *
  clear p1
  have P2 := hide p2
  have P3 := hide p3
  clear p2 p3
  go_enter Tryz.func39, Tryz.ntmps39
  go_wp2_with fail
  refine (unhide RU).mono ?_
  rintro e w1 ⟨hcase, hB1⟩
  rcases hcase with ⟨hne, rfl⟩ | ⟨he0, b, N, n, m, st, ks, t, rfl, hbw, hP, hps⟩
  · have hb : (P.1 != 0) = true := by simpa using hne
    have HQ := hide (unhide P2 hne)
    clear hne
    go_wp2_with fail
    go_ret2
    exact ⟨_, rfl, ⟨w.heap.size, Nat.le_refl _, by rw [unhide HQ]; exact sr_nil _ _⟩, hB1⟩
  · have HQ := hide (unhide P3 he0)
    have He0 := hide he0
    obtain ⟨m10, m11⟩ := hP.two
    have hpth := hP.path
    obtain ⟨pa, pc, hpv⟩ : ∃ pa pc, ks.pv = .slice pa ks.ps.length pc := by
      rcases hpth.2 with ⟨h', h0⟩ | ⟨g, cap, cur, h', hb, _⟩
      · exact ⟨none, 0, by rw [h', h0]⟩
      · exact ⟨_, cap, h'⟩
    rw [hpv] at m11 hpth
    have Hpth := hide hpth
    have Hps := hide hps
    clear hP he0 hpth hps
    go_wp2_with fail
    go_ret2
    exact ⟨_, by rw [unhide He0]; rfl, ⟨b, hbw, by rw [unhide HQ, ← unhide Hps]; exact unhide Hpth⟩, hB1⟩
end Go.Proofs.YtnkbfdbbcaffmaaGreatDoor
/-
  Exec.
-/
namespace Go.Proofs.YtnkbfdbbcaffmaaGreatDoor
open Go.RowKit

theorem codRun_len (s : ByteArray) (view : Int) (zs : List Int) (fuel : Int) : ((codP s).run view zs fuel).2.σ.length ≤ 100 := by
  unfold Pg.run
  split
  · exact Nat.zero_le _
  · rename_i h0
    split
    · exact Nat.zero_le _
    · rename_i h
      dsimp only
      rw [runP_len]
      have := (inB_fits (rfs_in (Classical.not_not.1 h))).1
      have hok := codP_ok (Classical.not_not.1 h0)
      have h1 := hok.n
      have h2 := hok.m
      omega

set_option maxRecDepth 20000 in
set_option maxHeartbeats 4000000 in
theorem execs_any {w : World} {b : Nat} {lv : Value} {ls : List Value} (h : Bk w b lv ls) (hl : ls.length ≤ 1466015503701) (n m p : Int) (S : ByteArray) (hS : S.size ≤ maxLen) (ao : Option Addr) (cin : Nat) (zs : List Int) (hz : zs.length ≤ 17592186043904) (hL : LiesB w b ao zs) (a2 : Option Addr) (l2 c2 : Nat) :
    Calls Tryz.prog 20 #[.pointer (some ⟨b, 0, none⟩), .agg #[.int .i64 4, .int .i64 n, .int .i64 m, .int .i64 p, .string S, .slice ao zs.length cin, .slice a2 l2 c2]] w fun e w' => e = .returned (.bool true) ∧ (∃ lv' f, Bk w' b lv' (ls ++ [f])) ∧ Below b w w' := by
  have hlen := codRun_len S n zs m
  generalize hP : (codP S).run n zs m = P at *
  obtain ⟨e0, tag, steps, sn, σ⟩ := P
  dsimp only at hlen
  have HP := hide hP
  have HB := hide h
  have HL := hide hL
  have hbl := h.at_.lt
  clear hP h hL
  go_enter Tryz.func20, Tryz.ntmps20
  go_wp2_with fail
  have hB0 := (Below.refl w.heap.size w).alloc (Nat.le_refl _) (.cells #[.int .i64 4, .int .i64 n, .int .i64 m, .int .i64 p, .string S, .slice ao zs.length cin, .slice a2 l2 c2] 31)
  have hA0 := At.new w 31 #[.int .i64 4, .int .i64 n, .int .i64 m, .int .i64 p, .string S, .slice ao zs.length cin, .slice a2 l2 c2]
  have hL0 := (unhide HL).below hB0 (Nat.le_of_lt hbl)
  have hs0 : (w.alloc (.cells #[.int .i64 4, .int .i64 n, .int .i64 m, .int .i64 p, .string S, .slice ao zs.length cin, .slice a2 l2 c2] 31)).heap.size = w.heap.size + 1 := by simp
  refine (lent_any ao cin zs hz _ (hL0.toO (by omega))).mono ?_
  rintro e w1 ⟨gi, rfl, hI1, hgi, hB1⟩
  rw [hs0] at hgi
  have hA1 := hA0.below hB1 (by simp)
  have hL1 := hL0.below hB1 (by omega)
  have hBB1 := hB0.trans (hB1.mono (by simp))
  have d0 := hA1.cell 0
  have d1 := hA1.cell 1
  have d2 := hA1.cell 2
  have d4 := hA1.cell 4
  have d5 := hA1.cell 5
  simp at d0 d1 d2 d4 d5
  have hgl := hI1.lt
  have HR1 := hide (leakExec_any S hS n m gi 0 (zs.length + 2) zs (by omega) w1 (by
    rcases lent_lies hI1 with hn | ⟨ab, off, e, hLL, _⟩
    · rw [hn]; intro j v hv; simp at hv
    · simp at e; obtain ⟨rfl, rfl⟩ := e; exact hLL) hgl)
  clear hA0 hL0 hB0 hB1
  rw [unhide HP] at HR1
  dsimp only at HR1
  go_wp2_with fail
  refine (unhide HR1).mono ?_
  rintro e w2 ⟨st, rfl, hSt, hB2⟩
  obtain ⟨so, scap, rfl, hSL⟩ := hSt.lies
  have hA2 := hA1.below hB2 hA1.lt
  have hL2 := hL1.below hB2 (by have := hA1.lt; omega)
  have hI2 := hI1.below hB2 hgl
  have hBB2 := hBB1.trans (hB2.mono (by have := hA1.lt; omega))
  have hq2 : w.heap.size < w2.heap.size := hA2.lt
  generalize hstr : strOfNums sn = str at *
  have Hstr := hide hstr
  clear hstr
  clear d0 d1 d2 d4 d5
  have d0 := hA2.cell 0
  have d1 := hA2.cell 1
  have d2 := hA2.cell 2
  have d4 := hA2.cell 4
  have d5 := hA2.cell 5
  simp at d0 d1 d2 d4 d5
  go_wp2_with fail
  have hB2' : Below w2.heap.size w2 (w2.alloc (.cells #[.int .i64 tag, .int .i64 steps, .string str, .slice so σ.length scap] 52)) := (Below.refl _ _).alloc (Nat.le_refl _) _
  have hs2 : (w2.alloc (.cells #[.int .i64 tag, .int .i64 steps, .string str, .slice so σ.length scap] 52)).heap.size = w2.heap.size + 1 := by simp
  have hRa := At.new w2 52 #[.int .i64 tag, .int .i64 steps, .string str, .slice so σ.length scap]
  have HR2 := hide (refExec_any S hS n m ao cin zs (by omega) _ ((hL2.below hB2' (by omega)).toO (by rw [hs2]; omega)))
  rw [unhide HP] at HR2
  dsimp only at HR2
  rw [unhide Hstr] at HR2
  refine (unhide HR2).mono ?_
  rintro e w3 ⟨st2, rfl, hSt2, hB3⟩
  obtain ⟨so2, scap2, rfl, hSL2⟩ := hSt2.lies
  have hB3' : Below w2.heap.size w2 w3 := hB2'.trans (hB3.mono (by rw [hs2]; omega))
  have hRa3 := hRa.below hB3 (by rw [hs2]; omega)
  have hA3 := hA2.below hB3' hq2
  have hI3 := hI2.below hB3' hI2.lt
  have hL3 := hL2.below hB3' (by omega)
  have hBB3 := hBB2.trans (hB3'.mono (by omega))
  have hq3 : w2.heap.size < w3.heap.size := hRa3.lt
  have hSL3 : LiesO w3 so σ := hSL.grown (below_gb hB3')
  have r0 := hRa3.cell 0
  have r1 := hRa3.cell 1
  have r2 := hRa3.cell 2
  have r3 := hRa3.cell 3
  clear d0 d1 d2 d4 d5
  have d0 := hA3.cell 0
  have d5 := hA3.cell 5
  simp at d0 d5 r0 r1 r2 r3
  clear hB2' hB3 hRa hSt2
  go_wp2_with fail
  have hB3a : Below w3.heap.size w3 (w3.alloc (.cells #[.int .i64 tag, .int .i64 steps, .string str, .slice so2 σ.length scap2] 55)) := (Below.refl _ _).alloc (Nat.le_refl _) _
  refine (sameResult_any tag steps str so so2 scap scap2 σ (by omega) _ (hSL3.grown (below_gb hB3a)) (hSL2.grown (below_gb hB3a))).mono ?_
  rintro e w4 ⟨rfl, hB4⟩
  have hB4' : Below w3.heap.size w3 w4 := hB3a.trans (hB4.mono (by simp))
  have hRa4 := hRa3.below hB4' hRa3.lt
  have hA4 := hA3.below hB4' hA3.lt
  have hI4 := hI3.below hB4' hI3.lt
  have hL4 := hL3.below hB4' (by omega)
  have hBB4 := hBB3.trans (hB4'.mono (by omega))
  have hBk4 := (unhide HB).below hBB4
  have hq4 : w2.heap.size < w4.heap.size := hRa4.lt
  have hB24 : Below w2.heap.size w2 w4 := hB3'.trans (hB4'.mono (by omega))
  clear r0 r1 r2 r3 d0 d5
  have r3 := hRa4.cell 3
  simp at r3
  have hfin : ∀ w5, Below b w4 w5 → (∀ k t cs, At w4 k t cs → t ≠ 29 → k ≠ b → (t = 3 → k < w1.heap.size) → At w5 k t cs) → At w5 gi 3 (lentV zs) ∧ LiesB w5 b ao zs ∧ Below b w w5 ∧ At w5 w.heap.size 31 #[.int .i64 4, .int .i64 n, .int .i64 m, .int .i64 p, .string S, .slice ao zs.length cin, .slice a2 l2 c2] := by
    intro w5 hB5 hfr5
    exact ⟨hfr5 gi 3 _ hI4 (by decide) (by omega) (fun _ => hgl), hL4.below hB5 (Nat.le_refl _), (hBB4.mono (by omega)).trans hB5, hfr5 _ _ _ hA4 (by decide) (by omega) (fun e => by cases e)⟩
  have Hfin := hide hfin
  clear hB3a hB4 hfin
  rcases hSt with ⟨rfl, hst⟩ | ⟨gs, hst, hAs, hgs⟩
  · simp at hst
    obtain ⟨rfl, rfl⟩ := hst
    go_wp2_with fail
    refine (take_nil hBk4 hl).mono ?_
    rintro e w5 ⟨rfl, ⟨lv5, hBk5⟩, hB5, hfr5⟩
    obtain ⟨hI5, hL5, hBB5, hA5⟩ := unhide Hfin w5 hB5 (fun k t cs h1 h2 h3 _ => hfr5 k t cs h1 h2 h3)
    have hbl5 := hBk5.at_.lt
    have d5 := hA5.cell 5
    simp at d5
    go_wp2_with fail
    refine (whole_any gi ao cin zs hz w5 hI5 (hL5.toO (by omega))).mono ?_
    rintro e w6 ⟨rfl, hB6⟩
    go_wp2_with fail
    refine (num_any _ _).mono ?_
    rintro e w7 ⟨rfl, rfl⟩
    go_wp2_with fail
    go_ret
    exact ⟨rfl, ⟨_, _, hBk5.below hB6⟩, hBB5.trans (hB6.mono (by omega))⟩
  · simp at hst
    obtain ⟨rfl, rfl⟩ := hst
    have hAs4 := hAs.below hB24 hAs.lt
    have hgl4 : gs ≠ gi := by omega
    go_wp2_with fail
    refine (take_some hBk4 hl gs σ.length σ.length (Nat.le_refl _) (σ.map fun c => Value.int .i64 c) (by simpa [intsV] using hAs4) (by simp) (by omega) (by omega) (by
      intro v hv g' c c' e
      obtain ⟨k, hk⟩ := List.mem_iff_getElem?.1 hv
      rcases (unhide HB).full k v hk with h' | ⟨g2, c2, e1, _, _, e4⟩
      · rw [h'] at e; cases e
      · rw [e] at e1
        simp at e1
        have := e4.lt
        omega)).mono ?_
    rintro e w5 ⟨rfl, ⟨lv5, hBk5⟩, hB5, hfr5⟩
    obtain ⟨hI5, hL5, hBB5, hA5⟩ := unhide Hfin w5 hB5 (fun k t cs h1 h2 h3 h4 => hfr5 k t cs h1 h2 h3 (by
      intro e
      subst e
      have h5 := hAs4
      unfold At at h5 h1
      rw [h1] at h5
      simp at h5
      have := h4 (by first | exact h5.2 | exact h5.2.1 | exact h5.1)
      omega))
    have hbl5 := hBk5.at_.lt
    have d5 := hA5.cell 5
    simp at d5
    go_wp2_with fail
    refine (whole_any gi ao cin zs hz w5 hI5 (hL5.toO (by omega))).mono ?_
    rintro e w6 ⟨rfl, hB6⟩
    go_wp2_with fail
    refine (num_any _ _).mono ?_
    rintro e w7 ⟨rfl, rfl⟩
    go_wp2_with fail
    go_ret
    exact ⟨rfl, ⟨_, _, hBk5.below hB6⟩, hBB5.trans (hB6.mono (by omega))⟩

set_option maxHeartbeats 1000000 in
theorem plays_exec {w : World} {b : Nat} {lv : Value} {ls : List Value} (h : Bk w b lv ls) (hl : ls.length ≤ 1466015503701) (n m p : Int) (S : ByteArray) (hS : S.size ≤ maxLen) (ao : Option Addr) (cin : Nat) (zs : List Int) (hz : zs.length ≤ 17592186043904) (hL : LiesB w b ao zs) (a2 : Option Addr) (l2 c2 : Nat) :
    Calls Tryz.prog 13 #[.pointer (some ⟨b, 0, none⟩), .agg #[.int .i64 4, .int .i64 n, .int .i64 m, .int .i64 p, .string S, .slice ao zs.length cin, .slice a2 l2 c2]] w fun e w' => e = .returned (.bool true) ∧ (∃ lv' f, Bk w' b lv' (ls ++ [f])) ∧ Below b w w' := by
  have hbl := h.at_.lt
  have hB0 := (Below.refl w.heap.size w).alloc (Nat.le_refl _) (.cells #[.int .i64 4, .int .i64 n, .int .i64 m, .int .i64 p, .string S, .slice ao zs.length cin, .slice a2 l2 c2] 31)
  have HR := hide (execs_any (h.below hB0) hl n m p S hS ao cin zs hz (hL.below hB0 (by omega)) a2 l2 c2)
  clear h hL
  go_enter Tryz.func13, Tryz.ntmps13
  go_wp2_with fail
  refine (unhide HR).mono ?_
  rintro e w1 ⟨rfl, hBk, hB1⟩
  go_wp2_with fail
  go_ret
  exact ⟨rfl, hBk, (hB0.mono (by omega)).trans hB1⟩

set_option maxHeartbeats 2000000 in
theorem upTo_execs (ao : Option Addr) (len cap : Nat) (w : World) (hs : IsScript2 w ao len) :
    Calls Tryz.prog 12 #[.slice ao len cap, .int .i64 4, .int .i64 4] w fun e w' => e = .returned (.int .i64 (-1)) ∧ Below w.heap.size w w' := by
  obtain ⟨hlen, hs⟩ := hs
  go_enter Tryz.func12, Tryz.ntmps12
  go_wp2_with fail
  have hbk0 : Bk (w.alloc (.cells #[.slice none 0 0] 28)) w.heap.size (.slice none 0 0) [] := ⟨At.new w _ _, World.ownsRow_nil _ _ _ _, fun k v hv => by simp at hv⟩
  go_loopw [8] (fun i wr => ∃ (k : Nat) (lv : Value) (ls : List Value), i = .int .i64 k ∧ k ≤ len ∧ ls.length ≤ k ∧ Hid (Bk wr w.heap.size lv ls) ∧ Hid (Below w.heap.size w wr)) (fun i _ => len - (intOf i).toNat)
  case atStart => exact ⟨0, _, [], rfl, Nat.zero_le _, Nat.zero_le _, hbk0, (Below.refl _ _).alloc (Nat.le_refl _) _⟩
  case round =>
    clear hbk0
    obtain ⟨k, lv, ls, rfl, hk, hls, hBk, hBl⟩ := hrel
    by_cases hlt : k < len
    · rcases hs with rfl | ⟨b, off, rfl, hb, hall⟩
      · omega
      obtain ⟨kind, n, m, p, S, va, vb, hop, hS, ⟨ai, ci, zs, rfl, hz, hL⟩, ⟨a2, l2, c2, rfl⟩⟩ := hall k hlt
      obtain ⟨o0, o1, o2, o3, o4, o5, o6⟩ := hop
      rw [← (unhide hBl).cell (p := ⟨b, off + k * 7, none⟩) hb] at o0
      rw [← (unhide hBl).cell (p := ⟨b, off + k * 7 + 1, none⟩) hb] at o1
      rw [← (unhide hBl).cell (p := ⟨b, off + k * 7 + 2, none⟩) hb] at o2
      rw [← (unhide hBl).cell (p := ⟨b, off + k * 7 + 3, none⟩) hb] at o3
      rw [← (unhide hBl).cell (p := ⟨b, off + k * 7 + 4, none⟩) hb] at o4
      rw [← (unhide hBl).cell (p := ⟨b, off + k * 7 + 5, none⟩) hb] at o5
      rw [← (unhide hBl).cell (p := ⟨b, off + k * 7 + 6, none⟩) hb] at o6
      have Hall := hide hall
      clear hall
      have hbl : w.heap.size < wr.heap.size := (unhide hBk).at_.lt
      by_cases hkind : kind = 4
      · subst hkind
        have hBa : Below wr.heap.size wr (wr.alloc (.cells #[.int .i64 4, .int .i64 n, .int .i64 m, .int .i64 p, .string S, .slice ai zs.length ci, .slice a2 l2 c2] 31)) := (Below.refl _ _).alloc (Nat.le_refl _) _
        have hLb : LiesB (wr.alloc (.cells #[.int .i64 4, .int .i64 n, .int .i64 m, .int .i64 p, .string S, .slice ai zs.length ci, .slice a2 l2 c2] 31)) w.heap.size ai zs := by
          rcases hL with h | ⟨ab, off', e, hL', hlt'⟩
          · exact .inl h
          · exact .inr ⟨ab, off', e, (hL'.below (unhide hBl) hlt').below (hBa.mono (Nat.le_of_lt hbl)) hlt', hlt'⟩
        have HR := hide (plays_exec ((unhide hBk).below hBa) (by omega) n m p S hS ai ci zs hz hLb a2 l2 c2)
        clear hL hLb
        go_wp2_with fail
        refine (unhide HR).mono ?_
        rintro e w1 ⟨rfl, ⟨lv1, f1, hBk1⟩, hB1⟩
        go_wp2_with fail
        refine (holds_any hBk1 (by rw [List.length_append]; simp; omega)).mono ?_
        rintro e w2 ⟨rfl, j, rfl⟩
        go_wp2_with fail
        go_roundw
        case rel => exact ⟨k + 1, lv1, ls ++ [f1], by go_num, by omega, by rw [List.length_append]; simp; omega, hBk1.below (below_drewN (Below.refl _ _) j), below_drewN (((unhide hBl).trans (hBa.mono (Nat.le_of_lt hbl))).trans hB1) j⟩
        case measure => simp [intOf]; omega
      · by_cases hlow : 4 ≤ kind
        · have hd : decide (kind ≤ 4) = false := by simp; omega
          go_wp2_with fail
          go_roundw
          case rel => exact ⟨k + 1, lv, ls, by go_num, by omega, by omega, (unhide hBk).below ((Below.refl _ _).alloc (Nat.le_refl _) _), (unhide hBl).alloc (unhide hBl).size _⟩
          case measure => simp [intOf]; omega
        · have hd : decide (4 ≤ kind) = false := by simp; omega
          go_wp2_with fail
          go_roundw
          case rel => exact ⟨k + 1, lv, ls, by go_num, by omega, by omega, (unhide hBk).below ((Below.refl _ _).alloc (Nat.le_refl _) _), (unhide hBl).alloc (unhide hBl).size _⟩
          case measure => simp [intOf]; omega
    · go_wp2_with fail
      go_ret
      exact ⟨rfl, unhide hBl⟩

set_option maxHeartbeats 400000 in
theorem execs_walk (ao : Option Addr) (len cap : Nat) (w : World) (hs : IsScript2 w ao len) :
    Calls Tryz.prog 6 #[.slice ao len cap] w fun e w' => e = .returned (.bool true) ∧ Below w.heap.size w w' := by
  go_enter Tryz.func6, Tryz.ntmps6
  go_wp2_with fail
  refine (upTo_execs ao len cap w hs).mono ?_
  rintro e w1 ⟨rfl, hb⟩
  go_wp2_with fail
  go_ret
  exact ⟨rfl, hb⟩
end Go.Proofs.YtnkbfdbbcaffmaaGreatDoor
