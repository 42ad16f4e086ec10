import Derived.Test.YtnkbfdbbcaffmaaGreatDoorX17RunK
import Derived.Test.YtnkbfdbbcaffmaaGreatDoorX20Lie
/-
  machine.run.
-/
namespace Go.Proofs.YtnkbfdbbcaffmaaGreatDoor
open Go.RowKit

/-- What holds behind a run: the machine's state, what is seen, the path. -/
def Done (w w' : World) (b gs : Nat) (W V n m view : Int) (tx : ByteArray) (R : Res) (P : List Int) : Prop :=
  ∃ sv pv tr, Mac w' b gs W V n m view R.σ sv (tx, pv) tr ∧ Sn w' b sv R.sn ∧ Pt w' b pv P ∧ Below gs w w'

set_option maxHeartbeats 4000000 in
set_option maxRecDepth 100000 in
theorem mrun_any (tx : ByteArray) (W : Nat) (view : Int) (n m fuel : Nat) (cs : List Cm) (cap : Nat) (ao : Option Addr) (kb : Nat) (zs : List Int) (w : World) (b gs : Nat)
    (hW1 : 1 ≤ W) (hW : W ≤ 8) (hcs : CsOK (pw W) n cs) (hO : Own w kb (.slice ao cs.length cap) cs) (hlt2 : ∀ k, (Value.slice ao cs.length cap).ownBlock = some k → k < gs) (hcl : cs.length ≤ 1000) (hz : zs.length = n + m) (hz2 : zs.length ≤ 100) (hfit : Fits (pw W) zs) (hfu : fuel ≤ 10000) (hv0 : 0 ≤ view) (hv1 : view ≤ 8)
    (hM0 : Mac w b gs W (pw W) n m view zs (.slice none 0 0) (tx, .slice none 0 0) false) :
    Calls Tryz.prog 95 #[.pointer (some ⟨b, 0, none⟩), .slice ao cs.length cap, .int .i64 fuel] w fun e w' =>
      e = .returned (.int .i64 (runP (pw W) view n m fuel cs (fuel + 1) 0 zs [] 0).tag) ∧ Done w w' b gs W (pw W) n m view tx (runP (pw W) view n m fuel cs (fuel + 1) 0 zs [] 0) (pathP (pw W) view n m fuel cs (fuel + 1) 0 zs 0) := by
  generalize hR : runP (pw W) view n m fuel cs (fuel + 1) 0 zs [] 0 = R
  generalize hP : pathP (pw W) view n m fuel cs (fuel + 1) 0 zs 0 = P
  have HR := hide hR
  have HP := hide hP
  have Hz := hide hz
  clear hR hz hP
  have HM2 := hide hM0
  have HO2 := hide hO
  have Hlt2 := hide hlt2
  have Hcs := hide hcs
  have Hfit := hide hfit
  clear hcs hfit hM0 hO hlt2
  obtain ⟨i0, hi0, hz0, hz1, hz3⟩ := info_parts Tryz.infoInt
  go_enter Tryz.func95, Tryz.ntmps95
  go_wp2_with fail
  go_loopg [7] (fuel + 1) (fun g i wr => ∃ (at_ : Int) (σ : List Int) (sv pv : Value) (sn ps : List Int), i = .int .i64 at_ ∧ 0 ≤ at_ ∧ Hid (Mac wr b gs W (pw W) n m view σ sv (tx, pv) false) ∧ Hid (Sn wr b sv sn) ∧ Hid (Pt wr b pv ps) ∧ Hid (Below gs w wr) ∧ Hid (Fits (pw W) σ) ∧ Hid (σ.length = zs.length) ∧ ps.length ≤ fuel ∧ sn.length ≤ 4 * ps.length ∧ Hid (g + ps.length = fuel + 1) ∧ Hid (runP (pw W) view n m fuel cs g at_ σ sn ps.length = R) ∧ Hid (ps ++ pathP (pw W) view n m fuel cs g at_ σ ps.length = P))
  case atStart => exact ⟨0, zs, .slice none 0 0, .slice none 0 0, [], [], rfl, by omega, HM2, World.ownsRow_nil _ _ _ _, World.ownsRow_nil _ _ _ _, Below.refl _ _, Hfit, rfl, by simp, by simp, rfl, HR, by simpa using HP⟩
  case round =>
    obtain ⟨at_, σ, sv, pv, sn, ps, rfl, hat, hM, hS, hPt, hB, hfit', hσl, hst, hsnl, hgs', hrun, hpath⟩ := hrel
    obtain ⟨k, rfl⟩ := Int.eq_ofNat_of_zero_le hat
    have hgk : 0 < gk := by have := unhide hgs'; omega
    obtain ⟨g, rfl⟩ : ∃ g, gk = g + 1 := ⟨gk - 1, by omega⟩
    obtain ⟨pa, pc, rfl⟩ := (unhide hPt).shape
    obtain ⟨m0, m1, m2, m3, m4, m5, m6, m7, m8, mt, mf⟩ := (unhide hM).nine
    dsimp only at m7
    have hrun2 := unhide hrun
    have hpath2 := unhide hpath
    rw [runP] at hrun2
    rw [pathP] at hpath2
    simp only [Int.toNat_natCast] at hrun2 hpath2
    clear hrun hpath
    by_cases hlt : k < cs.length
    · obtain ⟨c, hc⟩ : ∃ c, cs[k]? = some c := ⟨_, List.getElem?_eq_getElem hlt⟩
      rw [hc] at hrun2 hpath2
      dsimp only at hrun2 hpath2
      by_cases hfu2 : fuel ≤ ps.length
      · rw [if_pos hfu2] at hrun2 hpath2
        have Hfin : Hid (R = ⟨3, ps.length, sn, σ⟩) := hrun2.symm
        have Hfip : Hid (P = ps) := by rw [List.append_nil] at hpath2; exact hpath2.symm
        clear hrun2 hpath2 hc
        go_wp2_with fail
        go_ret
        exact ⟨by rw [unhide Hfin]; rfl, sv, _, false, by rw [unhide Hfin]; exact unhide hM, by rw [unhide Hfin]; exact unhide hS, by rw [unhide Hfip]; exact unhide hPt, unhide hB⟩
      · rw [if_neg hfu2] at hrun2 hpath2
        have hfu3 : ps.length < fuel := by omega
        have Hrun2 := hide hrun2
        have Hpath2 := hide hpath2
        clear hrun2 hpath2 hfu2
        have hbl : b < wr.heap.size := (unhide hM).1.lt
        go_wp2_with (at_builtin; refine wpList_append_own _ rfl (.tmp 23) (.tmp 25) 29 rfl (b + 1) 3 i0 (.int .i64 0) 1 8 Tryz.underlying29 hi0 hz0 hz1 hz3 rfl (by decide) (.slice pa ps.length pc) ps.length (ps.map fun c => Value.int .i64 c) rfl ?_ ⟨wr.heap.size, 0, none⟩ 1 1 [.int .i64 k] rfl rfl ?_ ?_ ?_ ?_ ?_ ?_)
        · exact World.ownsRow.alloc (unhide hPt) _
        · simp [Value.oneCell']
        · unfold maxLen; omega
        · omega
        · (try simp); omega
        · intro v' w' h1 h2 _
          obtain ⟨hM', hS', hP', hB', g', cap', rfl⟩ := pt_post (unhide hM) (unhide hS) (unhide hPt) (k : Int) _ h1 h2
          clear m0 m1 m2 m3 m4 m5 m6 m7 m8 mt mf h1 h2
          obtain ⟨m0, m1, m2, m3, m4, m5, m6, m7, m8, mt, mf⟩ := hM'.nine
          have hM2 := hM'.setPath (.slice (some ⟨g', 0, none⟩) (ps.length + 1) cap')
          have hS2 := hS'.set (a := ⟨b, 8, none⟩) (.slice (some ⟨g', 0, none⟩) (ps.length + 1) cap') (Nat.le_refl _)
          have hP2 := hP'.set (a := ⟨b, 8, none⟩) (.slice (some ⟨g', 0, none⟩) (ps.length + 1) cap') (Nat.le_refl _)
          have hB2 := ((unhide hB).trans hB').setCell (p := ⟨b, 8, none⟩) (Nat.le_of_lt hM'.2.2) (.slice (some ⟨g', 0, none⟩) (ps.length + 1) cap')
          dsimp only at hM2
          have hmem : c ∈ cs := List.mem_of_getElem? hc
          obtain ⟨hcok, hy0, hn0⟩ := unhide Hcs c hmem
          have hOr : Own (w'.setCell ⟨b, 8, none⟩ (.slice (some ⟨g', 0, none⟩) (ps.length + 1) cap')) kb (.slice ao cs.length cap) cs := own_below (unhide HO2) (unhide Hlt2) hB2
          obtain ⟨gc, capc, he, _⟩ := hOr.form (by rintro rfl; simp at hlt)
          simp at he
          obtain ⟨rfl, rfl⟩ := he
          have o0 := hOr.at_ hc 0 (by omega)
          have o1 := hOr.at_ hc 1 (by omega)
          have o2 := hOr.at_ hc 2 (by omega)
          have o3 := hOr.at_ hc 3 (by omega)
          have o4 := hOr.at_ hc 4 (by omega)
          have o5 := hOr.at_ hc 5 (by omega)
          have o6 := hOr.at_ hc 6 (by omega)
          have o7 := hOr.at_ hc 7 (by omega)
          have o8 := hOr.at_ hc 8 (by omega)
          have o9 := hOr.at_ hc 9 (by omega)
          have o10 := hOr.at_ hc 10 (by omega)
          simp [Cm.cells] at o0 o1 o2 o3 o4 o5 o6 o7 o8 o9 o10
          have hfits2 := act_fits (view := view) (m := m) hcok (unhide hfit') (by rw [unhide hσl, unhide Hz]) hW1
          have hσl2 := act_σlen (pw W) view n m σ c
          have hal := act_len (pw W) view n m σ c
          have hnx := act_next (V := pw W) (view := view) (n := n) (m := m) (σ := σ) hy0 hn0
          have hstep := mstep_any hcok hM2 hS2 hW (unhide hfit') (by rw [unhide hσl, unhide Hz]) (by rw [unhide hσl]; exact hz2) (by omega) hv0 hv1
          dsimp only [Cm.cells] at hstep
          have hrun2 := unhide Hrun2
          have hpath2 := unhide Hpath2
          generalize hact : act (pw W) view n m σ c = A at *
          clear hact
          obtain ⟨σ2, sn2, tr2, nx⟩ := A
          dsimp only at *
          have Hstep := hide hstep
          have Hfits2 := hide hfits2
          have Hσl2 : Hid (σ2.length = zs.length) := hσl2.trans (unhide hσl)
          have HP2 := hide hP2
          have HB2 := hide hB2
          have hgb := hM'.2.2
          clear hstep hfits2 hσl2 hOr hc hcok hmem hP2 hB2 hM2 hS2 hM' hS' hP' hB' Hrun2 Hpath2
          cases tr2 with
          | true =>
            rw [if_pos rfl] at hrun2 hpath2
            have Hfin : Hid (R = ⟨2, ps.length + 1, sn ++ sn2, σ2⟩) := hrun2.symm
            have Hfip : Hid (P = ps ++ [(k : Int)]) := hpath2.symm
            clear hrun2 hpath2
            go_wp2_with fail
            refine (unhide Hstep).mono ?_
            rintro e w3 ⟨rfl, sv3, hM3, hS3, hF3⟩
            clear m0 m1 m2 m3 m4 m5 m6 m7 m8 mt mf o0 o1 o2 o3 o4 o5 o6 o7 o8 o9 o10
            obtain ⟨m0, m1, m2, m3, m4, m5, m6, m7, m8, mt, mf⟩ := hM3.nine
            go_wp2_with fail
            go_ret
            exact ⟨by rw [unhide Hfin]; rfl, sv3, _, true, by rw [unhide Hfin]; exact hM3, by rw [unhide Hfin]; exact hS3, by rw [unhide Hfip]; exact (unhide HP2).fr hF3 hgb, (unhide HB2).trans hF3.below⟩
          | false =>
            rw [if_neg (by simp)] at hrun2 hpath2
            have Hrun2 := hide hrun2
            have Hpath2 := hide hpath2
            clear hrun2 hpath2
            go_wp2_with fail
            refine (unhide Hstep).mono ?_
            rintro e w3 ⟨rfl, sv3, hM3, hS3, hF3⟩
            clear m0 m1 m2 m3 m4 m5 m6 m7 m8 mt mf o0 o1 o2 o3 o4 o5 o6 o7 o8 o9 o10
            obtain ⟨m0, m1, m2, m3, m4, m5, m6, m7, m8, mt, mf⟩ := hM3.nine
            have HM3 := hide hM3
            have HS3 := hide hS3
            have HP3 := hide ((unhide HP2).fr hF3 hgb)
            have HB3 := hide ((unhide HB2).trans hF3.below)
            clear hM3 hS3 hF3 HP2 HB2
            go_wp2_with fail
            go_roundg g
            case measure => omega
            case rel => exact ⟨nx, σ2, sv3, _, sn ++ sn2, ps ++ [(k : Int)], rfl, hnx, HM3, HS3, HP3, HB3, Hfits2, Hσl2, by simp; omega, by simp; omega, by have := unhide hgs'; exact hide (by simp; omega), by rw [List.length_append]; exact Hrun2, by rw [List.length_append, List.append_assoc]; exact Hpath2⟩
    · rw [List.getElem?_eq_none (by omega)] at hrun2 hpath2
      dsimp only at hrun2 hpath2
      have Hfin : Hid (R = ⟨1, ps.length, sn, σ⟩) := hrun2.symm
      have Hfip : Hid (P = ps) := by rw [List.append_nil] at hpath2; exact hpath2.symm
      clear hrun2 hpath2
      go_wp2_with fail
      go_ret
      exact ⟨by rw [unhide Hfin]; rfl, sv, _, false, by rw [unhide Hfin]; exact unhide hM, by rw [unhide Hfin]; exact unhide hS, by rw [unhide Hfip]; exact unhide hPt, unhide hB⟩
end Go.Proofs.YtnkbfdbbcaffmaaGreatDoor
/-
  machine.Run, machine.Path.
-/
namespace Go.Proofs.YtnkbfdbbcaffmaaGreatDoor
open Go.RowKit

set_option maxHeartbeats 800000 in
set_option maxRecDepth 100000 in
theorem mRun_any (tx : ByteArray) (W : Nat) (view : Int) (n m fuel : Nat) (cs : List Cm) (cap : Nat) (ao : Option Addr) (kb : Nat) (ad : Addr) (cin : Nat) (zs : List Int) (w : World)
    (hW1 : 1 ≤ W) (hW : W ≤ 8) (hcs : CsOK (pw W) n cs) (hO : Own w kb (.slice ao cs.length cap) cs) (hcl : cs.length ≤ 1000) (hL : Lies w ad zs) (hz : zs.length = n + m) (hz2 : zs.length ≤ 100) (hfit : Fits (pw W) zs) (hfu : fuel ≤ 10000) (hv0 : 0 ≤ view) (hv1 : view ≤ 8) (z0 z1 : Int) :
    Calls Tryz.prog 87 #[.agg #[.int .i64 z0, .int .i64 z1, .string tx, .int .i64 W, .int .i64 (pw W), .int .i64 n, .int .i64 m, .slice ao cs.length cap], .int .i64 view, .slice (some ad) zs.length cin, .int .i64 fuel] w fun e w' =>
      ∃ gs, e = .returned (.agg #[.int .i64 (runP (pw W) view n m fuel cs (fuel + 1) 0 zs [] 0).tag, .int .i64 (runP (pw W) view n m fuel cs (fuel + 1) 0 zs [] 0).steps, .string (strOfNums (runP (pw W) view n m fuel cs (fuel + 1) 0 zs [] 0).sn), .slice (some ⟨gs, 0, none⟩) zs.length zs.length]) ∧
        At w' gs 3 (intsV (runP (pw W) view n m fuel cs (fuel + 1) 0 zs [] 0).σ) ∧ w.heap.size ≤ gs ∧ Below w.heap.size w w' := by
  have hlen := pathP_len (pw W) view n m fuel cs (fuel + 1) 0 zs [] 0
  have hσl := runP_len (pw W) view n m fuel cs (fuel + 1) 0 zs [] 0
  have hrun := fun w2 b gs hO hlt hM => mrun_any tx W view n m fuel cs cap ao kb zs w2 b gs hW1 hW hcs hO hlt hcl hz hz2 hfit hfu hv0 hv1 hM
  generalize runP (pw W) view n m fuel cs (fuel + 1) 0 zs [] 0 = R at *
  generalize pathP (pw W) view n m fuel cs (fuel + 1) 0 zs 0 = P at *
  have Hrun := hide hrun
  have Hσl := hide hσl
  have Hlen : Hid (R.steps = P.length) := by rw [hlen]; simp [Hid]
  clear hrun hσl hlen hcs hfit hz hfu hv0 hv1 hW1 hW hcl
  go_enter Tryz.func87, Tryz.ntmps87
  go_wp2_with fail
  refine (mbegin_any tx W (pw W) n m view ad cin zs hz2 _ (by exact hL.grown (gb_alloc (gb_alloc (gb_refl w none) _) _) (by simp))).mono ?_
  rintro e w1 ⟨gs, rfl, hA1, hgs, hg1⟩
  have hgsl := hA1.lt
  have hb1 := hg1.size
  simp at hb1
  have hK2 : At (w1.alloc (.cells #[.string tx, .int .i64 W, .int .i64 (pw W), .int .i64 n, .int .i64 m, .int .i64 view, .slice (some ⟨gs, 0, none⟩) zs.length zs.length, .slice none 0 0, .slice none 0 0, .bool false] 127)) w.heap.size 44 #[.int .i64 z0, .int .i64 z1, .string tx, .int .i64 W, .int .i64 (pw W), .int .i64 n, .int .i64 m, .slice ao cs.length cap] := At.alloc (At.grown (At.alloc (At.new w _ _) _) hg1 (by simp)) _
  have hR2 : At (w1.alloc (.cells #[.string tx, .int .i64 W, .int .i64 (pw W), .int .i64 n, .int .i64 m, .int .i64 view, .slice (some ⟨gs, 0, none⟩) zs.length zs.length, .slice none 0 0, .slice none 0 0, .bool false] 127)) (w.heap.size + 1) 52 #[.int .i64 0, .int .i64 0, .string ⟨#[]⟩, .slice none 0 0] := by
    have h := At.new (w.alloc (.cells #[.int .i64 z0, .int .i64 z1, .string tx, .int .i64 W, .int .i64 (pw W), .int .i64 n, .int .i64 m, .slice ao cs.length cap] 44)) 52 #[.int .i64 0, .int .i64 0, .string ⟨#[]⟩, .slice none 0 0]
    rw [show (w.alloc (.cells #[.int .i64 z0, .int .i64 z1, .string tx, .int .i64 W, .int .i64 (pw W), .int .i64 n, .int .i64 m, .slice ao cs.length cap] 44)).heap.size = w.heap.size + 1 from by simp] at h
    exact At.alloc (At.grown h hg1 (by simp)) _
  have hO2 : Own (w1.alloc (.cells #[.string tx, .int .i64 W, .int .i64 (pw W), .int .i64 n, .int .i64 m, .int .i64 view, .slice (some ⟨gs, 0, none⟩) zs.length zs.length, .slice none 0 0, .slice none 0 0, .bool false] 127)) kb (.slice ao cs.length cap) cs := World.ownsRow.alloc (World.ownsRow.kept (World.ownsRow.alloc (World.ownsRow.alloc hO _) _) hg1 (by
      cases h' : (Value.slice ao cs.length cap).ownBlock with
      | none => exact .inl rfl
      | some k => exact .inr (by simp))) _
  have hlt2 : ∀ k, (Value.slice ao cs.length cap).ownBlock = some k → k < gs := fun k hk => by have := World.ownsRow.lt hO k hk; simp at hgs; omega
  have hM2 : Mac (w1.alloc (.cells #[.string tx, .int .i64 W, .int .i64 (pw W), .int .i64 n, .int .i64 m, .int .i64 view, .slice (some ⟨gs, 0, none⟩) zs.length zs.length, .slice none 0 0, .slice none 0 0, .bool false] 127)) w1.heap.size gs W (pw W) n m view zs (.slice none 0 0) (tx, .slice none 0 0) false := ⟨At.new w1 _ _, At.alloc hA1 _, hgsl⟩
  have hBel : Below w.heap.size w (w1.alloc (.cells #[.string tx, .int .i64 W, .int .i64 (pw W), .int .i64 n, .int .i64 m, .int .i64 view, .slice (some ⟨gs, 0, none⟩) zs.length zs.length, .slice none 0 0, .slice none 0 0, .bool false] 127)) := by
    refine Below.alloc ?_ (by omega) _
    have h1 := ((Below.refl w.heap.size w).alloc (Nat.le_refl _) (.cells #[.int .i64 z0, .int .i64 z1, .string tx, .int .i64 W, .int .i64 (pw W), .int .i64 n, .int .i64 m, .slice ao cs.length cap] 44)).alloc (by simp) (.cells #[.int .i64 0, .int .i64 0, .string ⟨#[]⟩, .slice none 0 0] 52)
    exact h1.trans ⟨hg1.os, hg1.tape, hg1.output, hg1.size, fun k hk => hg1.block k (by simp; omega) (by simp)⟩
  simp at hgs
  have hcall := unhide Hrun _ _ _ hO2 hlt2 hM2
  have HR2 := hide hR2
  have HBel := hide hBel
  have Hcall := hide hcall
  obtain ⟨k0, k1, k2, k3, k4, k5, k6, k7, kf⟩ := At.eight hK2
  clear hK2 hR2 hO2 hM2 hBel hO hL hA1 hg1 hcall hlt2 Hrun
  go_wp2_with fail
  refine (unhide Hcall).mono ?_
  rintro e w3 ⟨rfl, sv, pv, tr, hM3, hS3, hP3, hB3⟩
  have hR3 := (unhide HR2).below hB3 (by omega)
  have hBB := (unhide HBel).trans (hB3.mono (by omega))
  obtain ⟨pa, pc, rfl⟩ := hP3.shape
  obtain ⟨sa, sc, rfl⟩ := hS3.shape
  clear k0 k1 k2 k3 k4 k5 k6 k7 kf Hcall HR2 HBel
  obtain ⟨m0, m1, m2, m3, m4, m5, m6, m7, m8, mt, mf⟩ := hM3.nine
  dsimp only at m7
  have hcv := fun o => sn_conv (show Sn (w3.alloc o).drew w1.heap.size (.slice sa R.sn.length sc) R.sn from hS3.alloc o)
  have hcv2 := sn_conv (show Sn w3.drew w1.heap.size (.slice sa R.sn.length sc) R.sn from hS3)
  have hcv3 := sn_conv (show Sn w3 w1.heap.size (.slice sa R.sn.length sc) R.sn from hS3)
  generalize hstr : strOfNums R.sn = str at *
  have Hstr := hide hstr
  clear hstr
  have r0 := hR3.cell 0
  have r1 := hR3.cell 1
  have r2 := hR3.cell 2
  have r3 := hR3.cell 3
  have rf := fun j => hR3.frozen j
  simp at r0 r1 r2 r3
  go_wp2_with fail
  refine bodyPost_ret (v := .agg #[.int .i64 R.tag, .int .i64 P.length, .string str, .slice (some ⟨gs, 0, none⟩) R.σ.length R.σ.length]) (by simp [results, Tryz.results87, go_sem, r0, r1, r2, r3]) rfl ⟨gs, by rw [unhide Hlen, unhide Hσl, unhide Hstr], ?_, by omega, ?_⟩
  · exact (((hM3.2.1.other _ (by show w.heap.size + 1 ≠ gs; omega)).other _ (by show w.heap.size + 1 ≠ gs; omega)).other _ (by show w.heap.size + 1 ≠ gs; omega)).other _ (by show w.heap.size + 1 ≠ gs; omega)
  · exact (((hBB.setCell (Nat.le_succ _) _).setCell (Nat.le_succ _) _).setCell (Nat.le_succ _) _).setCell (Nat.le_succ _) _

set_option maxHeartbeats 800000 in
set_option maxRecDepth 100000 in
theorem mPath_any (tx : ByteArray) (W : Nat) (n m fuel : Nat) (cs : List Cm) (cap : Nat) (ao : Option Addr) (kb : Nat) (ad : Addr) (cin : Nat) (zs : List Int) (w : World)
    (hW1 : 1 ≤ W) (hW : W ≤ 8) (hcs : CsOK (pw W) n cs) (hO : Own w kb (.slice ao cs.length cap) cs) (hcl : cs.length ≤ 1000) (hL : Lies w ad zs) (hz : zs.length = n + m) (hz2 : zs.length ≤ 100) (hfit : Fits (pw W) zs) (hfu : fuel ≤ 10000) (z0 z1 : Int) :
    Calls Tryz.prog 62 #[.agg #[.int .i64 z0, .int .i64 z1, .string tx, .int .i64 W, .int .i64 (pw W), .int .i64 n, .int .i64 m, .slice ao cs.length cap], .slice (some ad) zs.length cin, .int .i64 fuel] w fun e w' =>
      ∃ pv b, e = .returned pv ∧ Pt w' b pv (pathP (pw W) 0 n m fuel cs (fuel + 1) 0 zs 0) ∧ w.heap.size ≤ b ∧ Below w.heap.size w w' := by
  have hrun := fun w2 b gs hO hlt hM => mrun_any tx W 0 n m fuel cs cap ao kb zs w2 b gs hW1 hW hcs hO hlt hcl hz hz2 hfit hfu (by omega) (by omega) hM
  generalize runP (pw W) 0 n m fuel cs (fuel + 1) 0 zs [] 0 = R at *
  generalize pathP (pw W) 0 n m fuel cs (fuel + 1) 0 zs 0 = P at *
  have Hrun := hide hrun
  clear hrun hcs hfit hz hfu hW1 hW hcl
  go_enter Tryz.func62, Tryz.ntmps62
  go_wp2_with fail
  refine (mbegin_any tx W (pw W) n m 0 ad cin zs hz2 _ (by exact hL.grown (gb_alloc (gb_refl w none) _) (by simp))).mono ?_
  rintro e w1 ⟨gs, rfl, hA1, hgs, hg1⟩
  have hgsl := hA1.lt
  have hb1 := hg1.size
  simp at hb1
  have hK2 : At (w1.alloc (.cells #[.string tx, .int .i64 W, .int .i64 (pw W), .int .i64 n, .int .i64 m, .int .i64 0, .slice (some ⟨gs, 0, none⟩) zs.length zs.length, .slice none 0 0, .slice none 0 0, .bool false] 127)) w.heap.size 44 #[.int .i64 z0, .int .i64 z1, .string tx, .int .i64 W, .int .i64 (pw W), .int .i64 n, .int .i64 m, .slice ao cs.length cap] := At.alloc (At.grown (At.new w _ _) hg1 (by simp)) _
  have hO2 : Own (w1.alloc (.cells #[.string tx, .int .i64 W, .int .i64 (pw W), .int .i64 n, .int .i64 m, .int .i64 0, .slice (some ⟨gs, 0, none⟩) zs.length zs.length, .slice none 0 0, .slice none 0 0, .bool false] 127)) kb (.slice ao cs.length cap) cs := World.ownsRow.alloc (World.ownsRow.kept (World.ownsRow.alloc hO _) hg1 (by
      cases h' : (Value.slice ao cs.length cap).ownBlock with
      | none => exact .inl rfl
      | some k => exact .inr (by simp))) _
  have hlt2 : ∀ k, (Value.slice ao cs.length cap).ownBlock = some k → k < gs := fun k hk => by have := World.ownsRow.lt hO k hk; simp at hgs; omega
  have hM2 : Mac (w1.alloc (.cells #[.string tx, .int .i64 W, .int .i64 (pw W), .int .i64 n, .int .i64 m, .int .i64 0, .slice (some ⟨gs, 0, none⟩) zs.length zs.length, .slice none 0 0, .slice none 0 0, .bool false] 127)) w1.heap.size gs W (pw W) n m 0 zs (.slice none 0 0) (tx, .slice none 0 0) false := ⟨At.new w1 _ _, At.alloc hA1 _, hgsl⟩
  have hBel : Below w.heap.size w (w1.alloc (.cells #[.string tx, .int .i64 W, .int .i64 (pw W), .int .i64 n, .int .i64 m, .int .i64 0, .slice (some ⟨gs, 0, none⟩) zs.length zs.length, .slice none 0 0, .slice none 0 0, .bool false] 127)) := by
    refine Below.alloc ?_ (by omega) _
    have h1 := (Below.refl w.heap.size w).alloc (Nat.le_refl _) (.cells #[.int .i64 z0, .int .i64 z1, .string tx, .int .i64 W, .int .i64 (pw W), .int .i64 n, .int .i64 m, .slice ao cs.length cap] 44)
    exact h1.trans ⟨hg1.os, hg1.tape, hg1.output, hg1.size, fun k hk => hg1.block k (by simp; omega) (by simp)⟩
  simp at hgs
  have hcall := unhide Hrun _ _ _ hO2 hlt2 hM2
  have HBel := hide hBel
  have Hcall := hide hcall
  obtain ⟨k0, k1, k2, k3, k4, k5, k6, k7, kf⟩ := At.eight hK2
  clear hK2 hO2 hM2 hBel hO hL hA1 hg1 hcall hlt2 Hrun
  go_wp2_with fail
  refine (unhide Hcall).mono ?_
  rintro e w3 ⟨rfl, sv, pv, tr, hM3, hS3, hP3, hB3⟩
  have hBB := (unhide HBel).trans (hB3.mono (by omega))
  obtain ⟨pa, pc, rfl⟩ := hP3.shape
  clear k0 k1 k2 k3 k4 k5 k6 k7 kf Hcall HBel
  obtain ⟨m0, m1, m2, m3, m4, m5, m6, m7, m8, mt, mf⟩ := hM3.nine
  dsimp only at m7
  go_wp2_with fail
  go_ret
  exact ⟨_, w1.heap.size, rfl, hP3, by omega, hBB⟩
end Go.Proofs.YtnkbfdbbcaffmaaGreatDoor
