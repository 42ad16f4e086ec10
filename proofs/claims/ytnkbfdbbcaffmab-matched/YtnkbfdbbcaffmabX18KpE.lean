import Derived.Test.YtnkbfdbbcaffmabX17KpC
import Derived.Test.YtnkbfdbbcaffmabX11Kern
/-
  Kernel.
-/
namespace Go.Proofs.Ytnkbfdbbcaffmab
open Go.RowKit

theorem one_convI (w : World) (z : Int) : (convert 51 9 (.slice (some ⟨w.heap.size, 0, none⟩) 1 1)).run Try.prog (w.alloc (.cells #[.int .u8 z] 5)) = .ok (.string (strOfNums [z])) (w.alloc (.cells #[.int .u8 z] 5)) := by
  refine run_convert_bytes_arg (P := Try.prog) _ 51 5 Try.underlying51 Try.underlying5 w.heap.size 0 1 1 [z] rfl (fun i hi => ?_) 9 Try.underlying9
  have e : i = 0 := by omega
  subst e
  have h := At.cell (At.new w 5 #[.int .u8 z]) 0
  show World.cell? _ _ = _
  rw [Nat.zero_add, h]; rfl

set_option maxRecDepth 20000 in
set_option maxHeartbeats 2000000 in
theorem kernel_any (ao : Option Addr) (cin : Nat) (zs : List Int) (hz : zs.length ≤ 9223372036854775806) (hzz : ∀ z ∈ zs, inI z) (w : World) (hL : LiesO w ao zs) :
    Calls Try.prog 5 #[.slice ao zs.length cin, .bool true] w fun e w' => ∃ (s ks : ByteArray) (W n m : Nat), e = .returned (.agg #[.string s, .string ks, .int .i64 W, .int .i64 n]) ∧ KOK s ks W n m ∧ Below w.heap.size w w' := by
  have hM0 : Mkr ((w.alloc (.cells #[.string ⟨#[]⟩, .string ⟨#[]⟩, .int .i64 0, .int .i64 0] 24)).alloc (.cells #[.slice ao zs.length cin, .int .i64 0, .string ⟨#[]⟩, .int .i64 0, .bool true] 48)) (w.heap.size + 1) ao cin zs 0 ⟨#[]⟩ 0 := by
    refine ⟨?_, ?_, Nat.zero_le _, hz, hzz⟩
    · have h := At.new (w.alloc (.cells #[.string ⟨#[]⟩, .string ⟨#[]⟩, .int .i64 0, .int .i64 0] 24)) 48 #[.slice ao zs.length cin, .int .i64 0, .string ⟨#[]⟩, .int .i64 0, .bool true]
      simpa using h
    · rcases hL with h | ⟨ab, off, h1, h2, h3⟩
      · exact .inl h
      · exact .inr ⟨ab, off, h1, h2.grown (gb_alloc (gb_alloc (gb_refl w none) _) _) (by simp), by omega⟩
  have hR0 : At ((w.alloc (.cells #[.string ⟨#[]⟩, .string ⟨#[]⟩, .int .i64 0, .int .i64 0] 24)).alloc (.cells #[.slice ao zs.length cin, .int .i64 0, .string ⟨#[]⟩, .int .i64 0, .bool true] 48)) w.heap.size 24 #[.string ⟨#[]⟩, .string ⟨#[]⟩, .int .i64 0, .int .i64 0] := (At.new w _ _).alloc _
  have HM0 := hide hM0
  have HR0 := hide hR0
  have hB0 := hide (((Below.refl w.heap.size w).alloc (Nat.le_refl _) (.cells #[.string ⟨#[]⟩, .string ⟨#[]⟩, .int .i64 0, .int .i64 0] 24)).alloc (by simp) (.cells #[.slice ao zs.length cin, .int .i64 0, .string ⟨#[]⟩, .int .i64 0, .bool true] 48))
  clear hM0 hL hzz hR0
  go_enter Try.func5, Try.ntmps5
  go_wp2_with fail
  refine (mpick_any (unhide HM0) 8 (by omega) (by omega)).mono ?_
  rintro e w1 ⟨k1, at1, rfl, hk1, _, hM1, hg1⟩
  have HR1 := hide ((unhide HR0).grown hg1 (by simp))
  have hB1 := hide ((unhide hB0).trans (⟨hg1.os, hg1.tape, hg1.output, hg1.size, fun k hk => hg1.block k (by simp; omega) (by simp; omega)⟩ : Below w.heap.size _ w1))
  have HM1 := hide hM1
  clear hM1 HM0 HR0 hg1 hB0
  go_wp2_with fail
  refine (mpick_any (unhide HM1) 8 (by omega) (by omega)).mono ?_
  rintro e w2 ⟨k2, at2, rfl, hk2, _, hM2, hg2⟩
  have hs1 : w.heap.size < w1.heap.size := At.lt (unhide HR1)
  have HR2 := hide ((unhide HR1).grown hg2 (by simp))
  have hB2 := hide ((unhide hB1).trans (⟨hg2.os, hg2.tape, hg2.output, hg2.size, fun k hk => hg2.block k (by omega) (by simp; omega)⟩ : Below w.heap.size _ w2))
  have HM2 := hide hM2
  clear hM2 HM1 HR1 hg2 hB1
  go_wp2_with fail
  obtain ⟨W, hW⟩ : ∃ W : Nat, (k1 : Int) + 1 = (W : Int) := ⟨k1 + 1, by omega⟩
  obtain ⟨n, hn⟩ : ∃ n : Nat, (k2 : Int) + 1 = (n : Int) := ⟨k2 + 1, by omega⟩
  rw [hW, hn]
  have hW1 : 1 ≤ W := by omega
  have hW8 : W ≤ 8 := by omega
  have hn1 : 1 ≤ n := by omega
  have hn8 : n ≤ 8 := by omega
  clear hW hn hk1 hk2
  refine (kinds_any (unhide HM2) n (by omega)).mono ?_
  rintro e w3 ⟨vs, at3, rfl, hvs, hvl, hM3, hg3⟩
  have hs2 : w.heap.size < w2.heap.size := At.lt (unhide HR2)
  have HR3 := hide ((unhide HR2).grown hg3 (by simp))
  have hB3 := hide ((unhide hB2).trans (⟨hg3.os, hg3.tape, hg3.output, hg3.size, fun k hk => hg3.block k (by omega) (by simp; omega)⟩ : Below w.heap.size _ w3))
  have HM3 := hide hM3
  have Hvl := hide hvl
  clear hM3 HM2 HR2 hg3 hB2 hvl
  go_wp2_with fail
  refine (mpick_any (unhide HM3) 17 (by omega) (by omega)).mono ?_
  rintro e w4 ⟨m, at4, rfl, hm, _, hM4, hg4⟩
  have hs3 : w.heap.size < w3.heap.size := At.lt (unhide HR3)
  have HR4 := hide ((unhide HR3).grown hg4 (by simp))
  have hB4 := hide ((unhide hB3).trans (⟨hg4.os, hg4.tape, hg4.output, hg4.size, fun k hk => hg4.block k (by omega) (by simp; omega)⟩ : Below w.heap.size _ w4))
  have HM4 := hide hM4
  clear hM4 HM3 HR3 hg4 hB3
  go_wp2_with fail
  refine (kinds_any (unhide HM4) m (by omega)).mono ?_
  rintro e w5 ⟨ws, at5, rfl, hws, hwl, hM5, hg5⟩
  have hs4 : w.heap.size < w4.heap.size := At.lt (unhide HR4)
  have HR5 := hide ((unhide HR4).grown hg5 (by simp))
  have hB5 := hide ((unhide hB4).trans (⟨hg5.os, hg5.tape, hg5.output, hg5.size, fun k hk => hg5.block k (by omega) (by simp; omega)⟩ : Below w.heap.size _ w5))
  have HM5 := hide hM5
  have Hwl := hide hwl
  clear HM4 HR4 hg5 hB4 hwl
  obtain ⟨m0, m1, m2, m3, m4, mf⟩ := hM5.five
  have hcv := one_convI (w5.setCell ⟨w.heap.size + 1, 3, none⟩ (.int .i64 n)) (48 + W)
  rw [show (w5.setCell ⟨w.heap.size + 1, 3, none⟩ (.int .i64 n)).heap.size = w5.heap.size from by simp [World.setCell]] at hcv
  obtain ⟨d, hd⟩ : ∃ d : UInt8, (d.toNat : Int) = 48 + W := ⟨UInt8.ofNat (48 + W), by rw [ofNat_toNat _ (by omega)]; omega⟩
  have hst : (strOfNums [(48 + W : Int)]).data.toList = [d] := by rw [← hd]; simp [strOfNums]
  have hsz : (strOfNums [(48 + W : Int)]).size = 1 := by rw [size_list, hst]; rfl
  generalize strOfNums [(48 + W : Int)] = sc at *
  have Hd := hide hd
  have Hst := hide hst
  have HM6 := hide (((hM5.setVars n)).grown (gb_alloc (gb_refl _ none) (.cells #[.int .u8 (48 + W)] 5)))
  have HMv := hide (hM5.setVars n)
  have HRv := hide ((unhide HR5).other (a := ⟨w.heap.size + 1, 3, none⟩) (.int .i64 n) (by simp))
  have HBv : Hid (Below w.heap.size w (w5.setCell ⟨w.heap.size + 1, 3, none⟩ (.int .i64 n))) := (unhide hB5).setCell (by simp) _
  have hs5 : w.heap.size < w5.heap.size := At.lt (unhide HR5)
  have hns1 : ¬ 9223372036854775807 < 1 + vs.size := by omega
  have hns2 : ¬ 9223372036854775807 < 1 + vs.size + 1 := by omega
  have hns3 : ¬ 9223372036854775807 < 1 + vs.size + 1 + ws.size := by omega
  have hns4 : ¬ 9223372036854775807 < 1 + vs.size + 1 + ws.size + 1 := by omega
  have hs5' : w.heap.size + 1 < w5.heap.size := At.lt hM5.1
  obtain ⟨q0, q1, q2, q3, q4, qf⟩ := (unhide HM6).five
  clear hM5 hd hst HM5 HR5 hB5
  go_wp2_with fail
  have hM7 := ((unhide HMv).setText (sc ++ vs ++ ⟨#[47]⟩ ++ ws ++ ⟨#[58]⟩)).grown (gb_alloc (gb_refl _ none) (.cells #[.int .u8 (48 + W)] 5))
  have hR7 := ((unhide HRv).other (a := ⟨w.heap.size + 1, 2, none⟩) (.string (sc ++ vs ++ ⟨#[47]⟩ ++ ws ++ ⟨#[58]⟩)) (by simp)).alloc (.cells #[.int .u8 (48 + W)] 5)
  have hB7 := ((unhide HBv).setCell (show w.heap.size ≤ (⟨w.heap.size + 1, 2, none⟩ : Addr).block by simp) (.string (sc ++ vs ++ ⟨#[47]⟩ ++ ws ++ ⟨#[58]⟩))).alloc (by simp [World.setCell]; omega) (.cells #[.int .u8 (48 + W)] 5)
  generalize ht : sc ++ vs ++ (⟨#[47]⟩ : ByteArray) ++ ws ++ (⟨#[58]⟩ : ByteArray) = text at *
  have hT : text.data.toList = d :: (vs.data.toList ++ 47 :: (ws.data.toList ++ [58])) := by
    rw [← ht]
    simp only [ByteArray.data_append, Array.toList_append, unhide Hst]
    simp
  have hvn : vs.data.toList.length = n := by rw [← size_list]; exact hvs
  have hwm : ws.data.toList.length = m := by rw [← size_list]; exact hws
  have hI := MI.start n d vs.data.toList ws.data.toList (by have := unhide Hd; omega) (unhide Hvl) (unhide Hwl) (by omega) (by omega) (by omega)
  rw [← hT] at hI
  refine (body_any hM7 hI hn1 hn8).mono ?_
  rintro e w8 ⟨rfl, t, at8, ⟨B, hB⟩, hMI, hM8, hg8⟩
  obtain ⟨c0, c1, c2, c3, c4, cf⟩ := hM8.five
  have hR8 := hR7.grown hg8 (by simp)
  have hs8 := hR7.lt
  have hB8 := hide (hB7.trans (⟨hg8.os, hg8.tape, hg8.output, hg8.size, fun k hk => hg8.block k (by omega) (by simp; omega)⟩ : Below w.heap.size _ w8))
  have hK : KOK t (vs ++ ws) W n m := by
    have h := made_ok (s := t) (ks := vs ++ ws) (d := d) (vs := vs.data.toList) (ws := ws.data.toList) (B := B) (W := W) (by rw [hB, hT]; simp) (by rw [hvn]; exact hMI) (unhide Hd) hW1 hW8 (unhide Hvl) (unhide Hwl) (by omega) (by omega) (by omega) (by rw [ByteArray.size_append, size_list, size_list])
    rw [hvn, hwm] at h; exact h
  have HK := hide hK
  have d0 := hR8.cell 0
  have d1 := hR8.cell 1
  have d2 := hR8.cell 2
  have d3 := hR8.cell 3
  have df := fun j => hR8.frozen j
  simp at d0 d1 d2 d3
  clear hK hMI hB hI hT ht hM7 hR7 hB7 q0 q1 q2 q3 q4 qf m0 m1 m2 m3 m4 mf HM6 HMv HRv HBv hcv hsz hg8
  go_wp2_with fail
  have hR9 := (((hR8.set 0 (.string t)).set 1 (.string (vs ++ ws))).set 2 (.int .i64 W)).set 3 (.int .i64 n)
  have e0 := hR9.cell 0
  have e1 := hR9.cell 1
  have e2 := hR9.cell 2
  have e3 := hR9.cell 3
  simp at e0 e1 e2 e3
  refine bodyPost_ret (v := .agg #[.string t, .string (vs ++ ws), .int .i64 W, .int .i64 n]) (by simp [results, Try.results5, go_sem, e0, e1, e2, e3]) rfl ⟨t, vs ++ ws, W, n, m, rfl, unhide HK, ?_⟩
  exact ((((unhide hB8).setCell (Nat.le_refl _) _).setCell (Nat.le_refl _) _).setCell (Nat.le_refl _) _).setCell (Nat.le_refl _) _
end Go.Proofs.Ytnkbfdbbcaffmab
/-
  machine.run.
-/
namespace Go.Proofs.Ytnkbfdbbcaffmab
open Go.RowKit

/-- What holds behind a run: the machine's state, what is seen, the path. -/
def Done (w w' : World) (b gs : Nat) (W V n m view : Int) (tx : ByteArray) (R : Res) (P : List Int) : Prop :=
  ∃ sv pv tr, Mac w' b gs W V n m view R.σ sv (tx, pv) tr ∧ Sn w' b sv R.sn ∧ Pt w' b pv P ∧ Below gs w w'

set_option maxHeartbeats 4000000 in
set_option maxRecDepth 100000 in
theorem mrun_any (tx : ByteArray) (W : Nat) (view : Int) (n m fuel : Nat) (cs : List Cm) (cap : Nat) (ao : Option Addr) (kb : Nat) (zs : List Int) (w : World) (b gs : Nat)
    (hW1 : 1 ≤ W) (hW : W ≤ 8) (hcs : CsOK (pw W) n cs) (hO : Own w kb (.slice ao cs.length cap) cs) (hlt2 : ∀ k, (Value.slice ao cs.length cap).ownBlock = some k → k < gs) (hcl : cs.length ≤ 1000) (hz : zs.length = n + m) (hz2 : zs.length ≤ 100) (hfit : Fits (pw W) zs) (hfu : fuel ≤ 10000) (hv0 : 0 ≤ view) (hv1 : view ≤ 8)
    (hM0 : Mac w b gs W (pw W) n m view zs (.slice none 0 0) (tx, .slice none 0 0) false) :
    Calls Try.prog 62 #[.pointer (some ⟨b, 0, none⟩), .slice ao cs.length cap, .int .i64 fuel] w fun e w' =>
      e = .returned (.int .i64 (runP (pw W) view n m fuel cs (fuel + 1) 0 zs [] 0).tag) ∧ Done w w' b gs W (pw W) n m view tx (runP (pw W) view n m fuel cs (fuel + 1) 0 zs [] 0) (pathP (pw W) view n m fuel cs (fuel + 1) 0 zs 0) := by
  generalize hR : runP (pw W) view n m fuel cs (fuel + 1) 0 zs [] 0 = R
  generalize hP : pathP (pw W) view n m fuel cs (fuel + 1) 0 zs 0 = P
  have HR := hide hR
  have HP := hide hP
  have Hz := hide hz
  clear hR hz hP
  have HM2 := hide hM0
  have HO2 := hide hO
  have Hlt2 := hide hlt2
  have Hcs := hide hcs
  have Hfit := hide hfit
  clear hcs hfit hM0 hO hlt2
  obtain ⟨i0, hi0, hz0, hz1, hz3⟩ := info_parts Try.infoInt
  go_enter Try.func62, Try.ntmps62
  go_wp2_with fail
  go_loopg [7] (fuel + 1) (fun g i wr => ∃ (at_ : Int) (σ : List Int) (sv pv : Value) (sn ps : List Int), i = .int .i64 at_ ∧ 0 ≤ at_ ∧ Hid (Mac wr b gs W (pw W) n m view σ sv (tx, pv) false) ∧ Hid (Sn wr b sv sn) ∧ Hid (Pt wr b pv ps) ∧ Hid (Below gs w wr) ∧ Hid (Fits (pw W) σ) ∧ Hid (σ.length = zs.length) ∧ ps.length ≤ fuel ∧ sn.length ≤ 4 * ps.length ∧ Hid (g + ps.length = fuel + 1) ∧ Hid (runP (pw W) view n m fuel cs g at_ σ sn ps.length = R) ∧ Hid (ps ++ pathP (pw W) view n m fuel cs g at_ σ ps.length = P))
  case atStart => exact ⟨0, zs, .slice none 0 0, .slice none 0 0, [], [], rfl, by omega, HM2, World.ownsRow_nil _ _ _ _, World.ownsRow_nil _ _ _ _, Below.refl _ _, Hfit, rfl, by simp, by simp, rfl, HR, by simpa using HP⟩
  case round =>
    obtain ⟨at_, σ, sv, pv, sn, ps, rfl, hat, hM, hS, hPt, hB, hfit', hσl, hst, hsnl, hgs', hrun, hpath⟩ := hrel
    obtain ⟨k, rfl⟩ := Int.eq_ofNat_of_zero_le hat
    have hgk : 0 < gk := by have := unhide hgs'; omega
    obtain ⟨g, rfl⟩ : ∃ g, gk = g + 1 := ⟨gk - 1, by omega⟩
    obtain ⟨pa, pc, rfl⟩ := (unhide hPt).shape
    obtain ⟨m0, m1, m2, m3, m4, m5, m6, m7, m8, mt, mf⟩ := (unhide hM).nine
    dsimp only at m7
    have hrun2 := unhide hrun
    have hpath2 := unhide hpath
    rw [runP] at hrun2
    rw [pathP] at hpath2
    simp only [Int.toNat_natCast] at hrun2 hpath2
    clear hrun hpath
    by_cases hlt : k < cs.length
    · obtain ⟨c, hc⟩ : ∃ c, cs[k]? = some c := ⟨_, List.getElem?_eq_getElem hlt⟩
      rw [hc] at hrun2 hpath2
      dsimp only at hrun2 hpath2
      by_cases hfu2 : fuel ≤ ps.length
      · rw [if_pos hfu2] at hrun2 hpath2
        have Hfin : Hid (R = ⟨3, ps.length, sn, σ⟩) := hrun2.symm
        have Hfip : Hid (P = ps) := by rw [List.append_nil] at hpath2; exact hpath2.symm
        clear hrun2 hpath2 hc
        go_wp2_with fail
        go_ret
        exact ⟨by rw [unhide Hfin]; rfl, sv, _, false, by rw [unhide Hfin]; exact unhide hM, by rw [unhide Hfin]; exact unhide hS, by rw [unhide Hfip]; exact unhide hPt, unhide hB⟩
      · rw [if_neg hfu2] at hrun2 hpath2
        have hfu3 : ps.length < fuel := by omega
        have Hrun2 := hide hrun2
        have Hpath2 := hide hpath2
        clear hrun2 hpath2 hfu2
        have hbl : b < wr.heap.size := (unhide hM).1.lt
        go_wp2_with (at_builtin; refine wpList_append_own _ rfl (.tmp 23) (.tmp 25) 22 rfl (b + 1) 3 i0 (.int .i64 0) 1 8 Try.underlying22 hi0 hz0 hz1 hz3 rfl (by decide) (.slice pa ps.length pc) ps.length (ps.map fun c => Value.int .i64 c) rfl ?_ ⟨wr.heap.size, 0, none⟩ 1 1 [.int .i64 k] rfl rfl ?_ ?_ ?_ ?_ ?_ ?_)
        · exact World.ownsRow.alloc (unhide hPt) _
        · simp [Value.oneCell']
        · unfold maxLen; omega
        · omega
        · (try simp); omega
        · intro v' w' h1 h2 _
          obtain ⟨hM', hS', hP', hB', g', cap', rfl⟩ := pt_post (unhide hM) (unhide hS) (unhide hPt) (k : Int) _ h1 h2
          clear m0 m1 m2 m3 m4 m5 m6 m7 m8 mt mf h1 h2
          obtain ⟨m0, m1, m2, m3, m4, m5, m6, m7, m8, mt, mf⟩ := hM'.nine
          have hM2 := hM'.setPath (.slice (some ⟨g', 0, none⟩) (ps.length + 1) cap')
          have hS2 := hS'.set (a := ⟨b, 8, none⟩) (.slice (some ⟨g', 0, none⟩) (ps.length + 1) cap') (Nat.le_refl _)
          have hP2 := hP'.set (a := ⟨b, 8, none⟩) (.slice (some ⟨g', 0, none⟩) (ps.length + 1) cap') (Nat.le_refl _)
          have hB2 := ((unhide hB).trans hB').setCell (p := ⟨b, 8, none⟩) (Nat.le_of_lt hM'.2.2) (.slice (some ⟨g', 0, none⟩) (ps.length + 1) cap')
          dsimp only at hM2
          have hmem : c ∈ cs := List.mem_of_getElem? hc
          obtain ⟨hcok, hy0, hn0⟩ := unhide Hcs c hmem
          have hOr : Own (w'.setCell ⟨b, 8, none⟩ (.slice (some ⟨g', 0, none⟩) (ps.length + 1) cap')) kb (.slice ao cs.length cap) cs := own_below (unhide HO2) (unhide Hlt2) hB2
          obtain ⟨gc, capc, he, _⟩ := hOr.form (by rintro rfl; simp at hlt)
          simp at he
          obtain ⟨rfl, rfl⟩ := he
          have o0 := hOr.at_ hc 0 (by omega)
          have o1 := hOr.at_ hc 1 (by omega)
          have o2 := hOr.at_ hc 2 (by omega)
          have o3 := hOr.at_ hc 3 (by omega)
          have o4 := hOr.at_ hc 4 (by omega)
          have o5 := hOr.at_ hc 5 (by omega)
          have o6 := hOr.at_ hc 6 (by omega)
          have o7 := hOr.at_ hc 7 (by omega)
          have o8 := hOr.at_ hc 8 (by omega)
          have o9 := hOr.at_ hc 9 (by omega)
          have o10 := hOr.at_ hc 10 (by omega)
          simp [Cm.cells] at o0 o1 o2 o3 o4 o5 o6 o7 o8 o9 o10
          have hfits2 := act_fits (view := view) (m := m) hcok (unhide hfit') (by rw [unhide hσl, unhide Hz]) hW1
          have hσl2 := act_σlen (pw W) view n m σ c
          have hal := act_len (pw W) view n m σ c
          have hnx := act_next (V := pw W) (view := view) (n := n) (m := m) (σ := σ) hy0 hn0
          have hstep := mstep_any hcok hM2 hS2 hW (unhide hfit') (by rw [unhide hσl, unhide Hz]) (by rw [unhide hσl]; exact hz2) (by omega) hv0 hv1
          dsimp only [Cm.cells] at hstep
          have hrun2 := unhide Hrun2
          have hpath2 := unhide Hpath2
          generalize hact : act (pw W) view n m σ c = A at *
          clear hact
          obtain ⟨σ2, sn2, tr2, nx⟩ := A
          dsimp only at *
          have Hstep := hide hstep
          have Hfits2 := hide hfits2
          have Hσl2 : Hid (σ2.length = zs.length) := hσl2.trans (unhide hσl)
          have HP2 := hide hP2
          have HB2 := hide hB2
          have hgb := hM'.2.2
          clear hstep hfits2 hσl2 hOr hc hcok hmem hP2 hB2 hM2 hS2 hM' hS' hP' hB' Hrun2 Hpath2
          cases tr2 with
          | true =>
            rw [if_pos rfl] at hrun2 hpath2
            have Hfin : Hid (R = ⟨2, ps.length + 1, sn ++ sn2, σ2⟩) := hrun2.symm
            have Hfip : Hid (P = ps ++ [(k : Int)]) := hpath2.symm
            clear hrun2 hpath2
            go_wp2_with fail
            refine (unhide Hstep).mono ?_
            rintro e w3 ⟨rfl, sv3, hM3, hS3, hF3⟩
            clear m0 m1 m2 m3 m4 m5 m6 m7 m8 mt mf o0 o1 o2 o3 o4 o5 o6 o7 o8 o9 o10
            obtain ⟨m0, m1, m2, m3, m4, m5, m6, m7, m8, mt, mf⟩ := hM3.nine
            go_wp2_with fail
            go_ret
            exact ⟨by rw [unhide Hfin]; rfl, sv3, _, true, by rw [unhide Hfin]; exact hM3, by rw [unhide Hfin]; exact hS3, by rw [unhide Hfip]; exact (unhide HP2).fr hF3 hgb, (unhide HB2).trans hF3.below⟩
          | false =>
            rw [if_neg (by simp)] at hrun2 hpath2
            have Hrun2 := hide hrun2
            have Hpath2 := hide hpath2
            clear hrun2 hpath2
            go_wp2_with fail
            refine (unhide Hstep).mono ?_
            rintro e w3 ⟨rfl, sv3, hM3, hS3, hF3⟩
            clear m0 m1 m2 m3 m4 m5 m6 m7 m8 mt mf o0 o1 o2 o3 o4 o5 o6 o7 o8 o9 o10
            obtain ⟨m0, m1, m2, m3, m4, m5, m6, m7, m8, mt, mf⟩ := hM3.nine
            have HM3 := hide hM3
            have HS3 := hide hS3
            have HP3 := hide ((unhide HP2).fr hF3 hgb)
            have HB3 := hide ((unhide HB2).trans hF3.below)
            clear hM3 hS3 hF3 HP2 HB2
            go_wp2_with fail
            go_roundg g
            case measure => omega
            case rel => exact ⟨nx, σ2, sv3, _, sn ++ sn2, ps ++ [(k : Int)], rfl, hnx, HM3, HS3, HP3, HB3, Hfits2, Hσl2, by simp; omega, by simp; omega, by have := unhide hgs'; exact hide (by simp; omega), by rw [List.length_append]; exact Hrun2, by rw [List.length_append, List.append_assoc]; exact Hpath2⟩
    · rw [List.getElem?_eq_none (by omega)] at hrun2 hpath2
      dsimp only at hrun2 hpath2
      have Hfin : Hid (R = ⟨1, ps.length, sn, σ⟩) := hrun2.symm
      have Hfip : Hid (P = ps) := by rw [List.append_nil] at hpath2; exact hpath2.symm
      clear hrun2 hpath2
      go_wp2_with fail
      go_ret
      exact ⟨by rw [unhide Hfin]; rfl, sv, _, false, by rw [unhide Hfin]; exact unhide hM, by rw [unhide Hfin]; exact unhide hS, by rw [unhide Hfip]; exact unhide hPt, unhide hB⟩
end Go.Proofs.Ytnkbfdbbcaffmab
