import Derived.Test.YtnkbfdbbcaffmabX18KpE
import Derived.Test.YtnkbfdbbcaffmabX15Mk
import Derived.Test.YtnkbfdbbcaffmabX12Inp
/-
  machine.Run, machine.Path.
-/
namespace Go.Proofs.Ytnkbfdbbcaffmab
open Go.RowKit

set_option maxHeartbeats 800000 in
set_option maxRecDepth 100000 in
theorem mRun_any (tx : ByteArray) (W : Nat) (view : Int) (n m fuel : Nat) (cs : List Cm) (cap : Nat) (ao : Option Addr) (kb : Nat) (ad : Addr) (cin : Nat) (zs : List Int) (w : World)
    (hW1 : 1 ≤ W) (hW : W ≤ 8) (hcs : CsOK (pw W) n cs) (hO : Own w kb (.slice ao cs.length cap) cs) (hcl : cs.length ≤ 1000) (hL : Lies w ad zs) (hz : zs.length = n + m) (hz2 : zs.length ≤ 100) (hfit : Fits (pw W) zs) (hfu : fuel ≤ 10000) (hv0 : 0 ≤ view) (hv1 : view ≤ 8) (z0 z1 : Int) :
    Calls Try.prog 42 #[.agg #[.int .i64 z0, .int .i64 z1, .string tx, .int .i64 W, .int .i64 (pw W), .int .i64 n, .int .i64 m, .slice ao cs.length cap], .int .i64 view, .slice (some ad) zs.length cin, .int .i64 fuel] w fun e w' =>
      ∃ gs, e = .returned (.agg #[.int .i64 (runP (pw W) view n m fuel cs (fuel + 1) 0 zs [] 0).tag, .int .i64 (runP (pw W) view n m fuel cs (fuel + 1) 0 zs [] 0).steps, .string (strOfNums (runP (pw W) view n m fuel cs (fuel + 1) 0 zs [] 0).sn), .slice (some ⟨gs, 0, none⟩) zs.length zs.length]) ∧
        At w' gs 3 (intsV (runP (pw W) view n m fuel cs (fuel + 1) 0 zs [] 0).σ) ∧ w.heap.size ≤ gs ∧ Below w.heap.size w w' := by
  have hlen := pathP_len (pw W) view n m fuel cs (fuel + 1) 0 zs [] 0
  have hσl := runP_len (pw W) view n m fuel cs (fuel + 1) 0 zs [] 0
  have hrun := fun w2 b gs hO hlt hM => mrun_any tx W view n m fuel cs cap ao kb zs w2 b gs hW1 hW hcs hO hlt hcl hz hz2 hfit hfu hv0 hv1 hM
  generalize runP (pw W) view n m fuel cs (fuel + 1) 0 zs [] 0 = R at *
  generalize pathP (pw W) view n m fuel cs (fuel + 1) 0 zs 0 = P at *
  have Hrun := hide hrun
  have Hσl := hide hσl
  have Hlen : Hid (R.steps = P.length) := by rw [hlen]; simp [Hid]
  clear hrun hσl hlen hcs hfit hz hfu hv0 hv1 hW1 hW hcl
  go_enter Try.func42, Try.ntmps42
  go_wp2_with fail
  refine (mbegin_any tx W (pw W) n m view ad cin zs hz2 _ (by exact hL.grown (gb_alloc (gb_alloc (gb_refl w none) _) _) (by simp))).mono ?_
  rintro e w1 ⟨gs, rfl, hA1, hgs, hg1⟩
  have hgsl := hA1.lt
  have hb1 := hg1.size
  simp at hb1
  have hK2 : At (w1.alloc (.cells #[.string tx, .int .i64 W, .int .i64 (pw W), .int .i64 n, .int .i64 m, .int .i64 view, .slice (some ⟨gs, 0, none⟩) zs.length zs.length, .slice none 0 0, .slice none 0 0, .bool false] 97)) w.heap.size 56 #[.int .i64 z0, .int .i64 z1, .string tx, .int .i64 W, .int .i64 (pw W), .int .i64 n, .int .i64 m, .slice ao cs.length cap] := At.alloc (At.grown (At.alloc (At.new w _ _) _) hg1 (by simp)) _
  have hR2 : At (w1.alloc (.cells #[.string tx, .int .i64 W, .int .i64 (pw W), .int .i64 n, .int .i64 m, .int .i64 view, .slice (some ⟨gs, 0, none⟩) zs.length zs.length, .slice none 0 0, .slice none 0 0, .bool false] 97)) (w.heap.size + 1) 32 #[.int .i64 0, .int .i64 0, .string ⟨#[]⟩, .slice none 0 0] := by
    have h := At.new (w.alloc (.cells #[.int .i64 z0, .int .i64 z1, .string tx, .int .i64 W, .int .i64 (pw W), .int .i64 n, .int .i64 m, .slice ao cs.length cap] 56)) 32 #[.int .i64 0, .int .i64 0, .string ⟨#[]⟩, .slice none 0 0]
    rw [show (w.alloc (.cells #[.int .i64 z0, .int .i64 z1, .string tx, .int .i64 W, .int .i64 (pw W), .int .i64 n, .int .i64 m, .slice ao cs.length cap] 56)).heap.size = w.heap.size + 1 from by simp] at h
    exact At.alloc (At.grown h hg1 (by simp)) _
  have hO2 : Own (w1.alloc (.cells #[.string tx, .int .i64 W, .int .i64 (pw W), .int .i64 n, .int .i64 m, .int .i64 view, .slice (some ⟨gs, 0, none⟩) zs.length zs.length, .slice none 0 0, .slice none 0 0, .bool false] 97)) kb (.slice ao cs.length cap) cs := World.ownsRow.alloc (World.ownsRow.kept (World.ownsRow.alloc (World.ownsRow.alloc hO _) _) hg1 (by
      cases h' : (Value.slice ao cs.length cap).ownBlock with
      | none => exact .inl rfl
      | some k => exact .inr (by simp))) _
  have hlt2 : ∀ k, (Value.slice ao cs.length cap).ownBlock = some k → k < gs := fun k hk => by have := World.ownsRow.lt hO k hk; simp at hgs; omega
  have hM2 : Mac (w1.alloc (.cells #[.string tx, .int .i64 W, .int .i64 (pw W), .int .i64 n, .int .i64 m, .int .i64 view, .slice (some ⟨gs, 0, none⟩) zs.length zs.length, .slice none 0 0, .slice none 0 0, .bool false] 97)) w1.heap.size gs W (pw W) n m view zs (.slice none 0 0) (tx, .slice none 0 0) false := ⟨At.new w1 _ _, At.alloc hA1 _, hgsl⟩
  have hBel : Below w.heap.size w (w1.alloc (.cells #[.string tx, .int .i64 W, .int .i64 (pw W), .int .i64 n, .int .i64 m, .int .i64 view, .slice (some ⟨gs, 0, none⟩) zs.length zs.length, .slice none 0 0, .slice none 0 0, .bool false] 97)) := by
    refine Below.alloc ?_ (by omega) _
    have h1 := ((Below.refl w.heap.size w).alloc (Nat.le_refl _) (.cells #[.int .i64 z0, .int .i64 z1, .string tx, .int .i64 W, .int .i64 (pw W), .int .i64 n, .int .i64 m, .slice ao cs.length cap] 56)).alloc (by simp) (.cells #[.int .i64 0, .int .i64 0, .string ⟨#[]⟩, .slice none 0 0] 32)
    exact h1.trans ⟨hg1.os, hg1.tape, hg1.output, hg1.size, fun k hk => hg1.block k (by simp; omega) (by simp)⟩
  simp at hgs
  have hcall := unhide Hrun _ _ _ hO2 hlt2 hM2
  have HR2 := hide hR2
  have HBel := hide hBel
  have Hcall := hide hcall
  obtain ⟨k0, k1, k2, k3, k4, k5, k6, k7, kf⟩ := At.eight hK2
  clear hK2 hR2 hO2 hM2 hBel hO hL hA1 hg1 hcall hlt2 Hrun
  go_wp2_with fail
  refine (unhide Hcall).mono ?_
  rintro e w3 ⟨rfl, sv, pv, tr, hM3, hS3, hP3, hB3⟩
  have hR3 := (unhide HR2).below hB3 (by omega)
  have hBB := (unhide HBel).trans (hB3.mono (by omega))
  obtain ⟨pa, pc, rfl⟩ := hP3.shape
  obtain ⟨sa, sc, rfl⟩ := hS3.shape
  clear k0 k1 k2 k3 k4 k5 k6 k7 kf Hcall HR2 HBel
  obtain ⟨m0, m1, m2, m3, m4, m5, m6, m7, m8, mt, mf⟩ := hM3.nine
  dsimp only at m7
  have hcv := fun o => sn_conv (show Sn (w3.alloc o).drew w1.heap.size (.slice sa R.sn.length sc) R.sn from hS3.alloc o)
  have hcv2 := sn_conv (show Sn w3.drew w1.heap.size (.slice sa R.sn.length sc) R.sn from hS3)
  have hcv3 := sn_conv (show Sn w3 w1.heap.size (.slice sa R.sn.length sc) R.sn from hS3)
  generalize hstr : strOfNums R.sn = str at *
  have Hstr := hide hstr
  clear hstr
  have r0 := hR3.cell 0
  have r1 := hR3.cell 1
  have r2 := hR3.cell 2
  have r3 := hR3.cell 3
  have rf := fun j => hR3.frozen j
  simp at r0 r1 r2 r3
  go_wp2_with fail
  refine bodyPost_ret (v := .agg #[.int .i64 R.tag, .int .i64 P.length, .string str, .slice (some ⟨gs, 0, none⟩) R.σ.length R.σ.length]) (by simp [results, Try.results42, go_sem, r0, r1, r2, r3]) rfl ⟨gs, by rw [unhide Hlen, unhide Hσl, unhide Hstr], ?_, by omega, ?_⟩
  · exact (((hM3.2.1.other _ (by show w.heap.size + 1 ≠ gs; omega)).other _ (by show w.heap.size + 1 ≠ gs; omega)).other _ (by show w.heap.size + 1 ≠ gs; omega)).other _ (by show w.heap.size + 1 ≠ gs; omega)
  · exact (((hBB.setCell (Nat.le_succ _) _).setCell (Nat.le_succ _) _).setCell (Nat.le_succ _) _).setCell (Nat.le_succ _) _

end Go.Proofs.Ytnkbfdbbcaffmab
/-
  refusal.
-/
namespace Go.Proofs.Ytnkbfdbbcaffmab
open Go.RowKit

set_option maxHeartbeats 1000000 in
theorem refusal_any (tx : ByteArray) (z1 : Int) (cv : Value) (W V : Int) (n m : Nat) (view fuel : Int) (ab ao cin : Nat) (zs : List Int) (hl : zs.length ≤ 9223372036854775807) (hn : n ≤ 100) (hm : m ≤ 100) (w : World) (hL : Lies w ⟨ab, ao, none⟩ zs) :
    Calls Try.prog 41 #[.agg #[.int .i64 0, .int .i64 z1, .string tx, .int .i64 W, .int .i64 V, .int .i64 n, .int .i64 m, cv], .int .i64 view, .slice (some ⟨ab, ao, none⟩) zs.length cin, .int .i64 fuel] w fun e w' => e = .returned (.int .i64 (rfs V (n + m) view zs fuel)) ∧ w.grownBy w' none := by
  generalize hr : rfs V (n + m) view zs fuel = r
  have Hr := hide hr
  clear hr
  have hL1 := hL.grown (gb_alloc (gb_refl w none) (.cells #[.int .i64 0, .int .i64 z1, .string tx, .int .i64 W, .int .i64 V, .int .i64 n, .int .i64 m, cv] 56)) (by simp)
  have hin := hide (isInput_any tx W V n m ab ao cin zs hl hn hm _ hL1)
  clear hL1
  by_cases hv : view < 0 ∨ 8 < view
  · have hrf : 4 = r := by rw [← unhide Hr, rfs, if_pos hv]
    have Hrf := hide hrf
    clear hrf
    rcases hv with hv | hv
    · go_enter Try.func41, Try.ntmps41
      go_wp2_with fail
      go_ret
      exact ⟨ret_int (unhide Hrf), gb_alloc (gb_refl _ _) _⟩
    · have hd : decide (view < 0) = false := by simp; omega
      go_enter Try.func41, Try.ntmps41
      go_wp2_with fail
      go_ret
      exact ⟨ret_int (unhide Hrf), gb_alloc (gb_refl _ _) _⟩
  · have hd : decide (view < 0) = false := by simp; omega
    have hd2 : decide (8 < view) = false := by simp; omega
    cases hi : inB V (n + m) zs with
    | false =>
      have hrf : 5 = r := by rw [← unhide Hr, rfs, if_neg hv, if_pos hi]
      have Hrf := hide hrf
      have Hi := hide hi
      clear hrf hv hi
      go_enter Try.func41, Try.ntmps41
      go_wp2_with fail
      refine (unhide hin).mono ?_
      rintro e w2 ⟨rfl, hg⟩
      rw [unhide Hi]
      go_wp2_with fail
      go_ret
      exact ⟨ret_int (unhide Hrf), gb_trans (gb_alloc (gb_refl _ _) _) hg⟩
    | true =>
      have Hi := hide hi
      by_cases hf : fuel < 0 ∨ 10000 < fuel
      · have hrf : 6 = r := by rw [← unhide Hr, rfs, if_neg hv, if_neg (by rw [hi]; simp), if_pos hf]
        have Hrf := hide hrf
        clear hrf hv hi
        rcases hf with hf | hf
        · go_enter Try.func41, Try.ntmps41
          go_wp2_with fail
          refine (unhide hin).mono ?_
          rintro e w2 ⟨rfl, hg⟩
          rw [unhide Hi]
          go_wp2_with fail
          go_ret
          exact ⟨ret_int (unhide Hrf), gb_trans (gb_alloc (gb_refl _ _) _) hg⟩
        · have hd3 : decide (fuel < 0) = false := by simp; omega
          go_enter Try.func41, Try.ntmps41
          go_wp2_with fail
          refine (unhide hin).mono ?_
          rintro e w2 ⟨rfl, hg⟩
          rw [unhide Hi]
          go_wp2_with fail
          go_ret
          exact ⟨ret_int (unhide Hrf), gb_trans (gb_alloc (gb_refl _ _) _) hg⟩
      · have hrf : 0 = r := by rw [← unhide Hr, rfs, if_neg hv, if_neg (by rw [hi]; simp), if_neg hf]
        have hd3 : decide (fuel < 0) = false := by simp; omega
        have hd4 : decide (10000 < fuel) = false := by simp; omega
        have Hrf := hide hrf
        clear hrf hv hi hf
        go_enter Try.func41, Try.ntmps41
        go_wp2_with fail
        refine (unhide hin).mono ?_
        rintro e w2 ⟨rfl, hg⟩
        rw [unhide Hi]
        go_wp2_with fail
        go_ret
        exact ⟨ret_int (unhide Hrf), gb_trans (gb_alloc (gb_refl _ _) _) hg⟩

set_option maxHeartbeats 1000000 in
theorem refusal_err (e z1 : Int) (tx : ByteArray) (W V n m : Int) (ao : Option Addr) (cl cap : Nat) (view fuel : Int) (a1 : Option Addr) (l1 c1 : Nat) (he : e ≠ 0) (w : World) :
    Calls Try.prog 41 #[.agg #[.int .i64 e, .int .i64 z1, .string tx, .int .i64 W, .int .i64 V, .int .i64 n, .int .i64 m, .slice ao cl cap], .int .i64 view, .slice a1 l1 c1, .int .i64 fuel] w fun e' w' => e' = .returned (.int .i64 e) ∧ w.grownBy w' none := by
  have hb : (e != 0) = true := by simpa using he
  clear he
  go_enter Try.func41, Try.ntmps41
  go_wp2_with fail
  go_ret
  exact ⟨rfl, gb_alloc (gb_refl _ _) _⟩
end Go.Proofs.Ytnkbfdbbcaffmab
