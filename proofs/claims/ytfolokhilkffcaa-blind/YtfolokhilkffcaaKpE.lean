/-
  Kernel.
-/
import Derived.Test.YtfolokhilkffcaaKpD
namespace Go.Proofs.Ytfolokhilkffcaa
open Go.RowKit

theorem one_convI (w : World) (z : Int) : (convert 48 9 (.slice (some ⟨w.heap.size, 0, none⟩) 1 1)).run Try.prog (w.alloc (.cells #[.int .u8 z] 5)) = .ok (.string (strOfNums [z])) (w.alloc (.cells #[.int .u8 z] 5)) := by
  refine run_convert_bytes_arg (P := Try.prog) _ 48 5 Try.underlying48 Try.underlying5 w.heap.size 0 1 1 [z] rfl (fun i hi => ?_) 9 Try.underlying9
  have e : i = 0 := by omega
  subst e
  have h := At.cell (At.new w 5 #[.int .u8 z]) 0
  show World.cell? _ _ = _
  rw [Nat.zero_add, h]; rfl

set_option maxRecDepth 20000 in
set_option maxHeartbeats 2000000 in
theorem kernel_any (ao : Option Addr) (cin : Nat) (zs : List Int) (hz : zs.length ≤ 9223372036854775806) (hzz : ∀ z ∈ zs, inI z) (w : World) (hL : LiesO w ao zs) :
    Calls Try.prog 6 #[.slice ao zs.length cin, .bool true] w fun e w' => ∃ (s ks : ByteArray) (W n m : Nat), e = .returned (.agg #[.string s, .string ks, .int .i64 W, .int .i64 n]) ∧ KOK s ks W n m ∧ Below w.heap.size w w' := by
  have hM0 : Mkr ((w.alloc (.cells #[.string ⟨#[]⟩, .string ⟨#[]⟩, .int .i64 0, .int .i64 0] 24)).alloc (.cells #[.slice ao zs.length cin, .int .i64 0, .string ⟨#[]⟩, .int .i64 0, .bool true] 45)) (w.heap.size + 1) ao cin zs 0 ⟨#[]⟩ 0 := by
    refine ⟨?_, ?_, Nat.zero_le _, hz, hzz⟩
    · have h := At.new (w.alloc (.cells #[.string ⟨#[]⟩, .string ⟨#[]⟩, .int .i64 0, .int .i64 0] 24)) 45 #[.slice ao zs.length cin, .int .i64 0, .string ⟨#[]⟩, .int .i64 0, .bool true]
      simpa using h
    · rcases hL with h | ⟨ab, off, h1, h2, h3⟩
      · exact .inl h
      · exact .inr ⟨ab, off, h1, h2.grown (gb_alloc (gb_alloc (gb_refl w none) _) _) (by simp), by omega⟩
  have hR0 : At ((w.alloc (.cells #[.string ⟨#[]⟩, .string ⟨#[]⟩, .int .i64 0, .int .i64 0] 24)).alloc (.cells #[.slice ao zs.length cin, .int .i64 0, .string ⟨#[]⟩, .int .i64 0, .bool true] 45)) w.heap.size 24 #[.string ⟨#[]⟩, .string ⟨#[]⟩, .int .i64 0, .int .i64 0] := (At.new w _ _).alloc _
  have HM0 := hide hM0
  have HR0 := hide hR0
  have hB0 := hide (((Below.refl w.heap.size w).alloc (Nat.le_refl _) (.cells #[.string ⟨#[]⟩, .string ⟨#[]⟩, .int .i64 0, .int .i64 0] 24)).alloc (by simp) (.cells #[.slice ao zs.length cin, .int .i64 0, .string ⟨#[]⟩, .int .i64 0, .bool true] 45))
  clear hM0 hL hzz hR0
  go_enter Try.func6, Try.ntmps6
  go_wp2_with fail
  refine (mpick_any (unhide HM0) 8 (by omega) (by omega)).mono ?_
  rintro e w1 ⟨k1, at1, rfl, hk1, _, hM1, hg1⟩
  have HR1 := hide ((unhide HR0).grown hg1 (by simp))
  have hB1 := hide ((unhide hB0).trans (⟨hg1.os, hg1.tape, hg1.output, hg1.size, fun k hk => hg1.block k (by simp; omega) (by simp; omega)⟩ : Below w.heap.size _ w1))
  have HM1 := hide hM1
  clear hM1 HM0 HR0 hg1 hB0
  go_wp2_with fail
  refine (mpick_any (unhide HM1) 8 (by omega) (by omega)).mono ?_
  rintro e w2 ⟨k2, at2, rfl, hk2, _, hM2, hg2⟩
  have hs1 : w.heap.size < w1.heap.size := At.lt (unhide HR1)
  have HR2 := hide ((unhide HR1).grown hg2 (by simp))
  have hB2 := hide ((unhide hB1).trans (⟨hg2.os, hg2.tape, hg2.output, hg2.size, fun k hk => hg2.block k (by omega) (by simp; omega)⟩ : Below w.heap.size _ w2))
  have HM2 := hide hM2
  clear hM2 HM1 HR1 hg2 hB1
  go_wp2_with fail
  obtain ⟨W, hW⟩ : ∃ W : Nat, (k1 : Int) + 1 = (W : Int) := ⟨k1 + 1, by omega⟩
  obtain ⟨n, hn⟩ : ∃ n : Nat, (k2 : Int) + 1 = (n : Int) := ⟨k2 + 1, by omega⟩
  rw [hW, hn]
  have hW1 : 1 ≤ W := by omega
  have hW8 : W ≤ 8 := by omega
  have hn1 : 1 ≤ n := by omega
  have hn8 : n ≤ 8 := by omega
  clear hW hn hk1 hk2
  refine (kinds_any (unhide HM2) n (by omega)).mono ?_
  rintro e w3 ⟨vs, at3, rfl, hvs, hvl, hM3, hg3⟩
  have hs2 : w.heap.size < w2.heap.size := At.lt (unhide HR2)
  have HR3 := hide ((unhide HR2).grown hg3 (by simp))
  have hB3 := hide ((unhide hB2).trans (⟨hg3.os, hg3.tape, hg3.output, hg3.size, fun k hk => hg3.block k (by omega) (by simp; omega)⟩ : Below w.heap.size _ w3))
  have HM3 := hide hM3
  have Hvl := hide hvl
  clear hM3 HM2 HR2 hg3 hB2 hvl
  go_wp2_with fail
  refine (mpick_any (unhide HM3) 17 (by omega) (by omega)).mono ?_
  rintro e w4 ⟨m, at4, rfl, hm, _, hM4, hg4⟩
  have hs3 : w.heap.size < w3.heap.size := At.lt (unhide HR3)
  have HR4 := hide ((unhide HR3).grown hg4 (by simp))
  have hB4 := hide ((unhide hB3).trans (⟨hg4.os, hg4.tape, hg4.output, hg4.size, fun k hk => hg4.block k (by omega) (by simp; omega)⟩ : Below w.heap.size _ w4))
  have HM4 := hide hM4
  clear hM4 HM3 HR3 hg4 hB3
  go_wp2_with fail
  refine (kinds_any (unhide HM4) m (by omega)).mono ?_
  rintro e w5 ⟨ws, at5, rfl, hws, hwl, hM5, hg5⟩
  have hs4 : w.heap.size < w4.heap.size := At.lt (unhide HR4)
  have HR5 := hide ((unhide HR4).grown hg5 (by simp))
  have hB5 := hide ((unhide hB4).trans (⟨hg5.os, hg5.tape, hg5.output, hg5.size, fun k hk => hg5.block k (by omega) (by simp; omega)⟩ : Below w.heap.size _ w5))
  have HM5 := hide hM5
  have Hwl := hide hwl
  clear HM4 HR4 hg5 hB4 hwl
  obtain ⟨m0, m1, m2, m3, m4, mf⟩ := hM5.five
  have hcv := one_convI (w5.setCell ⟨w.heap.size + 1, 3, none⟩ (.int .i64 n)) (48 + W)
  rw [show (w5.setCell ⟨w.heap.size + 1, 3, none⟩ (.int .i64 n)).heap.size = w5.heap.size from by simp [World.setCell]] at hcv
  obtain ⟨d, hd⟩ : ∃ d : UInt8, (d.toNat : Int) = 48 + W := ⟨UInt8.ofNat (48 + W), by rw [ofNat_toNat _ (by omega)]; omega⟩
  have hst : (strOfNums [(48 + W : Int)]).data.toList = [d] := by rw [← hd]; simp [strOfNums]
  have hsz : (strOfNums [(48 + W : Int)]).size = 1 := by rw [size_list, hst]; rfl
  generalize strOfNums [(48 + W : Int)] = sc at *
  have Hd := hide hd
  have Hst := hide hst
  have HM6 := hide (((hM5.setVars n)).grown (gb_alloc (gb_refl _ none) (.cells #[.int .u8 (48 + W)] 5)))
  have HMv := hide (hM5.setVars n)
  have HRv := hide ((unhide HR5).other (a := ⟨w.heap.size + 1, 3, none⟩) (.int .i64 n) (by simp))
  have HBv : Hid (Below w.heap.size w (w5.setCell ⟨w.heap.size + 1, 3, none⟩ (.int .i64 n))) := (unhide hB5).setCell (by simp) _
  have hs5 : w.heap.size < w5.heap.size := At.lt (unhide HR5)
  have hns1 : ¬ 9223372036854775807 < 1 + vs.size := by omega
  have hns2 : ¬ 9223372036854775807 < 1 + vs.size + 1 := by omega
  have hns3 : ¬ 9223372036854775807 < 1 + vs.size + 1 + ws.size := by omega
  have hns4 : ¬ 9223372036854775807 < 1 + vs.size + 1 + ws.size + 1 := by omega
  have hs5' : w.heap.size + 1 < w5.heap.size := At.lt hM5.1
  obtain ⟨q0, q1, q2, q3, q4, qf⟩ := (unhide HM6).five
  clear hM5 hd hst HM5 HR5 hB5
  go_wp2_with fail
  have hM7 := ((unhide HMv).setText (sc ++ vs ++ ⟨#[47]⟩ ++ ws ++ ⟨#[58]⟩)).grown (gb_alloc (gb_refl _ none) (.cells #[.int .u8 (48 + W)] 5))
  have hR7 := ((unhide HRv).other (a := ⟨w.heap.size + 1, 2, none⟩) (.string (sc ++ vs ++ ⟨#[47]⟩ ++ ws ++ ⟨#[58]⟩)) (by simp)).alloc (.cells #[.int .u8 (48 + W)] 5)
  have hB7 := ((unhide HBv).setCell (show w.heap.size ≤ (⟨w.heap.size + 1, 2, none⟩ : Addr).block by simp) (.string (sc ++ vs ++ ⟨#[47]⟩ ++ ws ++ ⟨#[58]⟩))).alloc (by simp [World.setCell]; omega) (.cells #[.int .u8 (48 + W)] 5)
  generalize ht : sc ++ vs ++ (⟨#[47]⟩ : ByteArray) ++ ws ++ (⟨#[58]⟩ : ByteArray) = text at *
  have hT : text.data.toList = d :: (vs.data.toList ++ 47 :: (ws.data.toList ++ [58])) := by
    rw [← ht]
    simp only [ByteArray.data_append, Array.toList_append, unhide Hst]
    simp
  have hvn : vs.data.toList.length = n := by rw [← size_list]; exact hvs
  have hwm : ws.data.toList.length = m := by rw [← size_list]; exact hws
  have hI := MI.start n d vs.data.toList ws.data.toList (by have := unhide Hd; omega) (unhide Hvl) (unhide Hwl) (by omega) (by omega) (by omega)
  rw [← hT] at hI
  refine (body_any hM7 hI hn1 hn8).mono ?_
  rintro e w8 ⟨rfl, t, at8, ⟨B, hB⟩, hMI, hM8, hg8⟩
  obtain ⟨c0, c1, c2, c3, c4, cf⟩ := hM8.five
  have hR8 := hR7.grown hg8 (by simp)
  have hs8 := hR7.lt
  have hB8 := hide (hB7.trans (⟨hg8.os, hg8.tape, hg8.output, hg8.size, fun k hk => hg8.block k (by omega) (by simp; omega)⟩ : Below w.heap.size _ w8))
  have hK : KOK t (vs ++ ws) W n m := by
    have h := made_ok (s := t) (ks := vs ++ ws) (d := d) (vs := vs.data.toList) (ws := ws.data.toList) (B := B) (W := W) (by rw [hB, hT]; simp) (by rw [hvn]; exact hMI) (unhide Hd) hW1 hW8 (unhide Hvl) (unhide Hwl) (by omega) (by omega) (by omega) (by rw [ByteArray.size_append, size_list, size_list])
    rw [hvn, hwm] at h; exact h
  have HK := hide hK
  have d0 := hR8.cell 0
  have d1 := hR8.cell 1
  have d2 := hR8.cell 2
  have d3 := hR8.cell 3
  have df := fun j => hR8.frozen j
  simp at d0 d1 d2 d3
  clear hK hMI hB hI hT ht hM7 hR7 hB7 q0 q1 q2 q3 q4 qf m0 m1 m2 m3 m4 mf HM6 HMv HRv HBv hcv hsz hg8
  go_wp2_with fail
  have hR9 := (((hR8.set 0 (.string t)).set 1 (.string (vs ++ ws))).set 2 (.int .i64 W)).set 3 (.int .i64 n)
  have e0 := hR9.cell 0
  have e1 := hR9.cell 1
  have e2 := hR9.cell 2
  have e3 := hR9.cell 3
  simp at e0 e1 e2 e3
  refine bodyPost_ret (v := .agg #[.string t, .string (vs ++ ws), .int .i64 W, .int .i64 n]) (by simp [results, Try.results6, go_sem, e0, e1, e2, e3]) rfl ⟨t, vs ++ ws, W, n, m, rfl, unhide HK, ?_⟩
  exact ((((unhide hB8).setCell (Nat.le_refl _) _).setCell (Nat.le_refl _) _).setCell (Nat.le_refl _) _).setCell (Nat.le_refl _) _
end Go.Proofs.Ytfolokhilkffcaa
