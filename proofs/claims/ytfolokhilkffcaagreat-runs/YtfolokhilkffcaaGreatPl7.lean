/-
  source.
-/
import Derived.Test.YtfolokhilkffcaaGreatPl6
namespace Go.Proofs.YtfolokhilkffcaaGreat
open Go.RowKit

theorem not_empty {t : ByteArray} (h : 0 < t.size) : t.toList.isEmpty = false := by
  rw [ByteArray.toList_eq, List.isEmpty_eq_false_iff]
  intro e
  have := size_list t
  rw [e, List.length_nil] at this; omega
theorem is_empty {t : ByteArray} (h : t.data.toList = []) : t.toList.isEmpty = true := by
  rw [ByteArray.toList_eq, h]; rfl

section
variable {w w' : World} {b : Nat} {V : Int} {n m : Nat} {st : Int} {ks : ByteArray} {view : Int} {tag steps : Int} {t : ByteArray} {σ sn : List Int}

theorem PlS.drew (h : PlS w b V n m st ks view σ sn tag steps t) : PlS w.drew b V n m st ks view σ sn tag steps t := h

set_option maxHeartbeats 2000000 in
theorem source_plain {Q : World → Prop} (h : PlS w b V n m st ks view σ sn tag steps t) (fuel : Int) (hs0 : 0 ≤ steps) (hs1 : steps < fuel) (hf : fuel ≤ 10000) (h0 : 0 < t.size)
    (k : Int) (hk : (t[0].toNat : Int) = k) (k63 : (k == 63) = false) (k33 : (k == 33) = false) (N : Nat) (hN : szl k = N) (hNs : N ≤ t.size)
    (hpl : ∀ w0, PlS w0 b V n m st ks view σ sn tag (steps + 1) (t.extract N t.size) → Calls Tryz.prog 73 #[.pointer (some ⟨b, 0, none⟩), .string (t.extract 0 N)] w0 fun e w' => e = .returned (.tuple #[]) ∧ Q w' ∧ Below b w0 w') :
    Calls Tryz.prog 49 #[.pointer (some ⟨b, 0, none⟩), .int .i64 fuel] w fun e w' => e = .returned (.tuple #[]) ∧ Q w' ∧ Below b w w' := by
  have hsf : (steps == fuel) = false := by simp; omega
  have hem := not_empty h0
  have hN2 : (N : Int) ≤ (t.size : Int) := by omega
  have HPL := hide hpl
  have HN := hide hN
  clear hpl hN
  obtain ⟨m0, m1, m2, m3, m4, m5, m6, m7, mf, _, _⟩ := h.thirteen
  go_enter Tryz.func49, Tryz.ntmps49
  go_wp2_with fail
  refine (size_any k _).mono ?_
  rintro e w' ⟨rfl, rfl⟩
  rw [unhide HN]
  have hP1 := h.setSteps (steps + 1)
  clear m0 m1 m2 m3 m4 m5 m6 m7 mf h
  obtain ⟨m0, m1, m2, m3, m4, m5, m6, m7, mf, _, _⟩ := hP1.thirteen
  go_wp2_with fail
  have hP2 := hP1.setTodo (t.extract N t.size)
  refine (unhide HPL _ hP2).mono ?_
  rintro e w2 ⟨rfl, hQ, hB⟩
  go_wp2_with fail
  go_end0
  exact ⟨rfl, hQ, (((Below.refl b w).setCell (Nat.le_refl _) _).setCell (Nat.le_refl _) _).trans hB⟩

set_option maxHeartbeats 2000000 in
theorem source_branch (h : PlS w b V n m st ks view σ sn tag steps t) (fuel : Int) (hs0 : 0 ≤ steps) (hs1 : steps < fuel) (hf : fuel ≤ 10000) (hmx : t.size ≤ 1000000) (hl : sn.length ≤ 90000)
    (x : UInt8) (A B R : List UInt8) (ht : t.data.toList = 63 :: x :: 40 :: (A ++ 41 :: 40 :: (B ++ 41 :: R))) (hA : Bal A) (hB : Bal B) (hx0 : 48 ≤ (x.toNat : Int)) (hxc : 97 ≤ (x.toNat : Int) → ((x.toNat : Int) - 97).toNat < σ.length) (hV : 1 ≤ V) (hV2 : V ≤ 256) :
    Calls Tryz.prog 49 #[.pointer (some ⟨b, 0, none⟩), .int .i64 fuel] w fun e w' => e = .returned (.tuple #[]) ∧ (∃ t', t'.data.toList = (if vb V σ x.toNat = 0 then B ++ R else A ++ R) ∧ PlS w' b V n m st ks view σ (sn ++ [if vb V σ x.toNat = 0 then 102 else 116]) tag (steps + 1) t') ∧ Below b w w' := by
  have hsz := size_list t
  rw [ht] at hsz
  simp only [List.length_cons, List.length_append] at hsz
  have h0 : 0 < t.size := by omega
  have h1 : 1 < t.size := by omega
  have h2 : 2 ≤ t.size := by omega
  have hem := not_empty h0
  have e0 : t[0] = 63 := byte_eq h0 (by rw [ht]; rfl)
  have e1 : t[1] = x := byte_eq h1 (by rw [ht]; rfl)
  have k0 : (t[0].toNat : Int) = 63 := by rw [e0]; rfl
  have k1 : (t[1].toNat : Int) = x.toNat := by rw [e1]
  clear e0 e1
  have hsf : (steps == fuel) = false := by simp; omega
  have hb1 := fun w0 => block_bal (t.extract 2 t.size) (by rw [size_list, ext_list, ht]; simp only [List.drop_succ_cons, List.drop_zero, List.length_cons, List.length_append, maxLen]; omega) A (40 :: (B ++ 41 :: R)) (by rw [ext_list, ht]; rfl) hA w0
  have hb2 := fun w0 (u : ByteArray) (hu : u.data.toList = 40 :: (B ++ 41 :: R)) => block_bal u (by rw [size_list, hu]; simp only [List.length_cons, List.length_append, maxLen]; omega) B R hu hB w0
  have hte := fun w0 (h' : PlS w0 b V n m st ks view σ sn tag (steps + 1) t) => rtest_any h' (by omega) x.toNat hx0 (by have := x.toNat_lt; omega) hV hV2 hxc
  have hlA : A.length + R.length ≤ 1000000 := by omega
  have hlB : B.length + R.length ≤ 1000000 := by omega
  generalize vb V σ x.toNat = z at *
  generalize (x.toNat : Int) = c at *
  have HB1 := hide hb1
  have HB2 := hide hb2
  have HT := hide hte
  have HLA := hide hlA
  have HLB := hide hlB
  clear hb1 hb2 hte ht hsz hxc hx0 hA hB hV hV2 hl hmx hlA hlB
  obtain ⟨m0, m1, m2, m3, m4, m5, m6, m7, mf, _, _⟩ := h.thirteen
  by_cases hz : z = 0
  · have hzb : (z == 0) = true := by simpa using hz
    simp only [hz, if_true] at HT ⊢
    go_enter Tryz.func49, Tryz.ntmps49
    go_wp2_with fail
    refine (unhide HB1 _).mono ?_
    rintro e w1 ⟨a, rest, rfl, ha, hrest, rfl⟩
    have hP1 := h.setSteps (steps + 1)
    clear m0 m1 m2 m3 m4 m5 m6 m7 mf h
    go_wp2_with fail
    refine (unhide HB2 _ rest hrest).mono ?_
    rintro e w2 ⟨bb, more, rfl, hbb, hmore, rfl⟩
    go_wp2_with fail
    refine (unhide HT _ (PlS.drew (PlS.drew hP1))).mono ?_
    rintro e w3 ⟨rfl, hP3, hB3⟩
    obtain ⟨m0, m1, m2, m3, m4, m5, m6, m7, mf, _, _⟩ := hP3.thirteen
    have hns : ¬ 9223372036854775807 < bb.size + more.size := by
      rw [size_list bb, size_list more, hbb, hmore]; have := unhide HLB; omega
    go_wp2_with fail
    go_end0
    refine ⟨rfl, ⟨_, ?_, hP3.setTodo _⟩, Below.trans (Below.trans ((Below.refl b w).setCell (Nat.le_refl _) _) (below_drewN (Below.refl b _) 2)) (hB3.setCell (Nat.le_refl _) _)⟩
    rw [ByteArray.data_append, Array.toList_append, hbb, hmore]
  · have hzb : (z == 0) = false := by simpa using hz
    simp only [hz, if_false, hzb] at HT ⊢
    go_enter Tryz.func49, Tryz.ntmps49
    go_wp2_with fail
    refine (unhide HB1 _).mono ?_
    rintro e w1 ⟨a, rest, rfl, ha, hrest, rfl⟩
    have hP1 := h.setSteps (steps + 1)
    clear m0 m1 m2 m3 m4 m5 m6 m7 mf h
    go_wp2_with fail
    refine (unhide HB2 _ rest hrest).mono ?_
    rintro e w2 ⟨bb, more, rfl, hbb, hmore, rfl⟩
    go_wp2_with fail
    refine (unhide HT _ (PlS.drew (PlS.drew hP1))).mono ?_
    rintro e w3 ⟨rfl, hP3, hB3⟩
    obtain ⟨m0, m1, m2, m3, m4, m5, m6, m7, mf, _, _⟩ := hP3.thirteen
    have hns : ¬ 9223372036854775807 < a.size + more.size := by
      rw [size_list a, size_list more, ha, hmore]; have := unhide HLA; omega
    go_wp2_with fail
    go_end0
    refine ⟨rfl, ⟨_, ?_, hP3.setTodo _⟩, Below.trans (Below.trans ((Below.refl b w).setCell (Nat.le_refl _) _) (below_drewN (Below.refl b _) 2)) (hB3.setCell (Nat.le_refl _) _)⟩
    rw [ByteArray.data_append, Array.toList_append, ha, hmore]

set_option maxHeartbeats 2000000 in
theorem source_loop (h : PlS w b V n m st ks view σ sn tag steps t) (fuel : Int) (hs0 : 0 ≤ steps) (hs1 : steps < fuel) (hf : fuel ≤ 10000) (hmx : t.size ≤ 1000000) (hl : sn.length ≤ 90000)
    (x : UInt8) (A R : List UInt8) (ht : t.data.toList = 33 :: x :: 40 :: (A ++ 41 :: R)) (hA : Bal A) (hx0 : 48 ≤ (x.toNat : Int)) (hxc : 97 ≤ (x.toNat : Int) → ((x.toNat : Int) - 97).toNat < σ.length) (hV : 1 ≤ V) (hV2 : V ≤ 256) :
    Calls Tryz.prog 49 #[.pointer (some ⟨b, 0, none⟩), .int .i64 fuel] w fun e w' => e = .returned (.tuple #[]) ∧ (∃ t', t'.data.toList = (if vb V σ x.toNat = 0 then R else A ++ (33 :: x :: 40 :: (A ++ 41 :: R))) ∧ PlS w' b V n m st ks view σ (sn ++ [if vb V σ x.toNat = 0 then 102 else 116]) tag (steps + 1) t') ∧ Below b w w' := by
  have hsz := size_list t
  rw [ht] at hsz
  simp only [List.length_cons, List.length_append] at hsz
  have h0 : 0 < t.size := by omega
  have h1 : 1 < t.size := by omega
  have h2 : 2 ≤ t.size := by omega
  have hem := not_empty h0
  have e0 : t[0] = 33 := byte_eq h0 (by rw [ht]; rfl)
  have e1 : t[1] = x := byte_eq h1 (by rw [ht]; rfl)
  have k0 : (t[0].toNat : Int) = 33 := by rw [e0]; rfl
  have k1 : (t[1].toNat : Int) = x.toNat := by rw [e1]
  clear e0 e1
  have hsf : (steps == fuel) = false := by simp; omega
  have hb1 := fun w0 => block_bal (t.extract 2 t.size) (by rw [size_list, ext_list, ht]; simp only [List.drop_succ_cons, List.drop_zero, List.length_cons, List.length_append, maxLen]; omega) A R (by rw [ext_list, ht]; rfl) hA w0
  have hte := fun w0 (h' : PlS w0 b V n m st ks view σ sn tag (steps + 1) t) => rtest_any h' (by omega) x.toNat hx0 (by have := x.toNat_lt; omega) hV hV2 hxc
  have hlA : A.length + t.size ≤ 3000000 := by omega
  have HLA := hide hlA
  have Hht := hide ht
  generalize vb V σ x.toNat = z at *
  generalize (x.toNat : Int) = c at *
  have HB1 := hide hb1
  have HT := hide hte
  clear hb1 hte ht hsz hxc hx0 hA hV hV2 hl hmx hlA
  obtain ⟨m0, m1, m2, m3, m4, m5, m6, m7, mf, _, _⟩ := h.thirteen
  by_cases hz : z = 0
  · have hzb : (z == 0) = true := by simpa using hz
    simp only [hz, if_true] at HT ⊢
    go_enter Tryz.func49, Tryz.ntmps49
    go_wp2_with fail
    refine (unhide HB1 _).mono ?_
    rintro e w1 ⟨a, rest, rfl, ha, hrest, rfl⟩
    have hP1 := h.setSteps (steps + 1)
    clear m0 m1 m2 m3 m4 m5 m6 m7 mf h
    go_wp2_with fail
    refine (unhide HT _ (PlS.drew hP1)).mono ?_
    rintro e w3 ⟨rfl, hP3, hB3⟩
    obtain ⟨m0, m1, m2, m3, m4, m5, m6, m7, mf, _, _⟩ := hP3.thirteen
    go_wp2_with fail
    go_end0
    exact ⟨rfl, ⟨_, hrest, hP3.setTodo _⟩, Below.trans (Below.trans ((Below.refl b w).setCell (Nat.le_refl _) _) (below_drewN (Below.refl b _) 1)) (hB3.setCell (Nat.le_refl _) _)⟩
  · have hzb : (z == 0) = false := by simpa using hz
    simp only [hz, if_false, hzb] at HT ⊢
    go_enter Tryz.func49, Tryz.ntmps49
    go_wp2_with fail
    refine (unhide HB1 _).mono ?_
    rintro e w1 ⟨a, rest, rfl, ha, hrest, rfl⟩
    have hP1 := h.setSteps (steps + 1)
    clear m0 m1 m2 m3 m4 m5 m6 m7 mf h
    go_wp2_with fail
    refine (unhide HT _ (PlS.drew hP1)).mono ?_
    rintro e w3 ⟨rfl, hP3, hB3⟩
    obtain ⟨m0, m1, m2, m3, m4, m5, m6, m7, mf, _, _⟩ := hP3.thirteen
    have hns : ¬ 9223372036854775807 < a.size + t.size := by
      rw [size_list a, ha]; have := unhide HLA; omega
    go_wp2_with fail
    go_end0
    refine ⟨rfl, ⟨_, ?_, hP3.setTodo _⟩, Below.trans (Below.trans ((Below.refl b w).setCell (Nat.le_refl _) _) (below_drewN (Below.refl b _) 1)) (hB3.setCell (Nat.le_refl _) _)⟩
    rw [ByteArray.data_append, Array.toList_append, ha, unhide Hht]

set_option maxHeartbeats 1000000 in
theorem source_halt (h : PlS w b V n m st ks view σ sn tag steps t) (fuel : Int) (ht : t.data.toList = []) :
    Calls Tryz.prog 49 #[.pointer (some ⟨b, 0, none⟩), .int .i64 fuel] w fun e w' => e = .returned (.tuple #[]) ∧ PlS w' b V n m st ks view σ sn 1 steps t ∧ Below b w w' := by
  have hem := is_empty ht
  obtain ⟨m0, m1, m2, m3, m4, m5, m6, m7, mf, _, _⟩ := h.thirteen
  clear ht
  go_enter Tryz.func49, Tryz.ntmps49
  go_wp2_with fail
  refine bodyPost_ret (results_none rfl _ _ _) rfl ?_
  exact ⟨rfl, h.setTag 1, (Below.refl b w).setCell (Nat.le_refl _) _⟩

set_option maxHeartbeats 1000000 in
theorem source_fuel (h : PlS w b V n m st ks view σ sn tag steps t) (h0 : 0 < t.size) :
    Calls Tryz.prog 49 #[.pointer (some ⟨b, 0, none⟩), .int .i64 steps] w fun e w' => e = .returned (.tuple #[]) ∧ PlS w' b V n m st ks view σ sn 3 steps t ∧ Below b w w' := by
  have hem := not_empty h0
  obtain ⟨m0, m1, m2, m3, m4, m5, m6, m7, mf, _, _⟩ := h.thirteen
  go_enter Tryz.func49, Tryz.ntmps49
  go_wp2_with fail
  refine bodyPost_ret (results_none rfl _ _ _) rfl ?_
  exact ⟨rfl, h.setTag 3, (Below.refl b w).setCell (Nat.le_refl _) _⟩
end
end Go.Proofs.YtfolokhilkffcaaGreat
