import Derived.Test.YtnkbfdbbcaffmaaGreatDoorX24Pl4
import Derived.Deep.RegionHeld3
import Derived.BigRegion
/-
  size, block.
-/
namespace Go.Proofs.YtnkbfdbbcaffmaaGreatDoor
open Go.RowKit

def szl (c : Int) : Nat := if c = 61 then 5 else if c = 108 then 3 else if c = 115 then 3 else if c = 106 then 3 else if c = 122 then 4 else 1

set_option maxHeartbeats 1000000 in
theorem size_any (c : Int) (w : World) : Calls Tryz.prog 54 #[.int .u8 c] w fun e w' => e = .returned (.int .i64 (szl c)) ∧ w' = w := by
  generalize hr : szl c = r
  have Hr := hide hr
  clear hr
  go_enter Tryz.func54, Tryz.ntmps54
  go_wp2_with fail
  all_goals
    go_ret
    refine ⟨?_, rfl⟩
    rw [← unhide Hr]
    simp_all [szl]

set_option maxHeartbeats 2000000 in
theorem block_any (t : ByteArray) (hmx : t.size ≤ maxLen) (e : Nat) (he : e < t.size) (D : Nat → Int) (h0 : D 0 = 0)
    (hs : ∀ k (h : k < e), D (k + 1) = D k + (if ((t[k]'(by omega)).toNat : Int) = 40 then 1 else if ((t[k]'(by omega)).toNat : Int) = 41 then -1 else 0)) (hp : ∀ k, k < e → 1 ≤ D (k + 1)) (hD : ∀ k, D k ≤ k) (he1 : D e = 1) (hb : (t[e].toNat : Int) = 41) (w : World) :
    Calls Tryz.prog 89 #[.string t] w fun r w' => r = .returned (.tuple #[.string (t.extract 1 e), .string (t.extract (e + 1) t.size)]) ∧ w' = w.drew := by
  unfold maxLen at hmx
  have HS := hide hs
  have H0 := hide h0
  have H1 := hide he1
  clear hs h0 he1
  go_enter Tryz.func89, Tryz.ntmps89
  go_wp2_with fail
  have HP := hide hp
  have HD := hide hD
  clear hp hD
  go_loop [4, 5] (fun ds i => ∃ (k : Nat) (d : Int), i = .int .i64 k ∧ ds = .int .i64 d ∧ k ≤ e ∧ 0 ≤ d ∧ d ≤ k ∧ Hid (d = D k)) (fun _ i => t.size - (intOf i).toNat)
  case atStart => exact ⟨0, 0, rfl, rfl, Nat.zero_le _, by omega, by omega, (unhide H0).symm⟩
  case round =>
    obtain ⟨k, d, rfl, rfl, hk, hd0, hdk, HK⟩ := hrel
    by_cases hlt : k < e
    · have hkt : k < t.size := by omega
      have hst := unhide HS k hlt
      have hp1 := unhide HP k hlt
      have hDk := unhide HD (k + 1)
      rw [← unhide HK] at hst
      by_cases h40 : (t[k].toNat : Int) = 40
      · rw [if_pos h40] at hst
        have e40 : ((t[k].toNat : Int) == 40) = true := by simp; omega
        have e41 : ((t[k].toNat : Int) == 41) = false := by simp; omega
        have Hst := hide hst
        rw [hst] at hp1 hDk
        clear hst h40
        go_wp2_with fail
        go_round
        case rel => exact ⟨k + 1, d + 1, by go_num, by go_num, by omega, by omega, by omega, (unhide Hst).symm⟩
        case measure => simp [intOf]; omega
      · rw [if_neg h40] at hst
        have e40 : ((t[k].toNat : Int) == 40) = false := by simp; omega
        by_cases h41 : (t[k].toNat : Int) = 41
        · rw [if_pos h41] at hst
          have e41 : ((t[k].toNat : Int) == 41) = true := by simp; omega
          have Hst := hide hst
          rw [hst] at hp1 hDk
          clear hst h40 h41
          have hdz : (d - 1 == 0) = false := by simp; omega
          go_wp2_with fail
          go_round
          case rel => exact ⟨k + 1, d - 1, by go_num, by go_num, by omega, by omega, by omega, by rw [unhide Hst]; rfl⟩
          case measure => simp [intOf]; omega
        · rw [if_neg h41] at hst
          have e41 : ((t[k].toNat : Int) == 41) = false := by simp; omega
          have Hst := hide hst
          rw [hst] at hp1 hDk
          clear hst h40 h41
          go_wp2_with fail
          go_round
          case rel => exact ⟨k + 1, d, by go_num, by go_num, by omega, by omega, by omega, by rw [unhide Hst]; exact (Int.add_zero d).symm⟩
          case measure => simp [intOf]; omega
    · have hke : k = e := by omega
      subst hke
      have hd1 : d = 1 := by rw [unhide HK]; exact unhide H1
      subst hd1
      have e40 : ((t[k].toNat : Int) == 40) = false := by simp; omega
      have e41 : ((t[k].toNat : Int) == 41) = true := by simp; omega
      have hk1 : 1 ≤ k := by
        rcases Nat.eq_zero_or_pos k with e | e
        · have h := unhide H1; rw [e, unhide H0] at h; cases h
        · exact e
      clear hb
      go_wp2_with fail
      have f1 : (1 : Int) ≤ (k : Int) := by omega
      have f2 : (k : Int) ≤ (t.size : Int) := by omega
      have f3 : IntKind.i64.wrap ((k : Int) + 1) = (k : Int) + 1 := by rw [IntKind.wrap_i64]; omega
      have f4 : (k : Int) + 1 ≤ (t.size : Int) := by omega
      have f5 : ((k : Int) + 1).toNat = k + 1 := by omega
      have f6 : (0 : Int) ≤ (k : Int) + 1 := by omega
      go_region_held3 (fun _ => True) (first | trivial | go_keep) (fail)
      go_wp2_with fail
      go_ret2
      exact ⟨rfl, rfl⟩

theorem block_bal (t : ByteArray) (hmx : t.size ≤ maxLen) (A R : List UInt8) (ht : t.data.toList = 40 :: (A ++ 41 :: R)) (hA : Bal A) (w : World) :
    Calls Tryz.prog 89 #[.string t] w fun r w' => ∃ x y, r = .returned (.tuple #[.string x, .string y]) ∧ x.data.toList = A ∧ y.data.toList = R ∧ w' = w.drew := by
  have hsz : t.size = A.length + 2 + R.length := by rw [size_list, ht]; simp; omega
  have he : A.length + 1 < t.size := by omega
  have hl : ∀ k, k ≤ A.length + 1 → t.data.toList.take k = (40 :: A).take k := fun k hk => by
    rw [ht, show (40 :: (A ++ 41 :: R) : List UInt8) = (40 :: A) ++ 41 :: R from rfl, List.take_append_of_le_length (by simpa using hk)]
  refine (block_any t hmx (A.length + 1) he (fun k => dpt (t.data.toList.take k)) (by simp [dpt]) ?_ ?_ ?_ ?_ ?_ w).mono ?_
  · intro k hk
    have hkt : k < t.data.toList.length := by rw [← size_list]; omega
    show dpt (t.data.toList.take (k + 1)) = _
    rw [List.take_succ_eq_append_getElem hkt, dpt_append]
    have e : t.data.toList[k] = t[k]'(by omega) := rfl
    rw [e]
    simp only [dpt, Int.add_zero]
  · intro k hk
    show 1 ≤ dpt (t.data.toList.take (k + 1))
    rw [hl (k + 1) (by omega), List.take_succ_cons, dpt]
    have := hA.2 k
    rw [if_pos (by decide)]; omega
  · intro k
    have := dpt_le (t.data.toList.take k)
    have h2 : (t.data.toList.take k).length ≤ k := List.length_take_le _ _
    show dpt (t.data.toList.take k) ≤ k
    omega
  · show dpt (t.data.toList.take (A.length + 1)) = 1
    rw [hl _ (Nat.le_refl _), List.take_of_length_le (by simp), dpt, hA.1, if_pos (by decide)]; rfl
  · have h : t.data.toList[A.length + 1]? = some 41 := by rw [ht]; simp
    rw [byte_eq he h]; rfl
  · rintro r w' ⟨rfl, rfl⟩
    refine ⟨_, _, rfl, ?_, ?_, rfl⟩
    · rw [ext_data, ht]; simp
    · rw [ext_list, ht]; simp [List.drop_append]
end Go.Proofs.YtnkbfdbbcaffmaaGreatDoor
/-
  source.
-/
namespace Go.Proofs.YtnkbfdbbcaffmaaGreatDoor
open Go.RowKit

theorem not_empty {t : ByteArray} (h : 0 < t.size) : t.toList.isEmpty = false := by
  rw [ByteArray.toList_eq, List.isEmpty_eq_false_iff]
  intro e
  have := size_list t
  rw [e, List.length_nil] at this; omega
theorem is_empty {t : ByteArray} (h : t.data.toList = []) : t.toList.isEmpty = true := by
  rw [ByteArray.toList_eq, h]; rfl

section
variable {w w' : World} {b : Nat} {V : Int} {n m : Nat} {st : Int} {ks : KX} {view : Int} {tag steps : Int} {t : ByteArray} {σ sn : List Int}

theorem PlS.drew (h : PlS w b V n m st ks view σ sn tag steps t) : PlS w.drew b V n m st ks view σ sn tag steps t := h

set_option maxHeartbeats 2000000 in
theorem source_plain {Q : World → Prop} (h : PlS w b V n m st ks view σ sn tag steps t) (fuel : Int) (hs0 : 0 ≤ steps) (hs1 : steps < fuel) (hf : fuel ≤ 10000) (h0 : 0 < t.size)
    (k : Int) (hk : (t[0].toNat : Int) = k) (k63 : (k == 63) = false) (k33 : (k == 33) = false) (N : Nat) (hN : szl k = N) (hNs : N ≤ t.size)
    (hpl : ∀ w0, PlS w0 b V n m st ks view σ sn tag (steps + 1) (t.extract N t.size) → Calls Tryz.prog 91 #[.pointer (some ⟨b, 0, none⟩), .string (t.extract 0 N)] w0 fun e w' => e = .returned (.tuple #[]) ∧ Q w' ∧ Below b w0 w') :
    Calls Tryz.prog 58 #[.pointer (some ⟨b, 0, none⟩), .int .i64 fuel] w fun e w' => e = .returned (.tuple #[]) ∧ Q w' ∧ Below b w w' := by
  have hsf : (steps == fuel) = false := by simp; omega
  have hem := not_empty h0
  have hN2 : (N : Int) ≤ (t.size : Int) := by omega
  have HPL := hide hpl
  have HN := hide hN
  clear hpl hN
  obtain ⟨m0, m1, m2, m3, m4, m5, m6, m7, mf, _, _⟩ := h.thirteen
  go_enter Tryz.func58, Tryz.ntmps58
  go_wp2_with fail
  refine (size_any k _).mono ?_
  rintro e w' ⟨rfl, rfl⟩
  rw [unhide HN]
  have hP1 := h.setSteps (steps + 1)
  clear m0 m1 m2 m3 m4 m5 m6 m7 mf h
  obtain ⟨m0, m1, m2, m3, m4, m5, m6, m7, mf, _, _⟩ := hP1.thirteen
  go_wp2_with fail
  have hP2 := hP1.setTodo (t.extract N t.size)
  refine (unhide HPL _ hP2).mono ?_
  rintro e w2 ⟨rfl, hQ, hB⟩
  go_wp2_with fail
  go_end0
  exact ⟨rfl, hQ, (((Below.refl b w).setCell (Nat.le_refl _) _).setCell (Nat.le_refl _) _).trans hB⟩

set_option maxHeartbeats 2000000 in
theorem source_branch (h : PlS w b V n m st ks view σ sn tag steps t) (fuel : Int) (hs0 : 0 ≤ steps) (hs1 : steps < fuel) (hf : fuel ≤ 10000) (hmx : t.size ≤ 1000000) (hl : sn.length ≤ 90000)
    (x : UInt8) (A B R : List UInt8) (ht : t.data.toList = 63 :: x :: 40 :: (A ++ 41 :: 40 :: (B ++ 41 :: R))) (hA : Bal A) (hB : Bal B) (hx0 : 48 ≤ (x.toNat : Int)) (hxc : 97 ≤ (x.toNat : Int) → ((x.toNat : Int) - 97).toNat < σ.length) (hV : 1 ≤ V) (hV2 : V ≤ 256) :
    Calls Tryz.prog 58 #[.pointer (some ⟨b, 0, none⟩), .int .i64 fuel] w fun e w' => e = .returned (.tuple #[]) ∧ (∃ t', t'.data.toList = (if vb V σ x.toNat = 0 then B ++ R else A ++ R) ∧ PlS w' b V n m st ks view σ (sn ++ [if vb V σ x.toNat = 0 then 102 else 116]) tag (steps + 1) t') ∧ Below b w w' := by
  have hsz := size_list t
  rw [ht] at hsz
  simp only [List.length_cons, List.length_append] at hsz
  have h0 : 0 < t.size := by omega
  have h1 : 1 < t.size := by omega
  have h2 : 2 ≤ t.size := by omega
  have hem := not_empty h0
  have e0 : t[0] = 63 := byte_eq h0 (by rw [ht]; rfl)
  have e1 : t[1] = x := byte_eq h1 (by rw [ht]; rfl)
  have k0 : (t[0].toNat : Int) = 63 := by rw [e0]; rfl
  have k1 : (t[1].toNat : Int) = x.toNat := by rw [e1]
  clear e0 e1
  have hsf : (steps == fuel) = false := by simp; omega
  have hb1 := fun w0 => block_bal (t.extract 2 t.size) (by rw [size_list, ext_list, ht]; simp only [List.drop_succ_cons, List.drop_zero, List.length_cons, List.length_append, maxLen]; omega) A (40 :: (B ++ 41 :: R)) (by rw [ext_list, ht]; rfl) hA w0
  have hb2 := fun w0 (u : ByteArray) (hu : u.data.toList = 40 :: (B ++ 41 :: R)) => block_bal u (by rw [size_list, hu]; simp only [List.length_cons, List.length_append, maxLen]; omega) B R hu hB w0
  have hte := fun w0 (h' : PlS w0 b V n m st ks view σ sn tag (steps + 1) t) => rtest_any h' (by omega) x.toNat hx0 (by have := x.toNat_lt; omega) hV hV2 hxc
  have hlA : A.length + R.length ≤ 1000000 := by omega
  have hlB : B.length + R.length ≤ 1000000 := by omega
  generalize vb V σ x.toNat = z at *
  generalize (x.toNat : Int) = c at *
  have HB1 := hide hb1
  have HB2 := hide hb2
  have HT := hide hte
  have HLA := hide hlA
  have HLB := hide hlB
  clear hb1 hb2 hte ht hsz hxc hx0 hA hB hV hV2 hl hmx hlA hlB
  obtain ⟨m0, m1, m2, m3, m4, m5, m6, m7, mf, _, _⟩ := h.thirteen
  by_cases hz : z = 0
  · have hzb : (z == 0) = true := by simpa using hz
    simp only [hz, if_true] at HT ⊢
    go_enter Tryz.func58, Tryz.ntmps58
    go_wp2_with fail
    refine (unhide HB1 _).mono ?_
    rintro e w1 ⟨a, rest, rfl, ha, hrest, rfl⟩
    have hP1 := h.setSteps (steps + 1)
    clear m0 m1 m2 m3 m4 m5 m6 m7 mf h
    go_wp2_with fail
    refine (unhide HB2 _ rest hrest).mono ?_
    rintro e w2 ⟨bb, more, rfl, hbb, hmore, rfl⟩
    go_wp2_with fail
    refine (unhide HT _ (PlS.drew (PlS.drew hP1))).mono ?_
    rintro e w3 ⟨rfl, hP3, hB3⟩
    obtain ⟨m0, m1, m2, m3, m4, m5, m6, m7, mf, _, _⟩ := hP3.thirteen
    have hns : ¬ 9223372036854775807 < bb.size + more.size := by
      rw [size_list bb, size_list more, hbb, hmore]; have := unhide HLB; omega
    go_wp2_with fail
    go_end0
    refine ⟨rfl, ⟨_, ?_, hP3.setTodo _⟩, Below.trans (Below.trans ((Below.refl b w).setCell (Nat.le_refl _) _) (below_drewN (Below.refl b _) 2)) (hB3.setCell (Nat.le_refl _) _)⟩
    rw [ByteArray.data_append, Array.toList_append, hbb, hmore]
  · have hzb : (z == 0) = false := by simpa using hz
    simp only [hz, if_false, hzb] at HT ⊢
    go_enter Tryz.func58, Tryz.ntmps58
    go_wp2_with fail
    refine (unhide HB1 _).mono ?_
    rintro e w1 ⟨a, rest, rfl, ha, hrest, rfl⟩
    have hP1 := h.setSteps (steps + 1)
    clear m0 m1 m2 m3 m4 m5 m6 m7 mf h
    go_wp2_with fail
    refine (unhide HB2 _ rest hrest).mono ?_
    rintro e w2 ⟨bb, more, rfl, hbb, hmore, rfl⟩
    go_wp2_with fail
    refine (unhide HT _ (PlS.drew (PlS.drew hP1))).mono ?_
    rintro e w3 ⟨rfl, hP3, hB3⟩
    obtain ⟨m0, m1, m2, m3, m4, m5, m6, m7, mf, _, _⟩ := hP3.thirteen
    have hns : ¬ 9223372036854775807 < a.size + more.size := by
      rw [size_list a, size_list more, ha, hmore]; have := unhide HLA; omega
    go_wp2_with fail
    go_end0
    refine ⟨rfl, ⟨_, ?_, hP3.setTodo _⟩, Below.trans (Below.trans ((Below.refl b w).setCell (Nat.le_refl _) _) (below_drewN (Below.refl b _) 2)) (hB3.setCell (Nat.le_refl _) _)⟩
    rw [ByteArray.data_append, Array.toList_append, ha, hmore]

set_option maxHeartbeats 2000000 in
theorem source_loop (h : PlS w b V n m st ks view σ sn tag steps t) (fuel : Int) (hs0 : 0 ≤ steps) (hs1 : steps < fuel) (hf : fuel ≤ 10000) (hmx : t.size ≤ 1000000) (hl : sn.length ≤ 90000)
    (x : UInt8) (A R : List UInt8) (ht : t.data.toList = 33 :: x :: 40 :: (A ++ 41 :: R)) (hA : Bal A) (hx0 : 48 ≤ (x.toNat : Int)) (hxc : 97 ≤ (x.toNat : Int) → ((x.toNat : Int) - 97).toNat < σ.length) (hV : 1 ≤ V) (hV2 : V ≤ 256) :
    Calls Tryz.prog 58 #[.pointer (some ⟨b, 0, none⟩), .int .i64 fuel] w fun e w' => e = .returned (.tuple #[]) ∧ (∃ t', t'.data.toList = (if vb V σ x.toNat = 0 then R else A ++ (33 :: x :: 40 :: (A ++ 41 :: R))) ∧ PlS w' b V n m st ks view σ (sn ++ [if vb V σ x.toNat = 0 then 102 else 116]) tag (steps + 1) t') ∧ Below b w w' := by
  have hsz := size_list t
  rw [ht] at hsz
  simp only [List.length_cons, List.length_append] at hsz
  have h0 : 0 < t.size := by omega
  have h1 : 1 < t.size := by omega
  have h2 : 2 ≤ t.size := by omega
  have hem := not_empty h0
  have e0 : t[0] = 33 := byte_eq h0 (by rw [ht]; rfl)
  have e1 : t[1] = x := byte_eq h1 (by rw [ht]; rfl)
  have k0 : (t[0].toNat : Int) = 33 := by rw [e0]; rfl
  have k1 : (t[1].toNat : Int) = x.toNat := by rw [e1]
  clear e0 e1
  have hsf : (steps == fuel) = false := by simp; omega
  have hb1 := fun w0 => block_bal (t.extract 2 t.size) (by rw [size_list, ext_list, ht]; simp only [List.drop_succ_cons, List.drop_zero, List.length_cons, List.length_append, maxLen]; omega) A R (by rw [ext_list, ht]; rfl) hA w0
  have hte := fun w0 (h' : PlS w0 b V n m st ks view σ sn tag (steps + 1) t) => rtest_any h' (by omega) x.toNat hx0 (by have := x.toNat_lt; omega) hV hV2 hxc
  have hlA : A.length + t.size ≤ 3000000 := by omega
  have HLA := hide hlA
  have Hht := hide ht
  generalize vb V σ x.toNat = z at *
  generalize (x.toNat : Int) = c at *
  have HB1 := hide hb1
  have HT := hide hte
  clear hb1 hte ht hsz hxc hx0 hA hV hV2 hl hmx hlA
  obtain ⟨m0, m1, m2, m3, m4, m5, m6, m7, mf, _, _⟩ := h.thirteen
  by_cases hz : z = 0
  · have hzb : (z == 0) = true := by simpa using hz
    simp only [hz, if_true] at HT ⊢
    go_enter Tryz.func58, Tryz.ntmps58
    go_wp2_with fail
    refine (unhide HB1 _).mono ?_
    rintro e w1 ⟨a, rest, rfl, ha, hrest, rfl⟩
    have hP1 := h.setSteps (steps + 1)
    clear m0 m1 m2 m3 m4 m5 m6 m7 mf h
    go_wp2_with fail
    refine (unhide HT _ (PlS.drew hP1)).mono ?_
    rintro e w3 ⟨rfl, hP3, hB3⟩
    obtain ⟨m0, m1, m2, m3, m4, m5, m6, m7, mf, _, _⟩ := hP3.thirteen
    go_wp2_with fail
    go_end0
    exact ⟨rfl, ⟨_, hrest, hP3.setTodo _⟩, Below.trans (Below.trans ((Below.refl b w).setCell (Nat.le_refl _) _) (below_drewN (Below.refl b _) 1)) (hB3.setCell (Nat.le_refl _) _)⟩
  · have hzb : (z == 0) = false := by simpa using hz
    simp only [hz, if_false, hzb] at HT ⊢
    go_enter Tryz.func58, Tryz.ntmps58
    go_wp2_with fail
    refine (unhide HB1 _).mono ?_
    rintro e w1 ⟨a, rest, rfl, ha, hrest, rfl⟩
    have hP1 := h.setSteps (steps + 1)
    clear m0 m1 m2 m3 m4 m5 m6 m7 mf h
    go_wp2_with fail
    refine (unhide HT _ (PlS.drew hP1)).mono ?_
    rintro e w3 ⟨rfl, hP3, hB3⟩
    obtain ⟨m0, m1, m2, m3, m4, m5, m6, m7, mf, _, _⟩ := hP3.thirteen
    have hns : ¬ 9223372036854775807 < a.size + t.size := by
      rw [size_list a, ha]; have := unhide HLA; omega
    go_wp2_with fail
    go_end0
    refine ⟨rfl, ⟨_, ?_, hP3.setTodo _⟩, Below.trans (Below.trans ((Below.refl b w).setCell (Nat.le_refl _) _) (below_drewN (Below.refl b _) 1)) (hB3.setCell (Nat.le_refl _) _)⟩
    rw [ByteArray.data_append, Array.toList_append, ha, unhide Hht]

set_option maxHeartbeats 1000000 in
theorem source_halt (h : PlS w b V n m st ks view σ sn tag steps t) (fuel : Int) (ht : t.data.toList = []) :
    Calls Tryz.prog 58 #[.pointer (some ⟨b, 0, none⟩), .int .i64 fuel] w fun e w' => e = .returned (.tuple #[]) ∧ PlS w' b V n m st ks view σ sn 1 steps t ∧ Below b w w' := by
  have hem := is_empty ht
  obtain ⟨m0, m1, m2, m3, m4, m5, m6, m7, mf, _, _⟩ := h.thirteen
  clear ht
  go_enter Tryz.func58, Tryz.ntmps58
  go_wp2_with fail
  refine bodyPost_ret (results_none rfl _ _ _) rfl ?_
  exact ⟨rfl, h.setTag 1, (Below.refl b w).setCell (Nat.le_refl _) _⟩

set_option maxHeartbeats 1000000 in
theorem source_fuel (h : PlS w b V n m st ks view σ sn tag steps t) (h0 : 0 < t.size) :
    Calls Tryz.prog 58 #[.pointer (some ⟨b, 0, none⟩), .int .i64 steps] w fun e w' => e = .returned (.tuple #[]) ∧ PlS w' b V n m st ks view σ sn 3 steps t ∧ Below b w w' := by
  have hem := not_empty h0
  obtain ⟨m0, m1, m2, m3, m4, m5, m6, m7, mf, _, _⟩ := h.thirteen
  go_enter Tryz.func58, Tryz.ntmps58
  go_wp2_with fail
  refine bodyPost_ret (results_none rfl _ _ _) rfl ?_
  exact ⟨rfl, h.setTag 3, (Below.refl b w).setCell (Nat.le_refl _) _⟩
end
end Go.Proofs.YtnkbfdbbcaffmaaGreatDoor
