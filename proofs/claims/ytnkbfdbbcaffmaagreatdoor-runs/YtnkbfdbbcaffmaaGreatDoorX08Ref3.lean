import Derived.Test.YtnkbfdbbcaffmaaGreatDoorX07Ref
/-
  The document's side: next, shape, Check.
-/
namespace Go.Proofs.YtnkbfdbbcaffmaaGreatDoor
open Go.RowKit

/-- What next answers. -/
def NxP (r : Option (List UInt8)) (e : Ending) : Prop := ∃ t ok, e = .returned (.tuple #[.string t, .bool ok]) ∧ r = if ok then some t.data.toList else none

set_option maxHeartbeats 4000000 in
theorem next_any (fm : ByteArray) (hmx : fm.size ≤ 100000) (c n : Int) (h0 : 0 ≤ c) (h1 : c ≤ 255) (w : World) :
    Calls Tryz.prog 50 #[.string fm, .int .u8 c, .int .i64 n] w fun e w' => NxP (nxtL c n fm.data.toList) e ∧ w' = w := by
  generalize hr : nxtL c n fm.data.toList = r
  have Hr := hide hr
  clear hr
  go_enter Tryz.func50, Tryz.ntmps50
  go_wp2_with fail
  go_loop [8] (fun i => ∃ k : Nat, i = .int .i64 k ∧ k ≤ fm.size ∧ Hid (nxtL c n (fm.data.toList.drop k) = r)) (fun i => fm.size - (intOf i).toNat)
  case atStart => exact ⟨0, rfl, Nat.zero_le _, by simpa using Hr⟩
  case round =>
    obtain ⟨k, rfl, hk, HK⟩ := hrel
    by_cases hlt : k < fm.size
    · have hx := fm[k].toNat_lt
      have hd := drop_at fm k hlt
      have hst := unhide HK
      rw [hd, nxtL] at hst
      have Hst := hide hst
      have Hd := hide hd
      clear hst hd HK
      have hl := opS_len c
      have n1 : ¬ 9223372036854775807 < (opS c).length + 1 := by omega
      have n2 : ¬ 9223372036854775807 < (opS c).length + 1 + (fm.size - (k + 1)) := by omega
      have n3 : ¬ 9223372036854775807 < (opS c).length + (fm.size - k) := by omega
      by_cases hB : (fm[k].toNat : Int) = 66 ∨ (fm[k].toNat : Int) = 67 ∨ (fm[k].toNat : Int) = 76
      · cases ho : opB fm[k].toNat c with
        | true =>
          have Ho := hide ho
          clear ho
          by_cases hL : (fm[k].toNat : Int) = 76
          · have e66 : ((fm[k].toNat : Int) == 66) = false := by simp; omega
            have e67 : ((fm[k].toNat : Int) == 67) = false := by simp; omega
            have e76 : ((fm[k].toNat : Int) == 76) = true := by simp; omega
            have hfin : r = some (opS c ++ 67 :: fm.data.toList.drop (k + 1)) := by
              have := unhide Hst
              rw [if_pos hB, if_pos (unhide Ho), if_pos hL] at this
              exact this.symm
            have Hfin := hide hfin
            clear hfin hB hL
            go_wp2_with fail
            refine (opened_any _ _ _).mono ?_
            rintro e w' ⟨rfl, rfl⟩
            rw [unhide Ho]
            go_wp2_with fail
            go_ret2
            exact ⟨⟨_, true, rfl, by rw [unhide Hfin, cat_list3, ext_list]; rfl⟩, rfl⟩
          · have e76 : ((fm[k].toNat : Int) == 76) = false := by simp; omega
            have hfin : r = some (opS c ++ fm.data.toList.drop k) := by
              have := unhide Hst
              rw [if_pos hB, if_pos (unhide Ho), if_neg hL] at this
              rw [unhide Hd]
              exact this.symm
            have Hfin := hide hfin
            clear hfin
            have hB' : (fm[k].toNat : Int) = 66 ∨ (fm[k].toNat : Int) = 67 := by omega
            clear hB hL
            rcases hB' with hB' | hB'
            · have e66 : ((fm[k].toNat : Int) == 66) = true := by simpa using hB'
              clear hB'
              go_wp2_with fail
              refine (opened_any _ _ _).mono ?_
              rintro e w' ⟨rfl, rfl⟩
              rw [unhide Ho]
              go_wp2_with fail
              go_ret2
              exact ⟨⟨_, true, rfl, by rw [unhide Hfin, cat_list, ext_list]; rfl⟩, rfl⟩
            · have e66 : ((fm[k].toNat : Int) == 66) = false := by simp; omega
              have e67 : ((fm[k].toNat : Int) == 67) = true := by simpa using hB'
              clear hB'
              go_wp2_with fail
              refine (opened_any _ _ _).mono ?_
              rintro e w' ⟨rfl, rfl⟩
              rw [unhide Ho]
              go_wp2_with fail
              go_ret2
              exact ⟨⟨_, true, rfl, by rw [unhide Hfin, cat_list, ext_list]; rfl⟩, rfl⟩
        | false =>
          have Ho := hide ho
          clear ho
          by_cases hL : (fm[k].toNat : Int) = 76
          · have e66 : ((fm[k].toNat : Int) == 66) = false := by simp; omega
            have e67 : ((fm[k].toNat : Int) == 67) = false := by simp; omega
            have e76 : ((fm[k].toNat : Int) == 76) = true := by simp; omega
            have hfin : r = none := by
              have := unhide Hst
              rw [if_pos hB, if_neg (by rw [unhide Ho]; simp), if_pos hL] at this
              exact this.symm
            have Hfin := hide hfin
            clear hfin hB hL
            go_wp2_with fail
            refine (opened_any _ _ _).mono ?_
            rintro e w' ⟨rfl, rfl⟩
            rw [unhide Ho]
            go_wp2_with fail
            go_ret2
            exact ⟨⟨_, false, rfl, by rw [unhide Hfin]; rfl⟩, rfl⟩
          · have e76 : ((fm[k].toNat : Int) == 76) = false := by simp; omega
            have hfin : nxtL c n (fm.data.toList.drop (k + 1)) = r := by
              have := unhide Hst
              rw [if_pos hB, if_neg (by rw [unhide Ho]; simp), if_neg hL] at this
              exact this
            have Hfin := hide hfin
            clear hfin
            have hB' : (fm[k].toNat : Int) = 66 ∨ (fm[k].toNat : Int) = 67 := by omega
            clear hB hL
            rcases hB' with hB' | hB'
            · have e66 : ((fm[k].toNat : Int) == 66) = true := by simpa using hB'
              clear hB'
              go_wp2_with fail
              refine (opened_any _ _ _).mono ?_
              rintro e w' ⟨rfl, rfl⟩
              rw [unhide Ho]
              go_wp2_with fail
              go_round
              case rel => exact ⟨k + 1, by go_num, by omega, Hfin⟩
              case measure => simp [intOf]; omega
            · have e66 : ((fm[k].toNat : Int) == 66) = false := by simp; omega
              have e67 : ((fm[k].toNat : Int) == 67) = true := by simpa using hB'
              clear hB'
              go_wp2_with fail
              refine (opened_any _ _ _).mono ?_
              rintro e w' ⟨rfl, rfl⟩
              rw [unhide Ho]
              go_wp2_with fail
              go_round
              case rel => exact ⟨k + 1, by go_num, by omega, Hfin⟩
              case measure => simp [intOf]; omega
      · have e66 : ((fm[k].toNat : Int) == 66) = false := by simp; omega
        have e67 : ((fm[k].toNat : Int) == 67) = false := by simp; omega
        have e76 : ((fm[k].toNat : Int) == 76) = false := by simp; omega
        have hst2 := unhide Hst
        rw [if_neg hB] at hst2
        have Hst2 := hide hst2
        clear hst2 hB Hst
        cases ho : stn fm[k].toNat c n with
        | true =>
          have Ho := hide ho
          clear ho
          have hfin : r = some (fm.data.toList.drop (k + 1)) := by
            have := unhide Hst2
            rw [if_pos (unhide Ho)] at this
            exact this.symm
          have Hfin := hide hfin
          clear hfin
          go_wp2_with fail
          refine (stands_any _ _ _ _ h0 h1).mono ?_
          rintro e w' ⟨rfl, rfl⟩
          rw [unhide Ho]
          go_wp2_with fail
          go_ret2
          exact ⟨⟨_, true, rfl, by rw [unhide Hfin, ext_list]; rfl⟩, rfl⟩
        | false =>
          have Ho := hide ho
          clear ho
          by_cases hK : (fm[k].toNat : Int) = 75
          · have e75 : ((fm[k].toNat : Int) != 75) = false := by simpa using hK
            have hfin : nxtL c n (fm.data.toList.drop (k + 1)) = r := by
              have := unhide Hst2
              rw [if_neg (by rw [unhide Ho]; simp), if_pos hK] at this
              exact this
            have Hfin := hide hfin
            clear hfin hK
            go_wp2_with fail
            refine (stands_any _ _ _ _ h0 h1).mono ?_
            rintro e w' ⟨rfl, rfl⟩
            rw [unhide Ho]
            go_wp2_with fail
            go_round
            case rel => exact ⟨k + 1, by go_num, by omega, Hfin⟩
            case measure => simp [intOf]; omega
          · have e75 : ((fm[k].toNat : Int) != 75) = true := by simpa using hK
            have hfin : r = none := by
              have := unhide Hst2
              rw [if_neg (by rw [unhide Ho]; simp), if_neg hK] at this
              exact this.symm
            have Hfin := hide hfin
            clear hfin hK
            go_wp2_with fail
            refine (stands_any _ _ _ _ h0 h1).mono ?_
            rintro e w' ⟨rfl, rfl⟩
            rw [unhide Ho]
            go_wp2_with fail
            go_ret2
            exact ⟨⟨_, false, rfl, by rw [unhide Hfin]; rfl⟩, rfl⟩
    · have hfin : r = none := by
        have := unhide HK
        rw [List.drop_of_length_le (by simp; omega)] at this
        exact this.symm
      have Hfin := hide hfin
      clear hfin
      go_wp2_with fail
      go_ret2
      exact ⟨⟨_, false, rfl, by rw [unhide Hfin]; rfl⟩, rfl⟩
end Go.Proofs.YtnkbfdbbcaffmaaGreatDoor
/-
  The document's side: shape, Check.
-/
namespace Go.Proofs.YtnkbfdbbcaffmaaGreatDoor
open Go.RowKit

def ansI (r : Option Nat) : Int := match r with
  | none => -1
  | some k => k

set_option maxHeartbeats 4000000 in
theorem shape_any (s fm : ByteArray) (hs : s.size ≤ 1000) (hf : fm.size ≤ 100) (w : World) :
    Calls Tryz.prog 26 #[.string s, .string fm] w fun e w' => e = .returned (.int .i64 (ansI (shL (nvar s) s.data.toList fm.data.toList))) ∧ w' = w := by
  have hmx : s.size ≤ maxLen := by unfold maxLen; omega
  have hnb := fnd_bd s 47 s.size 0
  have hnv : nvar s = fnd s 47 s.size 0 - 1 := rfl
  generalize hq : fnd s 47 s.size 0 = q at *
  have Hq := hide hq
  generalize hn : nvar s = n at *
  have Hnv := hide hnv
  clear hq hn hnv
  generalize hr : shL n s.data.toList fm.data.toList = r
  have Hr := hide hr
  clear hr
  go_enter Tryz.func26, Tryz.ntmps26
  go_wp2_with fail
  refine (find_any s hmx 47 w).mono ?_
  rintro e w' ⟨rfl, rfl⟩
  rw [unhide Hq]
  go_wp2_with fail
  rw [← unhide Hnv]
  have hnb2 : -2 ≤ n ∧ n ≤ 1000 := by have := unhide Hnv; omega
  go_loop [1, 6] (fun fs i => ∃ (k : Nat) (f : ByteArray), i = .int .i64 k ∧ fs = .string f ∧ k ≤ s.size ∧ f.size ≤ 100 + 7 * k ∧ Hid (r = (shL n (s.data.toList.drop k) f.data.toList).map (· + k))) (fun _ i => s.size - (intOf i).toNat)
  case atStart => exact ⟨0, fm, rfl, rfl, Nat.zero_le _, by omega, by rw [← unhide Hr]; simp [Hid]⟩
  case round =>
    obtain ⟨k, f, rfl, rfl, hk, hfs, HK⟩ := hrel
    by_cases hlt : k < s.size
    · have hx := s[k].toNat_lt
      have hd := drop_at s k hlt
      have hst := unhide HK
      rw [hd, shL] at hst
      have Hst := hide hst
      clear hst hd HK
      generalize hnx : nxtL s[k].toNat n f.data.toList = nx at *
      have Hnx := hide hnx
      clear hnx
      go_wp2_with fail
      refine (next_any f (by omega) _ n (by omega) (by omega) _).mono ?_
      rintro e w'' ⟨⟨t, ok, rfl, ht⟩, rfl⟩
      rw [unhide Hnx] at ht
      cases ok with
      | true =>
        have hl := nxtL_len _ _ _ _ ((unhide Hnx).trans ht)
        have hl2 : t.size ≤ f.size + 7 := by simpa using hl
        rw [if_pos rfl] at ht
        have hfin : r = (shL n (s.data.toList.drop (k + 1)) t.data.toList).map (· + (k + 1)) := by
          have := unhide Hst
          rw [ht] at this
          rw [this]
          simp [Option.map_map]
          congr 1
          funext a
          simp; omega
        have Hfin := hide hfin
        clear hfin ht hl
        go_wp2_with fail
        go_round
        case rel => exact ⟨k + 1, t, by go_num, rfl, by omega, by omega, Hfin⟩
        case measure => simp [intOf]; omega
      | false =>
        rw [if_neg (by simp)] at ht
        have hfin : r = some k := by
          have := unhide Hst
          rw [ht] at this
          rw [this]; simp
        have Hfin := hide hfin
        clear hfin ht
        go_wp2_with fail
        go_ret
        exact ⟨ret_int (by rw [unhide Hfin]; rfl), rfl⟩
    · have hst := unhide HK
      rw [List.drop_of_length_le (by simp; omega), shL] at hst
      have Hst := hide hst
      clear hst HK
      obtain rfl : k = s.size := by omega
      cases b66 : (f.toList == [66]) with
      | true =>
        have hfin : r = none := by
          have e : f.data.toList = [66] := by rw [← toList_data']; exact eq_of_beq b66
          rw [unhide Hst, if_pos (.inl e)]; rfl
        have Hfin := hide hfin
        clear hfin
        go_wp2_with fail
        go_ret
        exact ⟨ret_int (by rw [unhide Hfin]; rfl), rfl⟩
      | false =>
        cases b67 : (f.toList == [67]) with
        | true =>
          have hfin : r = none := by
            have e : f.data.toList = [67] := by rw [← toList_data']; exact eq_of_beq b67
            rw [unhide Hst, if_pos (.inr e)]; rfl
          have Hfin := hide hfin
          clear hfin
          go_wp2_with fail
          go_ret
          exact ⟨ret_int (by rw [unhide Hfin]; rfl), rfl⟩
        | false =>
          have hfin : r = some s.size := by
            have e1 : f.data.toList ≠ [66] := by rw [← toList_data']; exact ne_of_beq_false b66
            have e2 : f.data.toList ≠ [67] := by rw [← toList_data']; exact ne_of_beq_false b67
            rw [unhide Hst, if_neg (by rintro (e | e); exact e1 e; exact e2 e)]; simp
          have Hfin := hide hfin
          clear hfin
          go_wp2_with fail
          go_ret
          exact ⟨ret_int (by rw [unhide Hfin]; rfl), rfl⟩

set_option maxHeartbeats 1000000 in
theorem refCheck_any (s : ByteArray) (hmx : s.size ≤ maxLen) (w : World) :
    Calls Tryz.prog 16 #[.string s] w fun e w' => e = .returned (.tuple #[.int .i64 (rchk s).1, .int .i64 (rchk s).2]) ∧ w' = w := by
  unfold maxLen at hmx
  generalize hr : rchk s = r
  have Hr := hide hr
  clear hr
  by_cases hbig : 300 < s.size
  · have hfin : r = (1, 0) := by rw [← unhide Hr, rchk, if_pos hbig]
    have Hfin := hide hfin
    clear hfin
    go_enter Tryz.func16, Tryz.ntmps16
    go_wp2_with fail
    go_ret2
    exact ⟨by rw [unhide Hfin]; rfl, rfl⟩
  · have hsm : s.size ≤ 1000 := by omega
    have hfin : r = match shL (nvar s) s.data.toList kernF with | none => ((0 : Int), (0 : Int)) | some k => (2, (k : Int)) := by rw [← unhide Hr, rchk, if_neg hbig] <;> rfl
    have Hfin := hide hfin
    clear hfin Hr
    generalize hq : shL (nvar s) s.data.toList kernF = q at *
    have Hq := hide hq
    clear hq
    cases q with
    | none =>
      go_enter Tryz.func16, Tryz.ntmps16
      go_wp2_with fail
      refine (shape_any s ⟨kernF.toArray⟩ hsm (by decide) w).mono ?_
      rintro e w' ⟨rfl, rfl⟩
      rw [show shL (nvar s) s.data.toList (ByteArray.data ⟨kernF.toArray⟩).toList = none from unhide Hq]
      rw [show ansI none = -1 from rfl]
      go_wp2_with fail
      go_ret2
      exact ⟨by rw [unhide Hfin]; rfl, rfl⟩
    | some k =>
      go_enter Tryz.func16, Tryz.ntmps16
      go_wp2_with fail
      refine (shape_any s ⟨kernF.toArray⟩ hsm (by decide) w).mono ?_
      rintro e w' ⟨rfl, rfl⟩
      rw [show shL (nvar s) s.data.toList (ByteArray.data ⟨kernF.toArray⟩).toList = some k from unhide Hq]
      rw [show ansI (some k) = (k : Int) from rfl]
      go_wp2_with fail
      go_ret2
      exact ⟨by rw [unhide Hfin]; rfl, rfl⟩
end Go.Proofs.YtnkbfdbbcaffmaaGreatDoor
