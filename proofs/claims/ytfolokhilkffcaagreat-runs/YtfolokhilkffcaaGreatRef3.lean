/-
  The document's side: next, shape, Check.
-/
import Derived.Test.YtfolokhilkffcaaGreatRef2
namespace Go.Proofs.YtfolokhilkffcaaGreat
open Go.RowKit

/-- What may stand behind the byte c, where now stands a form. -/
def nxtL (c n : Int) : List UInt8 → Option (List UInt8)
  | [] => none
  | x :: rest =>
    if (x.toNat : Int) = 66 ∨ (x.toNat : Int) = 67 ∨ (x.toNat : Int) = 76 then
      if opB x.toNat c = true then some (opS c ++ (if (x.toNat : Int) = 76 then 67 :: rest else x :: rest))
      else if (x.toNat : Int) = 76 then none else nxtL c n rest
    else if stn x.toNat c n = true then some rest
    else if (x.toNat : Int) = 75 then nxtL c n rest else none

theorem drop_at (s : ByteArray) (k : Nat) (h : k < s.size) : s.data.toList.drop k = s[k] :: s.data.toList.drop (k + 1) := by
  rw [List.drop_eq_getElem_cons (by simpa using h)]; rfl

theorem opS_len (c : Int) : (opS c).length ≤ 7 := by
  unfold opS
  repeat' split
  all_goals simp

theorem ext_data (s : ByteArray) (a b : Nat) : (s.extract a b).data.toList = (s.data.toList.drop a).take (b - a) := by
  obtain ⟨⟨l⟩⟩ := s
  rw [ByteArray.extract_mk]
theorem ext_list (s : ByteArray) (k : Nat) : (s.extract k s.size).data.toList = s.data.toList.drop k := by
  rw [ext_data, List.take_of_length_le]
  rw [List.length_drop, Array.length_toList, ByteArray.size_data]
  exact Nat.le_refl _

theorem cat_list (a : List UInt8) (s : ByteArray) : ((⟨a.toArray⟩ : ByteArray) ++ s).data.toList = a ++ s.data.toList := by
  simp [ByteArray.data_append]
theorem cat_list3 (a : List UInt8) (s : ByteArray) : ((⟨a.toArray⟩ : ByteArray) ++ ⟨#[67]⟩ ++ s).data.toList = a ++ 67 :: s.data.toList := by
  simp [ByteArray.data_append]

/-- What next answers. -/
def NxP (r : Option (List UInt8)) (e : Ending) : Prop := ∃ t ok, e = .returned (.tuple #[.string t, .bool ok]) ∧ r = if ok then some t.data.toList else none

set_option maxHeartbeats 4000000 in
theorem next_any (fm : ByteArray) (hmx : fm.size ≤ 100000) (c n : Int) (h0 : 0 ≤ c) (h1 : c ≤ 255) (w : World) :
    Calls Tryz.prog 42 #[.string fm, .int .u8 c, .int .i64 n] w fun e w' => NxP (nxtL c n fm.data.toList) e ∧ w' = w := by
  generalize hr : nxtL c n fm.data.toList = r
  have Hr := hide hr
  clear hr
  go_enter Tryz.func42, Tryz.ntmps42
  go_wp2_with fail
  go_loop [8] (fun i => ∃ k : Nat, i = .int .i64 k ∧ k ≤ fm.size ∧ Hid (nxtL c n (fm.data.toList.drop k) = r)) (fun i => fm.size - (intOf i).toNat)
  case atStart => exact ⟨0, rfl, Nat.zero_le _, by simpa using Hr⟩
  case round =>
    obtain ⟨k, rfl, hk, HK⟩ := hrel
    by_cases hlt : k < fm.size
    · have hx := fm[k].toNat_lt
      have hd := drop_at fm k hlt
      have hst := unhide HK
      rw [hd, nxtL] at hst
      have Hst := hide hst
      have Hd := hide hd
      clear hst hd HK
      have hl := opS_len c
      have n1 : ¬ 9223372036854775807 < (opS c).length + 1 := by omega
      have n2 : ¬ 9223372036854775807 < (opS c).length + 1 + (fm.size - (k + 1)) := by omega
      have n3 : ¬ 9223372036854775807 < (opS c).length + (fm.size - k) := by omega
      by_cases hB : (fm[k].toNat : Int) = 66 ∨ (fm[k].toNat : Int) = 67 ∨ (fm[k].toNat : Int) = 76
      · cases ho : opB fm[k].toNat c with
        | true =>
          have Ho := hide ho
          clear ho
          by_cases hL : (fm[k].toNat : Int) = 76
          · have e66 : ((fm[k].toNat : Int) == 66) = false := by simp; omega
            have e67 : ((fm[k].toNat : Int) == 67) = false := by simp; omega
            have e76 : ((fm[k].toNat : Int) == 76) = true := by simp; omega
            have hfin : r = some (opS c ++ 67 :: fm.data.toList.drop (k + 1)) := by
              have := unhide Hst
              rw [if_pos hB, if_pos (unhide Ho), if_pos hL] at this
              exact this.symm
            have Hfin := hide hfin
            clear hfin hB hL
            go_wp2_with fail
            refine (opened_any _ _ _).mono ?_
            rintro e w' ⟨rfl, rfl⟩
            rw [unhide Ho]
            go_wp2_with fail
            go_ret2
            exact ⟨⟨_, true, rfl, by rw [unhide Hfin, cat_list3, ext_list]; rfl⟩, rfl⟩
          · have e76 : ((fm[k].toNat : Int) == 76) = false := by simp; omega
            have hfin : r = some (opS c ++ fm.data.toList.drop k) := by
              have := unhide Hst
              rw [if_pos hB, if_pos (unhide Ho), if_neg hL] at this
              rw [unhide Hd]
              exact this.symm
            have Hfin := hide hfin
            clear hfin
            have hB' : (fm[k].toNat : Int) = 66 ∨ (fm[k].toNat : Int) = 67 := by omega
            clear hB hL
            rcases hB' with hB' | hB'
            · have e66 : ((fm[k].toNat : Int) == 66) = true := by simpa using hB'
              clear hB'
              go_wp2_with fail
              refine (opened_any _ _ _).mono ?_
              rintro e w' ⟨rfl, rfl⟩
              rw [unhide Ho]
              go_wp2_with fail
              go_ret2
              exact ⟨⟨_, true, rfl, by rw [unhide Hfin, cat_list, ext_list]; rfl⟩, rfl⟩
            · have e66 : ((fm[k].toNat : Int) == 66) = false := by simp; omega
              have e67 : ((fm[k].toNat : Int) == 67) = true := by simpa using hB'
              clear hB'
              go_wp2_with fail
              refine (opened_any _ _ _).mono ?_
              rintro e w' ⟨rfl, rfl⟩
              rw [unhide Ho]
              go_wp2_with fail
              go_ret2
              exact ⟨⟨_, true, rfl, by rw [unhide Hfin, cat_list, ext_list]; rfl⟩, rfl⟩
        | false =>
          have Ho := hide ho
          clear ho
          by_cases hL : (fm[k].toNat : Int) = 76
          · have e66 : ((fm[k].toNat : Int) == 66) = false := by simp; omega
            have e67 : ((fm[k].toNat : Int) == 67) = false := by simp; omega
            have e76 : ((fm[k].toNat : Int) == 76) = true := by simp; omega
            have hfin : r = none := by
              have := unhide Hst
              rw [if_pos hB, if_neg (by rw [unhide Ho]; simp), if_pos hL] at this
              exact this.symm
            have Hfin := hide hfin
            clear hfin hB hL
            go_wp2_with fail
            refine (opened_any _ _ _).mono ?_
            rintro e w' ⟨rfl, rfl⟩
            rw [unhide Ho]
            go_wp2_with fail
            go_ret2
            exact ⟨⟨_, false, rfl, by rw [unhide Hfin]; rfl⟩, rfl⟩
          · have e76 : ((fm[k].toNat : Int) == 76) = false := by simp; omega
            have hfin : nxtL c n (fm.data.toList.drop (k + 1)) = r := by
              have := unhide Hst
              rw [if_pos hB, if_neg (by rw [unhide Ho]; simp), if_neg hL] at this
              exact this
            have Hfin := hide hfin
            clear hfin
            have hB' : (fm[k].toNat : Int) = 66 ∨ (fm[k].toNat : Int) = 67 := by omega
            clear hB hL
            rcases hB' with hB' | hB'
            · have e66 : ((fm[k].toNat : Int) == 66) = true := by simpa using hB'
              clear hB'
              go_wp2_with fail
              refine (opened_any _ _ _).mono ?_
              rintro e w' ⟨rfl, rfl⟩
              rw [unhide Ho]
              go_wp2_with fail
              go_round
              case rel => exact ⟨k + 1, by go_num, by omega, Hfin⟩
              case measure => simp [intOf]; omega
            · have e66 : ((fm[k].toNat : Int) == 66) = false := by simp; omega
              have e67 : ((fm[k].toNat : Int) == 67) = true := by simpa using hB'
              clear hB'
              go_wp2_with fail
              refine (opened_any _ _ _).mono ?_
              rintro e w' ⟨rfl, rfl⟩
              rw [unhide Ho]
              go_wp2_with fail
              go_round
              case rel => exact ⟨k + 1, by go_num, by omega, Hfin⟩
              case measure => simp [intOf]; omega
      · have e66 : ((fm[k].toNat : Int) == 66) = false := by simp; omega
        have e67 : ((fm[k].toNat : Int) == 67) = false := by simp; omega
        have e76 : ((fm[k].toNat : Int) == 76) = false := by simp; omega
        have hst2 := unhide Hst
        rw [if_neg hB] at hst2
        have Hst2 := hide hst2
        clear hst2 hB Hst
        cases ho : stn fm[k].toNat c n with
        | true =>
          have Ho := hide ho
          clear ho
          have hfin : r = some (fm.data.toList.drop (k + 1)) := by
            have := unhide Hst2
            rw [if_pos (unhide Ho)] at this
            exact this.symm
          have Hfin := hide hfin
          clear hfin
          go_wp2_with fail
          refine (stands_any _ _ _ _ h0 h1).mono ?_
          rintro e w' ⟨rfl, rfl⟩
          rw [unhide Ho]
          go_wp2_with fail
          go_ret2
          exact ⟨⟨_, true, rfl, by rw [unhide Hfin, ext_list]; rfl⟩, rfl⟩
        | false =>
          have Ho := hide ho
          clear ho
          by_cases hK : (fm[k].toNat : Int) = 75
          · have e75 : ((fm[k].toNat : Int) != 75) = false := by simpa using hK
            have hfin : nxtL c n (fm.data.toList.drop (k + 1)) = r := by
              have := unhide Hst2
              rw [if_neg (by rw [unhide Ho]; simp), if_pos hK] at this
              exact this
            have Hfin := hide hfin
            clear hfin hK
            go_wp2_with fail
            refine (stands_any _ _ _ _ h0 h1).mono ?_
            rintro e w' ⟨rfl, rfl⟩
            rw [unhide Ho]
            go_wp2_with fail
            go_round
            case rel => exact ⟨k + 1, by go_num, by omega, Hfin⟩
            case measure => simp [intOf]; omega
          · have e75 : ((fm[k].toNat : Int) != 75) = true := by simpa using hK
            have hfin : r = none := by
              have := unhide Hst2
              rw [if_neg (by rw [unhide Ho]; simp), if_neg hK] at this
              exact this.symm
            have Hfin := hide hfin
            clear hfin hK
            go_wp2_with fail
            refine (stands_any _ _ _ _ h0 h1).mono ?_
            rintro e w' ⟨rfl, rfl⟩
            rw [unhide Ho]
            go_wp2_with fail
            go_ret2
            exact ⟨⟨_, false, rfl, by rw [unhide Hfin]; rfl⟩, rfl⟩
    · have hfin : r = none := by
        have := unhide HK
        rw [List.drop_of_length_le (by simp; omega)] at this
        exact this.symm
      have Hfin := hide hfin
      clear hfin
      go_wp2_with fail
      go_ret2
      exact ⟨⟨_, false, rfl, by rw [unhide Hfin]; rfl⟩, rfl⟩
end Go.Proofs.YtfolokhilkffcaaGreat
