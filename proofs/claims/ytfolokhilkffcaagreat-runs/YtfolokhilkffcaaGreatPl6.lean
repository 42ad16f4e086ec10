/-
  size, block.
-/
import Derived.Test.YtfolokhilkffcaaGreatPl5
import Derived.Test.YtfolokhilkffcaaGreatRef3
import Derived.Deep.RegionHeld3
import Derived.BigRegion
namespace Go.Proofs.YtfolokhilkffcaaGreat
open Go.RowKit

def szl (c : Int) : Nat := if c = 61 then 5 else if c = 108 then 3 else if c = 115 then 3 else if c = 106 then 3 else if c = 122 then 4 else 1

set_option maxHeartbeats 1000000 in
theorem size_any (c : Int) (w : World) : Calls Tryz.prog 44 #[.int .u8 c] w fun e w' => e = .returned (.int .i64 (szl c)) ∧ w' = w := by
  generalize hr : szl c = r
  have Hr := hide hr
  clear hr
  go_enter Tryz.func44, Tryz.ntmps44
  go_wp2_with fail
  all_goals
    go_ret
    refine ⟨?_, rfl⟩
    rw [← unhide Hr]
    simp_all [szl]

set_option maxHeartbeats 2000000 in
theorem block_any (t : ByteArray) (hmx : t.size ≤ maxLen) (e : Nat) (he : e < t.size) (D : Nat → Int) (h0 : D 0 = 0)
    (hs : ∀ k (h : k < e), D (k + 1) = D k + (if ((t[k]'(by omega)).toNat : Int) = 40 then 1 else if ((t[k]'(by omega)).toNat : Int) = 41 then -1 else 0)) (hp : ∀ k, k < e → 1 ≤ D (k + 1)) (hD : ∀ k, D k ≤ k) (he1 : D e = 1) (hb : (t[e].toNat : Int) = 41) (w : World) :
    Calls Tryz.prog 71 #[.string t] w fun r w' => r = .returned (.tuple #[.string (t.extract 1 e), .string (t.extract (e + 1) t.size)]) ∧ w' = w.drew := by
  unfold maxLen at hmx
  have HS := hide hs
  have H0 := hide h0
  have H1 := hide he1
  clear hs h0 he1
  go_enter Tryz.func71, Tryz.ntmps71
  go_wp2_with fail
  have HP := hide hp
  have HD := hide hD
  clear hp hD
  go_loop [4, 5] (fun ds i => ∃ (k : Nat) (d : Int), i = .int .i64 k ∧ ds = .int .i64 d ∧ k ≤ e ∧ 0 ≤ d ∧ d ≤ k ∧ Hid (d = D k)) (fun _ i => t.size - (intOf i).toNat)
  case atStart => exact ⟨0, 0, rfl, rfl, Nat.zero_le _, by omega, by omega, (unhide H0).symm⟩
  case round =>
    obtain ⟨k, d, rfl, rfl, hk, hd0, hdk, HK⟩ := hrel
    by_cases hlt : k < e
    · have hkt : k < t.size := by omega
      have hst := unhide HS k hlt
      have hp1 := unhide HP k hlt
      have hDk := unhide HD (k + 1)
      rw [← unhide HK] at hst
      by_cases h40 : (t[k].toNat : Int) = 40
      · rw [if_pos h40] at hst
        have e40 : ((t[k].toNat : Int) == 40) = true := by simp; omega
        have e41 : ((t[k].toNat : Int) == 41) = false := by simp; omega
        have Hst := hide hst
        rw [hst] at hp1 hDk
        clear hst h40
        go_wp2_with fail
        go_round
        case rel => exact ⟨k + 1, d + 1, by go_num, by go_num, by omega, by omega, by omega, (unhide Hst).symm⟩
        case measure => simp [intOf]; omega
      · rw [if_neg h40] at hst
        have e40 : ((t[k].toNat : Int) == 40) = false := by simp; omega
        by_cases h41 : (t[k].toNat : Int) = 41
        · rw [if_pos h41] at hst
          have e41 : ((t[k].toNat : Int) == 41) = true := by simp; omega
          have Hst := hide hst
          rw [hst] at hp1 hDk
          clear hst h40 h41
          have hdz : (d - 1 == 0) = false := by simp; omega
          go_wp2_with fail
          go_round
          case rel => exact ⟨k + 1, d - 1, by go_num, by go_num, by omega, by omega, by omega, by rw [unhide Hst]; rfl⟩
          case measure => simp [intOf]; omega
        · rw [if_neg h41] at hst
          have e41 : ((t[k].toNat : Int) == 41) = false := by simp; omega
          have Hst := hide hst
          rw [hst] at hp1 hDk
          clear hst h40 h41
          go_wp2_with fail
          go_round
          case rel => exact ⟨k + 1, d, by go_num, by go_num, by omega, by omega, by omega, by rw [unhide Hst]; exact (Int.add_zero d).symm⟩
          case measure => simp [intOf]; omega
    · have hke : k = e := by omega
      subst hke
      have hd1 : d = 1 := by rw [unhide HK]; exact unhide H1
      subst hd1
      have e40 : ((t[k].toNat : Int) == 40) = false := by simp; omega
      have e41 : ((t[k].toNat : Int) == 41) = true := by simp; omega
      have hk1 : 1 ≤ k := by
        rcases Nat.eq_zero_or_pos k with e | e
        · have h := unhide H1; rw [e, unhide H0] at h; cases h
        · exact e
      clear hb
      go_wp2_with fail
      have f1 : (1 : Int) ≤ (k : Int) := by omega
      have f2 : (k : Int) ≤ (t.size : Int) := by omega
      have f3 : IntKind.i64.wrap ((k : Int) + 1) = (k : Int) + 1 := by rw [IntKind.wrap_i64]; omega
      have f4 : (k : Int) + 1 ≤ (t.size : Int) := by omega
      have f5 : ((k : Int) + 1).toNat = k + 1 := by omega
      have f6 : (0 : Int) ≤ (k : Int) + 1 := by omega
      go_region_held3 (fun _ => True) (first | trivial | go_keep) (fail)
      go_wp2_with fail
      go_ret2
      exact ⟨rfl, rfl⟩

/-- How deep a text leads. -/
def dpt : List UInt8 → Int
  | [] => 0
  | c :: l => (if (c.toNat : Int) = 40 then 1 else if (c.toNat : Int) = 41 then -1 else 0) + dpt l
theorem dpt_append : ∀ a b, dpt (a ++ b) = dpt a + dpt b
  | [], b => by simp [dpt]
  | c :: l, b => by simp only [List.cons_append, dpt, dpt_append l b]; omega
theorem dpt_le : ∀ a, dpt a ≤ a.length
  | [] => by simp [dpt]
  | c :: l => by
    have := dpt_le l
    simp only [dpt, List.length_cons]
    split
    · omega
    · split <;> omega
/-- Each bracket has its fellow. -/
def Bal (A : List UInt8) : Prop := dpt A = 0 ∧ ∀ k, 0 ≤ dpt (A.take k)

theorem byte_list (t : ByteArray) (k : Nat) (h : k < t.size) : t.data.toList[k]? = some t[k] := by
  rw [List.getElem?_eq_getElem (by simpa using h)]; rfl
theorem byte_eq {t : ByteArray} {k : Nat} (h : k < t.size) {c : UInt8} (e : t.data.toList[k]? = some c) : t[k] = c := by
  rw [byte_list t k h] at e; exact Option.some.inj e
theorem size_list (t : ByteArray) : t.size = t.data.toList.length := by simp

theorem block_bal (t : ByteArray) (hmx : t.size ≤ maxLen) (A R : List UInt8) (ht : t.data.toList = 40 :: (A ++ 41 :: R)) (hA : Bal A) (w : World) :
    Calls Tryz.prog 71 #[.string t] w fun r w' => ∃ x y, r = .returned (.tuple #[.string x, .string y]) ∧ x.data.toList = A ∧ y.data.toList = R ∧ w' = w.drew := by
  have hsz : t.size = A.length + 2 + R.length := by rw [size_list, ht]; simp; omega
  have he : A.length + 1 < t.size := by omega
  have hl : ∀ k, k ≤ A.length + 1 → t.data.toList.take k = (40 :: A).take k := fun k hk => by
    rw [ht, show (40 :: (A ++ 41 :: R) : List UInt8) = (40 :: A) ++ 41 :: R from rfl, List.take_append_of_le_length (by simpa using hk)]
  refine (block_any t hmx (A.length + 1) he (fun k => dpt (t.data.toList.take k)) (by simp [dpt]) ?_ ?_ ?_ ?_ ?_ w).mono ?_
  · intro k hk
    have hkt : k < t.data.toList.length := by rw [← size_list]; omega
    show dpt (t.data.toList.take (k + 1)) = _
    rw [List.take_succ_eq_append_getElem hkt, dpt_append]
    have e : t.data.toList[k] = t[k]'(by omega) := rfl
    rw [e]
    simp only [dpt, Int.add_zero]
  · intro k hk
    show 1 ≤ dpt (t.data.toList.take (k + 1))
    rw [hl (k + 1) (by omega), List.take_succ_cons, dpt]
    have := hA.2 k
    rw [if_pos (by decide)]; omega
  · intro k
    have := dpt_le (t.data.toList.take k)
    have h2 : (t.data.toList.take k).length ≤ k := List.length_take_le _ _
    show dpt (t.data.toList.take k) ≤ k
    omega
  · show dpt (t.data.toList.take (A.length + 1)) = 1
    rw [hl _ (Nat.le_refl _), List.take_of_length_le (by simp), dpt, hA.1, if_pos (by decide)]; rfl
  · have h : t.data.toList[A.length + 1]? = some 41 := by rw [ht]; simp
    rw [byte_eq he h]; rfl
  · rintro r w' ⟨rfl, rfl⟩
    refine ⟨_, _, rfl, ?_, ?_, rfl⟩
    · rw [ext_data, ht]; simp
    · rw [ext_list, ht]; simp [List.drop_append]
end Go.Proofs.YtfolokhilkffcaaGreat
