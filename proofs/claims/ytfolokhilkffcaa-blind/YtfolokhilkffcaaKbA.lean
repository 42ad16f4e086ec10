/-
  stands, blind.
-/
import Derived.Test.YtfolokhilkffcaaKpK
namespace Go.Proofs.Ytfolokhilkffcaa
open Go.RowKit

/-- An answer, and what it says where it is no. -/
def Ans (w : World) (b : Bool) (P : Prop) (e : Ending) (w' : World) : Prop := ∃ bb, e = .returned (.bool bb) ∧ (bb = b → P) ∧ Below w.heap.size w w'

set_option maxHeartbeats 2000000 in
theorem stands_any (s : ByteArray) (hs : s.size ≤ 1000) (c : Int) (w : World) :
    Calls Try.prog 28 #[.string s, .int .u8 c] w (Ans w false (∀ z ∈ s.data.toList, (z.toNat : Int) ≠ c)) := by
  go_enter Try.func28, Try.ntmps28
  go_wp2_with fail
  go_loopw [5] (fun i wr => ∃ k : Nat, i = .int .i64 k ∧ k ≤ s.size ∧ Hid (∀ j (h : j < s.size), j < k → (s[j].toNat : Int) ≠ c) ∧ wr = w) (fun i _ => s.size - (intOf i).toNat)
  case atStart => exact ⟨0, rfl, Nat.zero_le _, fun j _ h => by omega, rfl⟩
  case round =>
    obtain ⟨k, rfl, hk, hn, rfl⟩ := hrel
    by_cases hlt : k < s.size
    · have hlI : (k : Int) < (s.size : Int) := by omega
      by_cases hc : (s[k].toNat : Int) = c
      · go_wp2_with fail
        go_ret
        exact ⟨true, rfl, fun e => Bool.noConfusion e, Below.refl _ _⟩
      · have hc2 : ((s[k].toNat : Int) == c) = false := by simpa using hc
        have Hc := hide hc
        clear hc
        go_wp2_with fail
        go_roundw
        case rel =>
          refine ⟨k + 1, by go_num, by omega, fun j h hj => ?_, by simp⟩
          by_cases e : j = k
          · subst e; exact unhide Hc
          · exact unhide hn j h (by omega)
        case measure => simp [intOf]; omega
    · go_wp2_with fail
      go_ret
      refine ⟨false, rfl, fun _ z hz => ?_, Below.refl _ _⟩
      obtain ⟨j, hj, rfl⟩ := List.mem_iff_getElem.1 hz
      have hj2 : j < s.size := by rw [size_list]; exact hj
      exact unhide hn j hj2 (by omega)

/-- No command reads the value i. -/
def NoRead (n i : Nat) (B : List UInt8) : Prop := (i < n → ∀ z ∈ B, (z.toNat : Int) ≠ 97 + i) ∧ (n ≤ i → ∀ z ∈ B, (z.toNat : Int) ≠ 108)

set_option maxHeartbeats 2000000 in
theorem blind_any (s ks : ByteArray) (W : Int) (n i : Nat) (hi : i ≤ 100) (hs : s.size ≤ 300) (hk : 3 + ks.size ≤ s.size) (w : World) :
    Calls Try.prog 17 #[.agg #[.string s, .string ks, .int .i64 W, .int .i64 n], .int .i64 i] w (Ans w true (NoRead n i (Lft s (3 + ks.size)))) := by
  have hBo := hide (fun w0 => Body_any s ks W n hs hk w0)
  have hll := lft_len s (3 + ks.size)
  have Hll := hide hll
  clear hll
  by_cases hlt : i < n
  · have hd : ¬ (n : Int) ≤ (i : Int) := by omega
    go_enter Try.func17, Try.ntmps17
    go_wp2_with fail
    refine (unhide hBo _).mono ?_
    rintro e w1 ⟨bb, rfl, hbb, hB1⟩
    have hA1 := (At.new w 24 #[.string s, .string ks, .int .i64 W, .int .i64 n]).below hB1 (by simp)
    obtain ⟨k0, k1, k2, k3⟩ := hA1.four
    have hst := hide (stands_any bb (by rw [size_list, hbb]; have := unhide Hll; omega) (97 + i) w1)
    rw [hbb] at hst
    go_wp2_with fail
    refine (unhide hst).mono ?_
    rintro e w2 ⟨b2, rfl, hb2, hB2⟩
    have HB := hide (((Below.refl w.heap.size w).alloc (Nat.le_refl _) (.cells #[.string s, .string ks, .int .i64 W, .int .i64 n] 24)).trans ((hB1.mono (by simp)).trans (hB2.mono (by have := hB1.size; simp at this; omega))))
    have Hb2 := hide hb2
    clear hB1 hB2 hb2 hbb
    go_wp2_with fail
    go_ret
    refine ⟨_, rfl, fun e => ⟨fun _ => unhide Hb2 (by simpa using e), fun h => by omega⟩, unhide HB⟩
  · have hd : (n : Int) ≤ (i : Int) := by omega
    go_enter Try.func17, Try.ntmps17
    go_wp2_with fail
    refine (unhide hBo _).mono ?_
    rintro e w1 ⟨bb, rfl, hbb, hB1⟩
    have hA1 := (At.new w 24 #[.string s, .string ks, .int .i64 W, .int .i64 n]).below hB1 (by simp)
    obtain ⟨k0, k1, k2, k3⟩ := hA1.four
    have hst := hide (stands_any bb (by rw [size_list, hbb]; have := unhide Hll; omega) 108 w1)
    rw [hbb] at hst
    go_wp2_with fail
    refine (unhide hst).mono ?_
    rintro e w2 ⟨b2, rfl, hb2, hB2⟩
    have HB := hide (((Below.refl w.heap.size w).alloc (Nat.le_refl _) (.cells #[.string s, .string ks, .int .i64 W, .int .i64 n] 24)).trans ((hB1.mono (by simp)).trans (hB2.mono (by have := hB1.size; simp at this; omega))))
    have Hb2 := hide hb2
    clear hB1 hB2 hb2 hbb
    go_wp2_with fail
    go_ret
    refine ⟨_, rfl, fun e => ⟨fun h => absurd h hlt, fun _ => unhide Hb2 (by simpa using e)⟩, unhide HB⟩
end Go.Proofs.Ytfolokhilkffcaa
