/-
  The maker: kinds, command, piece.
-/
import Derived.Test.YtfolokhilkffcaaKpA
namespace Go.Proofs.Ytfolokhilkffcaa
open Go.RowKit

section
variable {w w' : World} {b : Nat} {ao : Option Addr} {cin : Nat} {zs : List Int} {at_ : Nat} {text : ByteArray} {vars : Nat}

set_option maxHeartbeats 2000000 in
theorem kinds_any (h : Mkr w b ao cin zs at_ text vars) (n : Nat) (hn : n ≤ 100) :
    Calls Try.prog 19 #[.pointer (some ⟨b, 0, none⟩), .int .i64 n] w fun e w' => ∃ (s : ByteArray) (at' : Nat), e = .returned (.string s) ∧ s.size = n ∧ (∀ c ∈ s.data.toList, isLet c) ∧ Mkr w' b ao cin zs at' text vars ∧ w.grownBy w' (some b) := by
  have H := hide h
  clear h
  go_enter Try.func19, Try.ntmps19
  go_wp2_with fail
  go_loopw [5, 6] (fun ss i wr => ∃ (k : Nat) (s : ByteArray) (at' : Nat), i = .int .i64 k ∧ ss = .string s ∧ k ≤ n ∧ s.size = k ∧ Hid (∀ c ∈ s.data.toList, isLet c) ∧ Hid (Mkr wr b ao cin zs at' text vars) ∧ Hid (w.grownBy wr (some b))) (fun _ i _ => n - (intOf i).toNat)
  case atStart => exact ⟨0, ⟨#[]⟩, at_, rfl, rfl, Nat.zero_le _, rfl, fun c hc => by simp at hc, H, gb_refl _ _⟩
  case round =>
    obtain ⟨k, s, at', rfl, rfl, hk, hsz, hlet, hM, hgr⟩ := hrel
    have Hsz := hide hsz
    have hs100 : s.size ≤ 100 := by omega
    clear hsz
    by_cases hlt : k < n
    · have hns : ¬ 9223372036854775807 < s.size + 1 := by omega
      go_wp2_with fail
      refine (mpick_any (unhide hM) 2 (by omega) (by omega)).mono ?_
      rintro e w1 ⟨q, at2, rfl, hq, _, hM1, hg1⟩
      have HM1 := hide hM1
      have HG1 := hide (gb_trans (unhide hgr) hg1)
      clear hM1 hg1
      have hq2 : q = 0 ∨ q = 1 := by omega
      clear hq
      rcases hq2 with rfl | rfl
      · go_wp2_with fail
        go_roundw
        case rel => exact ⟨k + 1, _, at2, by go_num, rfl, by omega, by rw [size_list, ByteArray.data_append]; simp [unhide Hsz], fun c hc => by
          rw [ByteArray.data_append, Array.toList_append] at hc
          rcases List.mem_append.1 hc with hc | hc
          · exact unhide hlet c hc
          · left; simpa using hc, HM1, HG1⟩
        case measure => simp [intOf]; omega
      · go_wp2_with fail
        go_roundw
        case rel => exact ⟨k + 1, _, at2, by go_num, rfl, by omega, by rw [size_list, ByteArray.data_append]; simp [unhide Hsz], fun c hc => by
          rw [ByteArray.data_append, Array.toList_append] at hc
          rcases List.mem_append.1 hc with hc | hc
          · exact unhide hlet c hc
          · right; simpa using hc, HM1, HG1⟩
        case measure => simp [intOf]; omega
    · have e : k = n := by omega
      subst e
      go_wp2_with fail
      go_ret
      exact ⟨s, at', rfl, unhide Hsz, unhide hlet, unhide hM, unhide hgr⟩

def isC (c : UInt8) : Prop := c = 61 ∨ c = 108 ∨ c = 115 ∨ c = 63 ∨ c = 33

set_option maxHeartbeats 2000000 in
theorem command_any (h : Mkr w b ao cin zs at_ text vars) :
    Calls Try.prog 30 #[.pointer (some ⟨b, 0, none⟩)] w fun e w' => ∃ (cs : ByteArray) (at' : Nat), e = .returned (.string cs) ∧ (cs.data.toList = [] ∨ (text.size ≤ 120 ∧ ∃ c : UInt8, isC c ∧ cs.data.toList = c :: opS c.toNat)) ∧ Mkr w' b ao cin zs at' text vars ∧ w.grownBy w' (some b) := by
  obtain ⟨m0, m1, m2, m3, m4, mf⟩ := h.five
  have hp := hide (mpick_any h 10 (by omega) (by omega))
  clear h
  go_enter Try.func30, Try.ntmps30
  go_wp2_with fail
  refine (unhide hp).mono ?_
  rintro e w1 ⟨k, at2, rfl, hk, ht, hM1, hg1⟩
  have hk10 : k = 0 ∨ k = 1 ∨ k = 2 ∨ k = 3 ∨ k = 4 ∨ k = 5 ∨ k = 6 ∨ k = 7 ∨ k = 8 ∨ k = 9 := by omega
  clear hk
  rcases hk10 with rfl | rfl | rfl | rfl | rfl | rfl | rfl | rfl | rfl | rfl
  · go_wp2_with fail
    go_ret
    exact ⟨_, at2, rfl, .inl rfl, hM1, hg1⟩
  · go_wp2_with fail
    go_ret
    exact ⟨_, at2, rfl, .inr ⟨by have := ht; omega, 61, .inl rfl, rfl⟩, hM1, hg1⟩
  · go_wp2_with fail
    go_ret
    exact ⟨_, at2, rfl, .inr ⟨by have := ht; omega, 61, .inl rfl, rfl⟩, hM1, hg1⟩
  · go_wp2_with fail
    go_ret
    exact ⟨_, at2, rfl, .inr ⟨by have := ht; omega, 61, .inl rfl, rfl⟩, hM1, hg1⟩
  · go_wp2_with fail
    go_ret
    exact ⟨_, at2, rfl, .inr ⟨by have := ht; omega, 61, .inl rfl, rfl⟩, hM1, hg1⟩
  · go_wp2_with fail
    go_ret
    exact ⟨_, at2, rfl, .inr ⟨by have := ht; omega, 108, .inr (.inl rfl), rfl⟩, hM1, hg1⟩
  · go_wp2_with fail
    go_ret
    exact ⟨_, at2, rfl, .inr ⟨by have := ht; omega, 115, .inr (.inr (.inl rfl)), rfl⟩, hM1, hg1⟩
  · go_wp2_with fail
    go_ret
    exact ⟨_, at2, rfl, .inr ⟨by have := ht; omega, 63, .inr (.inr (.inr (.inl rfl))), rfl⟩, hM1, hg1⟩
  · go_wp2_with fail
    go_ret
    exact ⟨_, at2, rfl, .inr ⟨by have := ht; omega, 63, .inr (.inr (.inr (.inl rfl))), rfl⟩, hM1, hg1⟩
  · go_wp2_with fail
    go_ret
    exact ⟨_, at2, rfl, .inr ⟨by have := ht; omega, 33, .inr (.inr (.inr (.inr rfl))), rfl⟩, hM1, hg1⟩
end
end Go.Proofs.Ytfolokhilkffcaa
