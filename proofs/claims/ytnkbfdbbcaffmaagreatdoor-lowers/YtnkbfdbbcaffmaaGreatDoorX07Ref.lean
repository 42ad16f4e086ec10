import Derived.Test.YtnkbfdbbcaffmaaGreatDoorX05Form
/-
  The document's side: find, in, opened, stands.
-/
namespace Go.Proofs.YtnkbfdbbcaffmaaGreatDoor
open Go.RowKit

set_option maxHeartbeats 400000 in
theorem find_any (s : ByteArray) (hmx : s.size ≤ maxLen) (c : Int) (w : World) :
    Calls Tryz.prog 49 #[.string s, .int .u8 c] w fun e w' => e = .returned (.int .i64 (fnd s c s.size 0)) ∧ w' = w := by
  unfold maxLen at hmx
  generalize hr : fnd s c s.size 0 = r
  have Hr := hide hr
  clear hr
  go_enter Tryz.func49, Tryz.ntmps49
  go_wp2_with fail
  go_loop [5] (fun i => ∃ k : Nat, i = .int .i64 k ∧ k ≤ s.size ∧ Hid (fnd s c (s.size - k) k = r)) (fun i => s.size - (intOf i).toNat)
  case atStart => exact ⟨0, rfl, Nat.zero_le _, by simpa using Hr⟩
  case round =>
    obtain ⟨k, rfl, hk, HK⟩ := hrel
    by_cases hlt : k < s.size
    · have hst : fnd s c (s.size - k) k = if (s[k].toNat : Int) = c then (k : Int) else fnd s c (s.size - (k + 1)) (k + 1) := by
        obtain ⟨f, hf⟩ : ∃ f, s.size - k = f + 1 := ⟨s.size - k - 1, by omega⟩
        rw [hf, fnd, dif_pos hlt, show s.size - (k + 1) = f from by omega]
      have Hst := hide hst
      clear hst
      by_cases hc : (s[k].toNat : Int) = c
      · have hb : ((s[k].toNat : Int) == c) = true := by simpa using hc
        have hrk : (k : Int) = r := by rw [← unhide HK, unhide Hst, if_pos hc]
        have Hrk := hide hrk
        clear hc hrk
        go_wp2_with fail
        go_ret
        exact ⟨ret_int (unhide Hrk), rfl⟩
      · have hb : ((s[k].toNat : Int) == c) = false := by simpa using hc
        have hrk : fnd s c (s.size - (k + 1)) (k + 1) = r := by rw [← unhide HK, unhide Hst, if_neg hc]
        have Hrk := hide hrk
        clear hc hrk
        go_wp2_with fail
        go_round
        case rel => exact ⟨k + 1, by go_num, by omega, Hrk⟩
        case measure => simp [intOf]; omega
    · have hrk : (-1 : Int) = r := by rw [← unhide HK, show s.size - k = 0 from by omega]; rfl
      have Hrk := hide hrk
      clear hrk
      go_wp2_with fail
      go_ret
      exact ⟨ret_int (unhide Hrk), rfl⟩

/-- Does the byte stand in the text from i on? -/
def inn (s : ByteArray) (c : Int) : Nat → Nat → Bool
  | 0, _ => false
  | f + 1, i => if h : i < s.size then ((s[i].toNat : Int) == c || inn s c f (i + 1)) else false

set_option maxHeartbeats 400000 in
theorem in_any (s : ByteArray) (hmx : s.size ≤ maxLen) (c : Int) (w : World) :
    Calls Tryz.prog 75 #[.string s, .int .u8 c] w fun e w' => e = .returned (.bool (inn s c s.size 0)) ∧ w' = w := by
  unfold maxLen at hmx
  generalize hr : inn s c s.size 0 = r
  have Hr := hide hr
  clear hr
  go_enter Tryz.func75, Tryz.ntmps75
  go_wp2_with fail
  go_loop [5] (fun i => ∃ k : Nat, i = .int .i64 k ∧ k ≤ s.size ∧ Hid (inn s c (s.size - k) k = r)) (fun i => s.size - (intOf i).toNat)
  case atStart => exact ⟨0, rfl, Nat.zero_le _, by simpa using Hr⟩
  case round =>
    obtain ⟨k, rfl, hk, HK⟩ := hrel
    by_cases hlt : k < s.size
    · have hst : inn s c (s.size - k) k = ((s[k].toNat : Int) == c || inn s c (s.size - (k + 1)) (k + 1)) := by
        obtain ⟨f, hf⟩ : ∃ f, s.size - k = f + 1 := ⟨s.size - k - 1, by omega⟩
        rw [hf, inn, dif_pos hlt, show s.size - (k + 1) = f from by omega]
      have Hst := hide hst
      clear hst
      cases hb : ((s[k].toNat : Int) == c) with
      | true =>
        have hrk : true = r := by rw [← unhide HK, unhide Hst, hb]; rfl
        have Hrk := hide hrk
        clear hrk
        go_wp2_with fail
        go_ret
        exact ⟨ret_bool (unhide Hrk), rfl⟩
      | false =>
        have hrk : inn s c (s.size - (k + 1)) (k + 1) = r := by rw [← unhide HK, unhide Hst, hb]; rfl
        have Hrk := hide hrk
        clear hrk
        go_wp2_with fail
        go_round
        case rel => exact ⟨k + 1, by go_num, by omega, Hrk⟩
        case measure => simp [intOf]; omega
    · have hrk : false = r := by rw [← unhide HK, show s.size - k = 0 from by omega]; rfl
      have Hrk := hide hrk
      clear hrk
      go_wp2_with fail
      go_ret
      exact ⟨ret_bool (unhide Hrk), rfl⟩

theorem inn_ops (c : Int) : inn ⟨#[43, 45, 38, 124, 94, 60, 61, 85, 68, 47, 37]⟩ c (ByteArray.size ⟨#[43, 45, 38, 124, 94, 60, 61, 85, 68, 47, 37]⟩) 0 = isOp c := by
  have e : ∀ a : Int, (a == c) = (c == a) := fun a => Bool.beq_comm
  show ((43 : Int) == c || ((45 : Int) == c || ((38 : Int) == c || ((124 : Int) == c || ((94 : Int) == c || ((60 : Int) == c || ((61 : Int) == c || ((85 : Int) == c || ((68 : Int) == c || ((47 : Int) == c || ((37 : Int) == c || false))))))))))) = isOp c
  simp only [e, isOp, Bool.or_assoc, Bool.or_false]

set_option maxHeartbeats 1000000 in
theorem opened_any (x c : Int) (w : World) :
    Calls Tryz.prog 83 #[.int .u8 x, .int .u8 c] w fun e w' => e = .returned (.tuple #[.string ⟨(opS c).toArray⟩, .bool (opB x c)]) ∧ w' = w := by
  generalize hs : opS c = l
  generalize hb : opB x c = r
  have Hs := hide hs
  have Hb := hide hb
  clear hs hb
  go_enter Tryz.func83, Tryz.ntmps83
  go_wp2_with fail
  all_goals
    go_ret2
    refine ⟨?_, rfl⟩
    rw [← unhide Hs, ← unhide Hb]
    simp_all [opS, opB]
end Go.Proofs.YtnkbfdbbcaffmaaGreatDoor
/-
  The document's side: stands.
-/
namespace Go.Proofs.YtnkbfdbbcaffmaaGreatDoor
open Go.RowKit

set_option maxHeartbeats 4000000 in
theorem stands_any (x c n : Int) (w : World) (h0 : 0 ≤ c) (h1 : c ≤ 255) :
    Calls Tryz.prog 84 #[.int .u8 x, .int .u8 c, .int .i64 n] w fun e w' => e = .returned (.bool (stn x c n)) ∧ w' = w := by
  generalize hr : stn x c n = r
  have Hr := hide hr
  clear hr
  go_enter Tryz.func84, Tryz.ntmps84
  go_wp2_with (go_at_call 75; refine (in_any _ (by decide) _ _).mono ?_; rintro e w' ⟨rfl, rfl⟩; rw [inn_ops])
  all_goals
    go_ret
    refine ⟨?_, rfl⟩
    rw [← unhide Hr]
    clear Hr
    apply ret_bool
    unfold stn isName isDig
    simp_all
    try omega
end Go.Proofs.YtnkbfdbbcaffmaaGreatDoor
