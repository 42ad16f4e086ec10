import Derived.Test.YtnkbfdbbcaffmaaGreatDoorX06Agree2
import Derived.Test.YtnkbfdbbcaffmaaGreatDoorX08Ref3
import Derived.Test.YtnkbfdbbcaffmaaGreatDoorRows
import Derived.ProofKit
import Derived.LaidMore
import Derived.OpenShut
import Derived.Stop.Joined
import Derived.JoinedOf
/-
  The law Checks: its walk.
-/
namespace Go.Proofs.YtnkbfdbbcaffmaaGreatDoor
open Go.RowKit

/-- One step of a script, in its seven cells. -/
def OpAt (w : World) (b o : Nat) (kind n m p : Int) (S : ByteArray) (va vb : Value) : Prop :=
  w.cell? ⟨b, o, none⟩ = some (.int .i64 kind) ∧ w.cell? ⟨b, o + 1, none⟩ = some (.int .i64 n) ∧ w.cell? ⟨b, o + 2, none⟩ = some (.int .i64 m) ∧ w.cell? ⟨b, o + 3, none⟩ = some (.int .i64 p) ∧
  w.cell? ⟨b, o + 4, none⟩ = some (.string S) ∧ w.cell? ⟨b, o + 5, none⟩ = some va ∧ w.cell? ⟨b, o + 6, none⟩ = some vb

/-- A slice's value, and what a reading tells of it. -/
def IsSlice (v : Value) : Prop := ∃ a l c, v = .slice a l c

/-- A script that came in. -/
def IsScript (w : World) (ao : Option Addr) (len : Nat) : Prop :=
  len = 0 ∨ ∃ b off, ao = some ⟨b, off, none⟩ ∧ b < w.heap.size ∧ len ≤ maxLen ∧
    ∀ i, i < len → ∃ kind n m p S va vb, OpAt w b (off + i * 7) kind n m p S va vb ∧ S.size ≤ maxLen ∧ IsSlice va ∧ IsSlice vb

set_option maxHeartbeats 400000 in
theorem num_any (x : Int) (w : World) : Calls Tryz.prog 17 #[.int .i64 x] w fun e w' => e = .returned (.int .i64 x) ∧ w' = w := by
  go_enter Tryz.func17, Tryz.ntmps17
  go_wp2_with fail
  go_ret
  exact ⟨rfl, rfl⟩

set_option maxHeartbeats 400000 in
theorem holds_none (w : World) (k : Nat) (h : At w k 28 #[.slice none 0 0]) : Calls Tryz.prog 14 #[.pointer (some ⟨k, 0, none⟩)] w fun e w' => e = .returned (.bool true) ∧ w' = w := by
  have c0 := h.cell 0
  simp at c0
  go_enter Tryz.func14, Tryz.ntmps14
  go_wp2_with fail
  go_loop [3] (fun i => i = .int .i64 0) (fun _ => 0)
  case atStart => exact rfl
  case round =>
    subst hrel
    go_wp2_with fail
    go_ret
    exact ⟨rfl, rfl⟩

set_option maxHeartbeats 1000000 in
theorem plays_check (k : Nat) (n m p : Int) (S : ByteArray) (a1 a2 : Option Addr) (l1 c1 l2 c2 : Nat) (hS : S.size ≤ maxLen) (w : World) :
    Calls Tryz.prog 13 #[.pointer (some ⟨k, 0, none⟩), .agg #[.int .i64 1, .int .i64 n, .int .i64 m, .int .i64 p, .string S, .slice a1 l1 c1, .slice a2 l2 c2]] w fun e w' => e = .returned (.bool true) ∧ Below w.heap.size w w' := by
  have he := chk_eq S
  have e1 : (chk S).1 = (rchk S).1 := by rw [he]
  have e2 : (chk S).2 = (rchk S).2 := by rw [he]
  generalize hx : (chk S).1 = x at *
  generalize hy : (chk S).2 = y at *
  generalize hx' : (rchk S).1 = x' at *
  generalize hy' : (rchk S).2 = y' at *
  subst e1 e2
  have Hx := hide hx
  have Hy := hide hy
  have Hx' := hide hx'
  have Hy' := hide hy'
  clear hx hy hx' hy' he
  go_enter Tryz.func13, Tryz.ntmps13
  go_wp2_with fail
  refine (check_any S hS _).mono ?_
  rintro e w1 ⟨rfl, hb1⟩
  rw [unhide Hx, unhide Hy]
  have hA := At.new w 31 #[.int .i64 1, .int .i64 n, .int .i64 m, .int .i64 p, .string S, .slice a1 l1 c1, .slice a2 l2 c2]
  have hA1 : At w1 w.heap.size 31 #[.int .i64 1, .int .i64 n, .int .i64 m, .int .i64 p, .string S, .slice a1 l1 c1, .slice a2 l2 c2] := by
    unfold At at hA ⊢
    rw [hb1.block w.heap.size (by simp)]; exact hA
  have d4 := hA1.cell 4
  simp at d4
  have hB := (((Below.refl w.heap.size w).alloc (Nat.le_refl _) _).trans (hb1.mono (by simp)))
  clear hA hA1
  go_wp2_with fail
  refine (refCheck_any S hS _).mono ?_
  rintro e w2 ⟨rfl, rfl⟩
  rw [unhide Hx', unhide Hy']
  go_wp2_with fail
  refine (num_any _ _).mono ?_
  rintro e w3 ⟨rfl, rfl⟩
  go_wp2_with fail
  go_ret
  exact ⟨rfl, hB⟩

set_option maxHeartbeats 2000000 in
theorem upTo_checks (ao : Option Addr) (len cap : Nat) (w : World) (hs : IsScript w ao len) :
    Calls Tryz.prog 12 #[.slice ao len cap, .int .i64 1, .int .i64 1] w fun e w' => e = .returned (.int .i64 (-1)) ∧ Below w.heap.size w w' := by
  have hlen : len ≤ 9223372036854775807 := by
    rcases hs with rfl | ⟨_, _, _, _, h, _⟩
    · omega
    · unfold maxLen at h; omega
  go_enter Tryz.func12, Tryz.ntmps12
  go_wp2_with fail
  go_loopw [8] (fun i wr => ∃ k : Nat, i = .int .i64 k ∧ k ≤ len ∧ At wr w.heap.size 28 #[.slice none 0 0] ∧ Below w.heap.size w wr) (fun i _ => len - (intOf i).toNat)
  case atStart => exact ⟨0, rfl, Nat.zero_le _, At.new w _ _, (Below.refl _ _).alloc (Nat.le_refl _) _⟩
  case round =>
    obtain ⟨k, rfl, hk, hAk, hBk⟩ := hrel
    by_cases hlt : k < len
    · rcases hs with rfl | ⟨b, off, rfl, hb, hm, hall⟩
      · omega
      obtain ⟨kind, n, m, p, S, va, vb, hop, hS, ⟨a1, l1, c1, rfl⟩, ⟨a2, l2, c2, rfl⟩⟩ := hall k hlt
      obtain ⟨o0, o1, o2, o3, o4, o5, o6⟩ := hop
      rw [← hBk.cell (p := ⟨b, off + k * 7, none⟩) hb] at o0
      rw [← hBk.cell (p := ⟨b, off + k * 7 + 1, none⟩) hb] at o1
      rw [← hBk.cell (p := ⟨b, off + k * 7 + 2, none⟩) hb] at o2
      rw [← hBk.cell (p := ⟨b, off + k * 7 + 3, none⟩) hb] at o3
      rw [← hBk.cell (p := ⟨b, off + k * 7 + 4, none⟩) hb] at o4
      rw [← hBk.cell (p := ⟨b, off + k * 7 + 5, none⟩) hb] at o5
      rw [← hBk.cell (p := ⟨b, off + k * 7 + 6, none⟩) hb] at o6
      by_cases hkind : kind = 1
      · subst hkind
        have Hall := hide hall
        clear hall
        go_wp2_with fail
        refine (plays_check w.heap.size n m p S a1 a2 l1 c1 l2 c2 hS _).mono ?_
        rintro e w1 ⟨rfl, hb1⟩
        have hA1 : At w1 w.heap.size 28 #[.slice none 0 0] := by
          have := At.alloc hAk (.cells #[.int .i64 1, .int .i64 n, .int .i64 m, .int .i64 p, .string S, .slice a1 l1 c1, .slice a2 l2 c2] 31)
          have hl := this.lt
          unfold At at this ⊢
          rw [hb1.block _ hl]; exact this
        have hB1 := (hBk.alloc hBk.size _).trans (hb1.mono (by simp; exact Nat.le_succ_of_le hBk.size))
        go_wp2_with fail
        refine (holds_none w1 w.heap.size hA1).mono ?_
        rintro e w2 ⟨rfl, rfl⟩
        go_wp2_with fail
        go_roundw
        case rel => exact ⟨k + 1, by go_num, by omega, hA1, hB1⟩
        case measure => simp [intOf]; omega
      · have Hall := hide hall
        clear hall
        by_cases hlow : 1 ≤ kind
        · have hd : decide (kind ≤ 1) = false := by simp; omega
          go_wp2_with fail
          go_roundw
          case rel => exact ⟨k + 1, by go_num, by omega, At.alloc hAk _, hBk.alloc hBk.size _⟩
          case measure => simp [intOf]; omega
        · have hd : decide (1 ≤ kind) = false := by simp; omega
          go_wp2_with fail
          go_roundw
          case rel => exact ⟨k + 1, by go_num, by omega, At.alloc hAk _, hBk.alloc hBk.size _⟩
          case measure => simp [intOf]; omega
    · go_wp2_with fail
      go_ret
      exact ⟨rfl, hBk⟩

set_option maxHeartbeats 400000 in
theorem checks_walk (ao : Option Addr) (len cap : Nat) (w : World) (hs : IsScript w ao len) :
    Calls Tryz.prog 3 #[.slice ao len cap] w fun e w' => e = .returned (.bool true) ∧ Below w.heap.size w w' := by
  go_enter Tryz.func3, Tryz.ntmps3
  go_wp2_with fail
  refine (upTo_checks ao len cap w hs).mono ?_
  rintro e w1 ⟨rfl, hb⟩
  go_wp2_with fail
  go_ret
  exact ⟨rfl, hb⟩
end Go.Proofs.YtnkbfdbbcaffmaaGreatDoor
/-
  What the rows' listed variable asks: a world that meets it.
-/
namespace Go.Proofs.YtnkbfdbbcaffmaaGreatDoor
open Go.ChangeShapes Go.WideShapes Go.ChangeAt Go.RowKit

def laidL : List (String × DataW Unit) := [("leak/circuit.lane", Rows.laid_leak_circuit_lane)]
theorem door_met (os : Os) (args : Array Value) : laidMetH Tryz.prog laidL ((World.doorLaid Tryz.prog 400 os).forCall (fun _ _ => 0) ⟨#[], args, []⟩).memory :=
  laidMetH_of_parts3 (fuel := 8) (laidMet_of_run' 8 (by kernel_rfl) (by kernel_rfl)) (by kernel_rfl) (by kernel_rfl)
theorem and_mk {a b : Bool} (ha : a = true) (hb : b = true) : (a && b) = true := by rw [ha, hb]; rfl
end Go.Proofs.YtnkbfdbbcaffmaaGreatDoor
