import Derived.Test.YtnkbfdbbcaffmabX15Mk
import Derived.Laws.BytesArg
import Derived.Deep.RegionHeld3
import Derived.BigRegion
/-
  The maker: pick, put.
-/
namespace Go.Proofs.Ytnkbfdbbcaffmab
open Go.RowKit

def inI (c : Int) : Prop := -9223372036854775808 ≤ c ∧ c ≤ 9223372036854775807
def pck (c n : Int) : Int := (if c < 0 then -(c + 1) else c) % n

theorem pck_bd (c : Int) {n : Int} (hn : 1 ≤ n) : 0 ≤ pck c n ∧ pck c n < n := by
  unfold pck
  exact ⟨Int.emod_nonneg _ (by omega), Int.emod_lt_of_pos _ (by omega)⟩

set_option maxHeartbeats 1000000 in
theorem pick_any (c n : Int) (hn : 1 ≤ n) (hn2 : n ≤ 1000000) (hc : inI c) (w : World) :
    Calls Try.prog 7 #[.int .i64 c, .int .i64 n] w fun e w' => e = .returned (.int .i64 (pck c n)) ∧ w' = w := by
  obtain ⟨h0, h1⟩ := hc
  unfold pck
  by_cases hlt : c < 0
  · rw [if_pos hlt]
    have e1 : IntKind.i64.wrap (c + 1) = c + 1 := by rw [IntKind.wrap_i64]; omega
    have e2 : IntKind.i64.wrap (-(c + 1)) = -(c + 1) := by rw [IntKind.wrap_i64]; omega
    have b1 := Int.emod_nonneg (-(c + 1)) (b := n) (by omega)
    have b2 := Int.emod_lt_of_pos (-(c + 1)) (b := n) (by omega)
    go_enter Try.func7, Try.ntmps7
    go_wp2_with fail
    go_ret
    exact ⟨ret_int (by rw [← Int.neg_tmod, Int.tmod_eq_emod_of_nonneg (by omega)]), rfl⟩
  · rw [if_neg hlt]
    go_enter Try.func7, Try.ntmps7
    go_wp2_with fail
    go_ret
    exact ⟨rfl, rfl⟩

/-- The maker in block b. -/
def Mkr (w : World) (b : Nat) (ao : Option Addr) (cin : Nat) (zs : List Int) (at_ : Nat) (text : ByteArray) (vars : Nat) : Prop :=
  At w b 48 #[.slice ao zs.length cin, .int .i64 at_, .string text, .int .i64 vars, .bool true] ∧ LiesB w b ao zs ∧ at_ ≤ zs.length ∧ zs.length ≤ 9223372036854775806 ∧ ∀ z ∈ zs, inI z

section
variable {w w' : World} {b : Nat} {ao : Option Addr} {cin : Nat} {zs : List Int} {at_ : Nat} {text : ByteArray} {vars : Nat}
theorem Mkr.five (h : Mkr w b ao cin zs at_ text vars) : w.cell? ⟨b, 0, none⟩ = some (.slice ao zs.length cin) ∧ w.cell? ⟨b, 1, none⟩ = some (.int .i64 at_) ∧ w.cell? ⟨b, 2, none⟩ = some (.string text) ∧ w.cell? ⟨b, 3, none⟩ = some (.int .i64 vars) ∧ w.cell? ⟨b, 4, none⟩ = some (.bool true) ∧ (∀ j, w.frozen? ⟨b, j, none⟩ = false) := by
  refine ⟨?_, ?_, ?_, ?_, ?_, fun j => h.1.frozen j⟩ <;> (rw [h.1.cell]; rfl)
theorem Mkr.lt (h : Mkr w b ao cin zs at_ text vars) : b < w.heap.size := h.1.lt
theorem Mkr.setAt (h : Mkr w b ao cin zs at_ text vars) (k : Nat) (hk : k ≤ zs.length) : Mkr (w.setCell ⟨b, 1, none⟩ (.int .i64 k)) b ao cin zs k text vars := by
  refine ⟨?_, h.2.1.below ((Below.refl b w).setCell (Nat.le_refl _) _) (Nat.le_refl _), hk, h.2.2.2⟩
  have := h.1.set 1 (.int .i64 k); simpa using this
theorem Mkr.setText (h : Mkr w b ao cin zs at_ text vars) (t : ByteArray) : Mkr (w.setCell ⟨b, 2, none⟩ (.string t)) b ao cin zs at_ t vars := by
  refine ⟨?_, h.2.1.below ((Below.refl b w).setCell (Nat.le_refl _) _) (Nat.le_refl _), h.2.2⟩
  have := h.1.set 2 (.string t); simpa using this
theorem Mkr.setVars (h : Mkr w b ao cin zs at_ text vars) (k : Nat) : Mkr (w.setCell ⟨b, 3, none⟩ (.int .i64 k)) b ao cin zs at_ text k := by
  refine ⟨?_, h.2.1.below ((Below.refl b w).setCell (Nat.le_refl _) _) (Nat.le_refl _), h.2.2⟩
  have := h.1.set 3 (.int .i64 k); simpa using this
theorem Mkr.grown (h : Mkr w b ao cin zs at_ text vars) (hg : w.grownBy w' none) : Mkr w' b ao cin zs at_ text vars :=
  ⟨h.1.grown hg (by simp), h.2.1.below (b := b) (B := b) ⟨hg.os, hg.tape, hg.output, hg.size, fun k hk => hg.block k (by have := h.lt; omega) (by simp)⟩ (Nat.le_refl _), h.2.2⟩

set_option maxHeartbeats 2000000 in
theorem mpick_any (h : Mkr w b ao cin zs at_ text vars) (n : Int) (hn : 1 ≤ n) (hn2 : n ≤ 1000000) :
    Calls Try.prog 19 #[.pointer (some ⟨b, 0, none⟩), .int .i64 n] w fun e w' => ∃ (k : Nat) (at' : Nat), e = .returned (.int .i64 k) ∧ (k : Int) < n ∧ (120 < text.size → k = 0) ∧ Mkr w' b ao cin zs at' text vars ∧ w.grownBy w' (some b) := by
  obtain ⟨m0, m1, m2, m3, m4, mf⟩ := h.five
  have hl1 := h.2.2.1
  have hl2 := h.2.2.2.1
  by_cases hend : zs.length ≤ at_
  · have hd : decide ((zs.length : Int) ≤ (at_ : Int)) = true := by simp; omega
    go_enter Try.func19, Try.ntmps19
    go_wp2_with fail
    go_quiet (fail)
    go_wp2_with fail
    go_ret
    exact ⟨0, at_, rfl, by omega, fun _ => rfl, h.grown (gb_drewN (gb_refl w none) _), gb_drewN (gb_refl w _) _⟩
  · have hd : decide ((zs.length : Int) ≤ (at_ : Int)) = false := by simp; omega
    by_cases ht : 120 < text.size
    · have hd2 : decide ((120 : Int) < (text.size : Int)) = true := by simp; omega
      go_enter Try.func19, Try.ntmps19
      go_wp2_with fail
      go_quiet (fail)
      go_wp2_with fail
      go_ret
      exact ⟨0, at_, rfl, by omega, fun _ => rfl, h.grown (gb_drewN (gb_refl w none) _), gb_drewN (gb_refl w _) _⟩
    · have hd2 : decide ((120 : Int) < (text.size : Int)) = false := by simp; omega
      have hlt : at_ < zs.length := by omega
      obtain ⟨ab, off, rfl, hLL, hab⟩ : ∃ ab off, ao = some ⟨ab, off, none⟩ ∧ Lies w ⟨ab, off, none⟩ zs ∧ ab < b := by
        rcases h.2.1 with hn | h'
        · rw [hn] at hlt; simp at hlt
        · exact h'
      have hz := h.2.2.2.2 zs[at_] (List.getElem_mem hlt)
      have hc := hLL.at_ at_ hlt
      have hgd : zs.getD at_ 0 = zs[at_] := by simp [List.getD, hlt]
      rw [hgd] at hc
      have hb := pck_bd zs[at_] hn
      have HP := hide (fun w0 => pick_any zs[at_] n hn hn2 hz w0)
      have HI := hide h
      clear hLL hgd hz hend h
      generalize zs[at_] = z at *
      obtain ⟨k, hk⟩ : ∃ k : Nat, pck z n = (k : Int) := ⟨(pck z n).toNat, by omega⟩
      rw [hk] at hb
      simp only [hk] at HP
      clear hk
      have hlI : (at_ : Int) < (zs.length : Int) := by omega
      go_enter Try.func19, Try.ntmps19
      go_wp2_with fail
      go_quiet (fail)
      go_wp2_with fail
      have hS0 := And.intro m0 (And.intro m1 hc)
      go_region_held3 (fun w' => w'.cell? ⟨b, 0, none⟩ = some (.slice (some ⟨ab, off, none⟩) zs.length cin) ∧ w'.cell? ⟨b, 1, none⟩ = some (.int .i64 at_) ∧ w'.cell? ⟨ab, off + at_, none⟩ = some (.int .i64 z)) (first | assumption | go_keep)
        ((go_at_call 7; refine (unhide HP _).mono ?_; rintro e w4 ⟨rfl, rfl⟩))
      go_wp2_with fail
      go_ret
      have hM := ((unhide HI).grown (gb_drewN (gb_refl w none) (nq + 1))).setAt (at_ + 1) hlt
      exact ⟨k, at_ + 1, rfl, hb.2, fun e => absurd e ht, hM, gb_set (gb_drewN (gb_refl w _) _) _ (.inl rfl)⟩

theorem one_conv (w : World) (c : UInt8) : (convert 51 9 (.slice (some ⟨w.heap.size, 0, none⟩) 1 1)).run Try.prog (w.alloc (.cells #[.int .u8 c.toNat] 5)).drew = .ok (.string (strOfNums [(c.toNat : Int)])) (w.alloc (.cells #[.int .u8 c.toNat] 5)).drew := by
  refine run_convert_bytes_arg (P := Try.prog) _ 51 5 Try.underlying51 Try.underlying5 w.heap.size 0 1 1 [(c.toNat : Int)] rfl (fun i hi => ?_) 9 Try.underlying9
  have e : i = 0 := by omega
  subst e
  have h := At.cell (At.new w 5 #[.int .u8 c.toNat]) 0
  show World.cell? _ _ = _
  rw [World.cell?_drew, Nat.zero_add, h]; rfl

set_option maxHeartbeats 2000000 in
theorem put_any (h : Mkr w b ao cin zs at_ text vars) (hts : text.size ≤ 1000000) (c : UInt8) :
    Calls Try.prog 33 #[.pointer (some ⟨b, 0, none⟩), .int .u8 c.toNat] w fun e w' => ∃ t', t'.data.toList = text.data.toList ++ [c] ∧ e = .returned (.tuple #[]) ∧ Mkr w' b ao cin zs at_ t' vars ∧ w.grownBy w' (some b) := by
  obtain ⟨m0, m1, m2, m3, m4, mf⟩ := h.five
  have hlt := h.lt
  have hcv := one_conv w c
  have hst : (strOfNums [(c.toNat : Int)]).data.toList = [c] := by simp [strOfNums]
  have hsz : (strOfNums [(c.toNat : Int)]).size = 1 := by rw [size_list, hst]; rfl
  generalize strOfNums [(c.toNat : Int)] = sc at *
  have hns : ¬ 9223372036854775807 < text.size + 1 := by omega
  have Hst := hide hst
  clear hst
  go_enter Try.func33, Try.ntmps33
  go_wp2_with fail
  go_region
  go_wp2_with fail
  go_end0
  refine ⟨text ++ sc, ?_, rfl, (h.setText _).grown (gb_drew (gb_alloc (gb_refl _ _) _)), gb_drew (gb_alloc (gb_set (gb_refl _ _) _ (.inl rfl)) _)⟩
  rw [ByteArray.data_append, Array.toList_append, unhide Hst]
end
end Go.Proofs.Ytnkbfdbbcaffmab
/-
  The maker: kinds, command, piece.
-/
namespace Go.Proofs.Ytnkbfdbbcaffmab
open Go.RowKit

section
variable {w w' : World} {b : Nat} {ao : Option Addr} {cin : Nat} {zs : List Int} {at_ : Nat} {text : ByteArray} {vars : Nat}

set_option maxHeartbeats 2000000 in
theorem kinds_any (h : Mkr w b ao cin zs at_ text vars) (n : Nat) (hn : n ≤ 100) :
    Calls Try.prog 20 #[.pointer (some ⟨b, 0, none⟩), .int .i64 n] w fun e w' => ∃ (s : ByteArray) (at' : Nat), e = .returned (.string s) ∧ s.size = n ∧ (∀ c ∈ s.data.toList, isLet c) ∧ Mkr w' b ao cin zs at' text vars ∧ w.grownBy w' (some b) := by
  have H := hide h
  clear h
  go_enter Try.func20, Try.ntmps20
  go_wp2_with fail
  go_loopw [5, 6] (fun ss i wr => ∃ (k : Nat) (s : ByteArray) (at' : Nat), i = .int .i64 k ∧ ss = .string s ∧ k ≤ n ∧ s.size = k ∧ Hid (∀ c ∈ s.data.toList, isLet c) ∧ Hid (Mkr wr b ao cin zs at' text vars) ∧ Hid (w.grownBy wr (some b))) (fun _ i _ => n - (intOf i).toNat)
  case atStart => exact ⟨0, ⟨#[]⟩, at_, rfl, rfl, Nat.zero_le _, rfl, fun c hc => by simp at hc, H, gb_refl _ _⟩
  case round =>
    obtain ⟨k, s, at', rfl, rfl, hk, hsz, hlet, hM, hgr⟩ := hrel
    have Hsz := hide hsz
    have hs100 : s.size ≤ 100 := by omega
    clear hsz
    by_cases hlt : k < n
    · have hns : ¬ 9223372036854775807 < s.size + 1 := by omega
      go_wp2_with fail
      refine (mpick_any (unhide hM) 2 (by omega) (by omega)).mono ?_
      rintro e w1 ⟨q, at2, rfl, hq, _, hM1, hg1⟩
      have HM1 := hide hM1
      have HG1 := hide (gb_trans (unhide hgr) hg1)
      clear hM1 hg1
      have hq2 : q = 0 ∨ q = 1 := by omega
      clear hq
      rcases hq2 with rfl | rfl
      · go_wp2_with fail
        go_roundw
        case rel => exact ⟨k + 1, _, at2, by go_num, rfl, by omega, by rw [size_list, ByteArray.data_append]; simp [unhide Hsz], fun c hc => by
          rw [ByteArray.data_append, Array.toList_append] at hc
          rcases List.mem_append.1 hc with hc | hc
          · exact unhide hlet c hc
          · left; simpa using hc, HM1, HG1⟩
        case measure => simp [intOf]; omega
      · go_wp2_with fail
        go_roundw
        case rel => exact ⟨k + 1, _, at2, by go_num, rfl, by omega, by rw [size_list, ByteArray.data_append]; simp [unhide Hsz], fun c hc => by
          rw [ByteArray.data_append, Array.toList_append] at hc
          rcases List.mem_append.1 hc with hc | hc
          · exact unhide hlet c hc
          · right; simpa using hc, HM1, HG1⟩
        case measure => simp [intOf]; omega
    · have e : k = n := by omega
      subst e
      go_wp2_with fail
      go_ret
      exact ⟨s, at', rfl, unhide Hsz, unhide hlet, unhide hM, unhide hgr⟩

def isC (c : UInt8) : Prop := c = 61 ∨ c = 108 ∨ c = 115 ∨ c = 63 ∨ c = 33

set_option maxHeartbeats 2000000 in
theorem command_any (h : Mkr w b ao cin zs at_ text vars) :
    Calls Try.prog 32 #[.pointer (some ⟨b, 0, none⟩)] w fun e w' => ∃ (cs : ByteArray) (at' : Nat), e = .returned (.string cs) ∧ (cs.data.toList = [] ∨ (text.size ≤ 120 ∧ ∃ c : UInt8, isC c ∧ cs.data.toList = c :: opS c.toNat)) ∧ Mkr w' b ao cin zs at' text vars ∧ w.grownBy w' (some b) := by
  obtain ⟨m0, m1, m2, m3, m4, mf⟩ := h.five
  have hp := hide (mpick_any h 10 (by omega) (by omega))
  clear h
  go_enter Try.func32, Try.ntmps32
  go_wp2_with fail
  refine (unhide hp).mono ?_
  rintro e w1 ⟨k, at2, rfl, hk, ht, hM1, hg1⟩
  have hk10 : k = 0 ∨ k = 1 ∨ k = 2 ∨ k = 3 ∨ k = 4 ∨ k = 5 ∨ k = 6 ∨ k = 7 ∨ k = 8 ∨ k = 9 := by omega
  clear hk
  rcases hk10 with rfl | rfl | rfl | rfl | rfl | rfl | rfl | rfl | rfl | rfl
  · go_wp2_with fail
    go_ret
    exact ⟨_, at2, rfl, .inl rfl, hM1, hg1⟩
  · go_wp2_with fail
    go_ret
    exact ⟨_, at2, rfl, .inr ⟨by have := ht; omega, 61, .inl rfl, rfl⟩, hM1, hg1⟩
  · go_wp2_with fail
    go_ret
    exact ⟨_, at2, rfl, .inr ⟨by have := ht; omega, 61, .inl rfl, rfl⟩, hM1, hg1⟩
  · go_wp2_with fail
    go_ret
    exact ⟨_, at2, rfl, .inr ⟨by have := ht; omega, 61, .inl rfl, rfl⟩, hM1, hg1⟩
  · go_wp2_with fail
    go_ret
    exact ⟨_, at2, rfl, .inr ⟨by have := ht; omega, 61, .inl rfl, rfl⟩, hM1, hg1⟩
  · go_wp2_with fail
    go_ret
    exact ⟨_, at2, rfl, .inr ⟨by have := ht; omega, 108, .inr (.inl rfl), rfl⟩, hM1, hg1⟩
  · go_wp2_with fail
    go_ret
    exact ⟨_, at2, rfl, .inr ⟨by have := ht; omega, 115, .inr (.inr (.inl rfl)), rfl⟩, hM1, hg1⟩
  · go_wp2_with fail
    go_ret
    exact ⟨_, at2, rfl, .inr ⟨by have := ht; omega, 63, .inr (.inr (.inr (.inl rfl))), rfl⟩, hM1, hg1⟩
  · go_wp2_with fail
    go_ret
    exact ⟨_, at2, rfl, .inr ⟨by have := ht; omega, 63, .inr (.inr (.inr (.inl rfl))), rfl⟩, hM1, hg1⟩
  · go_wp2_with fail
    go_ret
    exact ⟨_, at2, rfl, .inr ⟨by have := ht; omega, 33, .inr (.inr (.inr (.inr rfl))), rfl⟩, hM1, hg1⟩
end
end Go.Proofs.Ytnkbfdbbcaffmab
