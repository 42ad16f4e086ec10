import Derived.Test.YtnkbfdbbcaffmaaGreatDoorX17RunK
import Derived.Test.YtnkbfdbbcaffmaaGreatDoorX19Hd
/-
  Lists of numbers in memory.
-/
namespace Go.Proofs.YtnkbfdbbcaffmaaGreatDoor
open Go.RowKit

/-- A list of numbers, wherever it lies. -/
def LiesO (w : World) (ao : Option Addr) (zs : List Int) : Prop := zs = [] ∨ ∃ ab off, ao = some ⟨ab, off, none⟩ ∧ Lies w ⟨ab, off, none⟩ zs ∧ ab < w.heap.size

theorem LiesO.grown {w w' : World} {ao : Option Addr} {zs : List Int} (h : LiesO w ao zs) (hg : w.grownBy w' none) : LiesO w' ao zs := by
  rcases h with h | ⟨ab, off, e, hL, hlt⟩
  · exact .inl h
  · exact .inr ⟨ab, off, e, hL.grown hg (by simp), Nat.lt_of_lt_of_le hlt hg.size⟩

/-- A list of numbers below block b. -/
def LiesB (w : World) (b : Nat) (ao : Option Addr) (zs : List Int) : Prop := zs = [] ∨ ∃ ab off, ao = some ⟨ab, off, none⟩ ∧ Lies w ⟨ab, off, none⟩ zs ∧ ab < b
theorem LiesB.toO {w : World} {b : Nat} {ao : Option Addr} {zs : List Int} (h : LiesB w b ao zs) (hb : b ≤ w.heap.size) : LiesO w ao zs := by
  rcases h with h | ⟨ab, off, e, hL, hlt⟩
  · exact .inl h
  · exact .inr ⟨ab, off, e, hL, by omega⟩
theorem Lies.below {w w' : World} {ab off b : Nat} {zs : List Int} (h : Lies w ⟨ab, off, none⟩ zs) (hB : Below b w w') (hab : ab < b) : Lies w' ⟨ab, off, none⟩ zs := fun j v hv => by
  have h' := h j v hv
  rw [Addr.add_lit] at h' ⊢
  rw [hB.cell (p := ⟨ab, off + j, none⟩) hab]; exact h'
theorem LiesB.below {w w' : World} {b B : Nat} {ao : Option Addr} {zs : List Int} (h : LiesB w b ao zs) (hB : Below B w w') (hb : b ≤ B) : LiesB w' b ao zs := by
  rcases h with h | ⟨ab, off, e, hL, hlt⟩
  · exact .inl h
  · exact .inr ⟨ab, off, e, hL.below hB (by omega), hlt⟩
theorem below_gb {w w' : World} (h : Below w.heap.size w w') : w.grownBy w' none := ⟨h.os, h.tape, h.output, h.size, fun k hk _ => h.block k hk⟩
theorem At.below {w w' : World} {b B : Nat} {t : TypeId} {cs : Array Value} (h : At w b t cs) (hB : Below B w w') (hb : b < B) : At w' b t cs := by
  unfold At at *
  rw [hB.block b hb]; exact h
end Go.Proofs.YtnkbfdbbcaffmaaGreatDoor
/-
  Input, fits.
-/
namespace Go.Proofs.YtnkbfdbbcaffmaaGreatDoor
open Go.RowKit


set_option maxHeartbeats 1000000 in
theorem rInput_any (s : ByteArray) (hs : s.size ≤ 1000) (h : (hdr s).2.1 = false) (ao : Option Addr) (cin : Nat) (zs : List Int) (hl : zs.length ≤ 9223372036854775807) (w : World) (hL : LiesO w ao zs) :
    Calls Tryz.prog 88 #[.string s, .slice ao zs.length cin] w fun e w' => e = .returned (.bool (inB (pw (hdr s).2.2.1) ((hdr s).2.2.2.1 + (hdr s).2.2.2.2) zs)) ∧ w.grownBy w' none := by
  have HR := hide (fun w0 => read_any s hs h w0)
  have hn := hdr_vars s
  have hm := hdr_words s
  generalize (hdr s).2.2.1 = W at *
  generalize (hdr s).2.2.2.1 = n at *
  generalize (hdr s).2.2.2.2 = m at *
  generalize (hdr s).1 = st at *
  generalize hV : pw W = V at *
  clear hV
  generalize hr : inB V (n + m) zs = r
  have Hr := hide hr
  clear hr h
  by_cases hlen : zs.length = n + m
  · have hb : ((zs.length : Int) != (n : Int) + (m : Int)) = false := by simp; omega
    have hz2 : zs.length ≤ 200 := by omega
    have hr2 : zs.all (okV V) = r := by
      rw [← unhide Hr, inB, hlen]; simp
    have Hr2 := hide hr2
    have HL := hide hL
    clear hr2 hlen hL
    go_enter Tryz.func88, Tryz.ntmps88
    go_wp2_with fail
    refine (unhide HR _).mono ?_
    rintro e w1 ⟨ks, rfl, hg1⟩
    go_wp2_with fail
    have hg2 := gb_alloc hg1 (.cells #[.int .i64 V, .int .i64 n, .int .i64 m, .int .i64 st, .string ks] 81)
    have HL1 := hide ((unhide HL).grown hg2)
    go_loopw [6] (fun i wr => ∃ k : Nat, i = .int .i64 k ∧ k ≤ zs.length ∧ (∃ j, wr = (w1.alloc (.cells #[.int .i64 V, .int .i64 n, .int .i64 m, .int .i64 st, .string ks] 81)).drewN j) ∧ Hid ((zs.drop k).all (okV V) = r)) (fun i _ => zs.length - (intOf i).toNat)
    case atStart => exact ⟨0, rfl, by omega, ⟨0, rfl⟩, Hr2⟩
    case round =>
      obtain ⟨k, rfl, hk, ⟨j, rfl⟩, HK⟩ := hrel
      by_cases hlt : k < zs.length
      · rcases unhide HL1 with hnil | ⟨ab, off, rfl, hLL, hlt2⟩
        · rw [hnil] at hlt; simp at hlt
        have hc := hLL.at_ k hlt
        clear hLL hlt2
        have hst := unhide HK
        rw [List.drop_eq_getElem_cons hlt, List.all_cons] at hst
        have hgd : zs.getD k 0 = zs[k] := by simp [List.getD, hlt]
        rw [hgd] at hc
        have Hst := hide hst
        clear hst hgd
        generalize hz : zs[k] = z at *
        clear hz
        have hlI : (k : Int) < (zs.length : Int) := by omega
        by_cases h0 : z < 0
        · have hd0 : decide (z < 0) = true := by simpa using h0
          have hrf : false = r := by rw [← unhide Hst, okV]; simp; omega
          have Hrf := hide hrf
          clear hrf h0
          go_wp2_with fail
          go_quiet (fail)
          go_wp2_with fail
          go_ret
          exact ⟨ret_bool (unhide Hrf), gb_drewN (gb_drewN hg2 _) _⟩
        · have hd0 : decide (z < 0) = false := by simpa using h0
          by_cases hV : V ≤ z
          · have hd1 : decide (V ≤ z) = true := by simpa using hV
            have hrf : false = r := by rw [← unhide Hst, okV]; simp; omega
            have Hrf := hide hrf
            clear hrf h0 hV
            go_wp2_with fail
            go_quiet (fail)
            go_wp2_with fail
            go_ret
            exact ⟨ret_bool (unhide Hrf), gb_drewN (gb_drewN hg2 _) _⟩
          · have hd1 : decide (V ≤ z) = false := by simpa using hV
            have hrf : (zs.drop (k + 1)).all (okV V) = r := by
              have h := unhide Hst
              have e : okV V z = true := by simp [okV]; omega
              rw [e, Bool.true_and] at h; exact h
            have Hrf := hide hrf
            clear hrf h0 hV
            go_wp2_with fail
            go_quiet (fail)
            go_wp2_with fail
            go_roundw
            case rel => exact ⟨k + 1, by go_num, by omega, ⟨_, rfl⟩, Hrf⟩
            case measure => simp [intOf]; omega
      · have hrf : true = r := by
          rw [← unhide HK, List.drop_of_length_le (by omega)]; rfl
        have Hrf := hide hrf
        clear hrf
        go_wp2_with fail
        go_ret
        exact ⟨ret_bool (unhide Hrf), gb_drewN hg2 _⟩
  · have hb : ((zs.length : Int) != (n : Int) + (m : Int)) = true := by simp; omega
    have hr2 : false = r := by
      rw [← unhide Hr, inB]
      have : (zs.length == n + m) = false := by simpa using hlen
      rw [this]; rfl
    have Hr2 := hide hr2
    clear hr2 hlen hL
    go_enter Tryz.func88, Tryz.ntmps88
    go_wp2_with fail
    refine (unhide HR _).mono ?_
    rintro e w1 ⟨ks, rfl, hg1⟩
    go_wp2_with fail
    go_ret
    exact ⟨ret_bool (unhide Hr2), gb_alloc hg1 _⟩

set_option maxHeartbeats 1000000 in
theorem fits_any (s : ByteArray) (hs : s.size ≤ 1000) (h : (hdr s).2.1 = false) (view fuel : Int) (ao : Option Addr) (cin : Nat) (zs : List Int) (hl : zs.length ≤ 9223372036854775807) (w : World) (hL : LiesO w ao zs) :
    Calls Tryz.prog 56 #[.string s, .int .i64 view, .slice ao zs.length cin, .int .i64 fuel] w fun e w' => e = .returned (.int .i64 (rfs (pw (hdr s).2.2.1) ((hdr s).2.2.2.1 + (hdr s).2.2.2.2) view zs fuel)) ∧ w.grownBy w' none := by
  generalize hr : rfs (pw (hdr s).2.2.1) ((hdr s).2.2.2.1 + (hdr s).2.2.2.2) view zs fuel = r
  have Hr := hide hr
  clear hr
  have hin := hide (rInput_any s hs h ao cin zs hl w hL)
  clear hL
  by_cases hv : view < 0 ∨ 8 < view
  · have hrf : 4 = r := by rw [← unhide Hr, rfs, if_pos hv]
    have Hrf := hide hrf
    clear hrf
    rcases hv with hv | hv
    · go_enter Tryz.func56, Tryz.ntmps56
      go_wp2_with fail
      go_ret
      exact ⟨ret_int (unhide Hrf), gb_refl _ _⟩
    · have hd : decide (view < 0) = false := by simp; omega
      go_enter Tryz.func56, Tryz.ntmps56
      go_wp2_with fail
      go_ret
      exact ⟨ret_int (unhide Hrf), gb_refl _ _⟩
  · have hd : decide (view < 0) = false := by simp; omega
    have hd2 : decide (8 < view) = false := by simp; omega
    cases hi : inB (pw (hdr s).2.2.1) ((hdr s).2.2.2.1 + (hdr s).2.2.2.2) zs with
    | false =>
      have hrf : 5 = r := by rw [← unhide Hr, rfs, if_neg hv, if_pos hi]
      have Hrf := hide hrf
      rw [hi] at hin
      clear hrf hv hi
      go_enter Tryz.func56, Tryz.ntmps56
      go_wp2_with fail
      refine (unhide hin).mono ?_
      rintro e w2 ⟨rfl, hg⟩
      go_wp2_with fail
      go_ret
      exact ⟨ret_int (unhide Hrf), hg⟩
    | true =>
      rw [hi] at hin
      by_cases hf : fuel < 0 ∨ 10000 < fuel
      · have hrf : 6 = r := by rw [← unhide Hr, rfs, if_neg hv, if_neg (by rw [hi]; simp), if_pos hf]
        have Hrf := hide hrf
        clear hrf hv hi
        rcases hf with hf | hf
        · go_enter Tryz.func56, Tryz.ntmps56
          go_wp2_with fail
          refine (unhide hin).mono ?_
          rintro e w2 ⟨rfl, hg⟩
          go_wp2_with fail
          go_ret
          exact ⟨ret_int (unhide Hrf), hg⟩
        · have hd3 : decide (fuel < 0) = false := by simp; omega
          go_enter Tryz.func56, Tryz.ntmps56
          go_wp2_with fail
          refine (unhide hin).mono ?_
          rintro e w2 ⟨rfl, hg⟩
          go_wp2_with fail
          go_ret
          exact ⟨ret_int (unhide Hrf), hg⟩
      · have hrf : 0 = r := by rw [← unhide Hr, rfs, if_neg hv, if_neg (by rw [hi]; simp), if_neg hf]
        have hd3 : decide (fuel < 0) = false := by simp; omega
        have hd4 : decide (10000 < fuel) = false := by simp; omega
        have Hrf := hide hrf
        clear hrf hv hi hf
        go_enter Tryz.func56, Tryz.ntmps56
        go_wp2_with fail
        refine (unhide hin).mono ?_
        rintro e w2 ⟨rfl, hg⟩
        go_wp2_with fail
        go_ret
        exact ⟨ret_int (unhide Hrf), hg⟩
end Go.Proofs.YtnkbfdbbcaffmaaGreatDoor
