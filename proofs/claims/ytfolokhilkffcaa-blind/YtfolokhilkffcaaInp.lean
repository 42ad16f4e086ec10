/-
  IsInput, refusal.
-/
import Derived.Test.YtfolokhilkffcaaMach6
namespace Go.Proofs.Ytfolokhilkffcaa
open Go.RowKit

def okV (V z : Int) : Bool := decide (0 ≤ z) && decide (z < V)
/-- Is it an input? -/
def inB (V : Int) (k : Nat) (zs : List Int) : Bool := (zs.length == k) && zs.all (okV V)

theorem Lies.at_ {w : World} {ab ao : Nat} {zs : List Int} (h : Lies w ⟨ab, ao, none⟩ zs) (i : Nat) (hi : i < zs.length) : w.cell? ⟨ab, ao + i, none⟩ = some (.int .i64 (zs.getD i 0)) := by
  have := h i zs[i] (List.getElem?_eq_getElem hi)
  rw [Addr.add_lit] at this
  simpa [List.getD, hi] using this

set_option maxHeartbeats 1000000 in
theorem isInput_any (W V : Int) (n m : Nat) (ab ao cin : Nat) (zs : List Int) (hl : zs.length ≤ 9223372036854775807) (hn : n ≤ 100) (hm : m ≤ 100) (w : World) (hL : Lies w ⟨ab, ao, none⟩ zs) :
    Calls Try.prog 34 #[.agg #[.int .i64 W, .int .i64 V, .int .i64 n, .int .i64 m], .slice (some ⟨ab, ao, none⟩) zs.length cin] w fun e w' => e = .returned (.bool (inB V (n + m) zs)) ∧ w.grownBy w' none := by
  generalize hr : inB V (n + m) zs = r
  have Hr := hide hr
  clear hr
  have hL1 := hL.grown (gb_alloc (gb_refl w none) (.cells #[.int .i64 W, .int .i64 V, .int .i64 n, .int .i64 m] 50)) (by simp)
  have HL1 := hide hL1
  clear hL1
  by_cases hlen : zs.length = n + m
  · have hb : ((zs.length : Int) != (n : Int) + (m : Int)) = false := by simp; omega
    have hz2 : zs.length ≤ 200 := by omega
    have hr2 : zs.all (okV V) = r := by
      rw [← unhide Hr, inB, hlen]; simp
    have Hr2 := hide hr2
    clear hr2 hlen
    have hA := At.new w 50 #[.int .i64 W, .int .i64 V, .int .i64 n, .int .i64 m]
    have q1 := hA.cell 1
    simp at q1
    clear hA q1
    go_enter Try.func34, Try.ntmps34
    go_wp2_with fail
    go_loopw [5] (fun i wr => ∃ k : Nat, i = .int .i64 k ∧ k ≤ zs.length ∧ (∃ j, wr = (w.alloc (.cells #[.int .i64 W, .int .i64 V, .int .i64 n, .int .i64 m] 50)).drewN j) ∧ Hid ((zs.drop k).all (okV V) = r)) (fun i _ => zs.length - (intOf i).toNat)
    case atStart => exact ⟨0, rfl, by omega, ⟨0, rfl⟩, Hr2⟩
    case round =>
      obtain ⟨k, rfl, hk, ⟨j, rfl⟩, HK⟩ := hrel
      by_cases hlt : k < zs.length
      · have hc := (unhide HL1).at_ k hlt
        have hst := unhide HK
        rw [List.drop_eq_getElem_cons hlt, List.all_cons] at hst
        have hgd : zs.getD k 0 = zs[k] := by simp [List.getD, hlt]
        rw [hgd] at hc
        have Hst := hide hst
        clear hst hgd
        generalize hz : zs[k] = z at *
        clear hz
        have hlI : (k : Int) < (zs.length : Int) := by omega
        by_cases h0 : z < 0
        · have hd0 : decide (z < 0) = true := by simpa using h0
          have hrf : false = r := by rw [← unhide Hst, okV]; simp; omega
          have Hrf := hide hrf
          clear hrf h0
          go_wp2_with fail
          go_quiet (fail)
          go_wp2_with fail
          go_ret
          exact ⟨ret_bool (unhide Hrf), gb_drewN (gb_drewN (gb_alloc (gb_refl _ _) _) _) _⟩
        · have hd0 : decide (z < 0) = false := by simpa using h0
          by_cases hV : V ≤ z
          · have hd1 : decide (V ≤ z) = true := by simpa using hV
            have hrf : false = r := by rw [← unhide Hst, okV]; simp; omega
            have Hrf := hide hrf
            clear hrf h0 hV
            go_wp2_with fail
            go_quiet (fail)
            go_wp2_with fail
            go_ret
            exact ⟨ret_bool (unhide Hrf), gb_drewN (gb_drewN (gb_alloc (gb_refl _ _) _) _) _⟩
          · have hd1 : decide (V ≤ z) = false := by simpa using hV
            have hrf : (zs.drop (k + 1)).all (okV V) = r := by
              have h := unhide Hst
              have e : okV V z = true := by simp [okV]; omega
              rw [e, Bool.true_and] at h; exact h
            have Hrf := hide hrf
            clear hrf h0 hV
            go_wp2_with fail
            go_quiet (fail)
            go_wp2_with fail
            go_roundw
            case rel => exact ⟨k + 1, by go_num, by omega, ⟨_, rfl⟩, Hrf⟩
            case measure => simp [intOf]; omega
      · have hrf : true = r := by
          rw [← unhide HK, List.drop_of_length_le (by omega)]; rfl
        have Hrf := hide hrf
        clear hrf
        go_wp2_with fail
        go_ret
        exact ⟨ret_bool (unhide Hrf), gb_drewN (gb_alloc (gb_refl _ _) _) _⟩
  · have hb : ((zs.length : Int) != (n : Int) + (m : Int)) = true := by simp; omega
    have hr2 : false = r := by
      rw [← unhide Hr, inB]
      have : (zs.length == n + m) = false := by simpa using hlen
      rw [this]; rfl
    have Hr2 := hide hr2
    clear hr2 hlen
    go_enter Try.func34, Try.ntmps34
    go_wp2_with fail
    go_ret
    exact ⟨ret_bool (unhide Hr2), gb_alloc (gb_refl _ _) _⟩

/-- The first thing that is wrong with what a run begins with. -/
def rfs (V : Int) (k : Nat) (view : Int) (zs : List Int) (fuel : Int) : Int :=
  if view < 0 ∨ 8 < view then 4 else if inB V k zs = false then 5 else if fuel < 0 ∨ 10000 < fuel then 6 else 0

set_option maxHeartbeats 1000000 in
theorem refusal_any (W V : Int) (n m : Nat) (view fuel : Int) (ab ao cin : Nat) (zs : List Int) (hl : zs.length ≤ 9223372036854775807) (hn : n ≤ 100) (hm : m ≤ 100) (w : World) (hL : Lies w ⟨ab, ao, none⟩ zs) :
    Calls Try.prog 22 #[.agg #[.int .i64 W, .int .i64 V, .int .i64 n, .int .i64 m], .int .i64 view, .slice (some ⟨ab, ao, none⟩) zs.length cin, .int .i64 fuel] w fun e w' => e = .returned (.int .i64 (rfs V (n + m) view zs fuel)) ∧ w.grownBy w' none := by
  generalize hr : rfs V (n + m) view zs fuel = r
  have Hr := hide hr
  clear hr
  have hL1 := hL.grown (gb_alloc (gb_refl w none) (.cells #[.int .i64 W, .int .i64 V, .int .i64 n, .int .i64 m] 50)) (by simp)
  have hin := hide (isInput_any W V n m ab ao cin zs hl hn hm _ hL1)
  clear hL1
  by_cases hv : view < 0 ∨ 8 < view
  · have hrf : 4 = r := by rw [← unhide Hr, rfs, if_pos hv]
    have Hrf := hide hrf
    clear hrf
    rcases hv with hv | hv
    · go_enter Try.func22, Try.ntmps22
      go_wp2_with fail
      go_ret
      exact ⟨ret_int (unhide Hrf), gb_alloc (gb_refl _ _) _⟩
    · have hd : decide (view < 0) = false := by simp; omega
      go_enter Try.func22, Try.ntmps22
      go_wp2_with fail
      go_ret
      exact ⟨ret_int (unhide Hrf), gb_alloc (gb_refl _ _) _⟩
  · have hd : decide (view < 0) = false := by simp; omega
    have hd2 : decide (8 < view) = false := by simp; omega
    cases hi : inB V (n + m) zs with
    | false =>
      have hrf : 5 = r := by rw [← unhide Hr, rfs, if_neg hv, if_pos hi]
      have Hrf := hide hrf
      have Hi := hide hi
      clear hrf hv hi
      go_enter Try.func22, Try.ntmps22
      go_wp2_with fail
      refine (unhide hin).mono ?_
      rintro e w2 ⟨rfl, hg⟩
      rw [unhide Hi]
      go_wp2_with fail
      go_ret
      exact ⟨ret_int (unhide Hrf), gb_trans (gb_alloc (gb_refl _ _) _) hg⟩
    | true =>
      have Hi := hide hi
      by_cases hf : fuel < 0 ∨ 10000 < fuel
      · have hrf : 6 = r := by rw [← unhide Hr, rfs, if_neg hv, if_neg (by rw [hi]; simp), if_pos hf]
        have Hrf := hide hrf
        clear hrf hv hi
        rcases hf with hf | hf
        · go_enter Try.func22, Try.ntmps22
          go_wp2_with fail
          refine (unhide hin).mono ?_
          rintro e w2 ⟨rfl, hg⟩
          rw [unhide Hi]
          go_wp2_with fail
          go_ret
          exact ⟨ret_int (unhide Hrf), gb_trans (gb_alloc (gb_refl _ _) _) hg⟩
        · have hd3 : decide (fuel < 0) = false := by simp; omega
          go_enter Try.func22, Try.ntmps22
          go_wp2_with fail
          refine (unhide hin).mono ?_
          rintro e w2 ⟨rfl, hg⟩
          rw [unhide Hi]
          go_wp2_with fail
          go_ret
          exact ⟨ret_int (unhide Hrf), gb_trans (gb_alloc (gb_refl _ _) _) hg⟩
      · have hrf : 0 = r := by rw [← unhide Hr, rfs, if_neg hv, if_neg (by rw [hi]; simp), if_neg hf]
        have hd3 : decide (fuel < 0) = false := by simp; omega
        have hd4 : decide (10000 < fuel) = false := by simp; omega
        have Hrf := hide hrf
        clear hrf hv hi hf
        go_enter Try.func22, Try.ntmps22
        go_wp2_with fail
        refine (unhide hin).mono ?_
        rintro e w2 ⟨rfl, hg⟩
        rw [unhide Hi]
        go_wp2_with fail
        go_ret
        exact ⟨ret_int (unhide Hrf), gb_trans (gb_alloc (gb_refl _ _) _) hg⟩
end Go.Proofs.Ytfolokhilkffcaa
