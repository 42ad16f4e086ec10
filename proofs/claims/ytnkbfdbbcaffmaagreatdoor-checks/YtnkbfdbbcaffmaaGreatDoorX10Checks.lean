import Derived.Test.YtnkbfdbbcaffmaaGreatDoorX09Law
import Derived.Test.YtnkbfdbbcaffmaaGreatDoorTie
import Derived.Test.YtnkbfdbbcaffmaaGreatDoorCards
import Derived.SevenTiedAt
import Derived.ProofKit
import Derived.OpenShut
import Derived.ShutString
import Derived.ChangeOld
import Derived.Below
import Derived.Deep.Slices
/-
  The statement ChecksSaid: the row.
-/
namespace Go.Proofs.YtnkbfdbbcaffmaaGreatDoor
open Go.ChangeShapes Go.WideShapes Go.ChangeAt Go.RowKit Go.Deep

theorem own : ownKnob Tryz.prog.godebug = none := by kernel_rfl
theorem laidOut : laidOutB Tryz.prog = true := by kernel_rfl
theorem cellsOp : Tryz.prog.cellsOf 31 = 7 := by kernel_rfl
theorem cellsInt : Tryz.prog.cellsOf 3 = 1 := by kernel_rfl
theorem cellsStr : Tryz.prog.cellsOf 9 = 1 := by kernel_rfl
theorem cellsInts : Tryz.prog.cellsOf 29 = 1 := by kernel_rfl

section
variable {H : Type} {enc : TypeId × Value → H} {w : World} {base : Nat} {spare : Nat → Bool} {held : Bool}

theorem seven (cs : List Value) (h : cs.length = 7) : ∃ c0 c1 c2 c3 c4 c5 c6, cs = [c0, c1, c2, c3, c4, c5, c6] := by
  match cs, h with
  | [c0, c1, c2, c3, c4, c5, c6], _ => exact ⟨c0, c1, c2, c3, c4, c5, c6, rfl⟩

theorem slice_is {t e : TypeId} {fuel : Nat} {v : Value} {x : DataW H × List MemPlace} (ht : Tryz.prog.underlying t = some (.slice e)) (h : DataW.trod enc Tryz.prog w base spare held fuel t [v] = some x) : IsSlice v := by
  rcases DataW.trod_slice ht h with ⟨h0, _⟩ | ⟨a, len, cap, _, _, _, _, h0, _⟩
  · simp at h0; exact ⟨_, _, _, h0⟩
  · simp at h0; exact ⟨_, _, _, h0⟩

theorem script_of {fuel : Nat} {a0 : Option Addr} {len0 cap0 : Nat} {x : DataW H × List MemPlace} (h : DataW.trod enc Tryz.prog w 0 spare held fuel 22 [.slice a0 len0 cap0] = some x) : IsScript w a0 len0 := by
  rcases open_slice Tryz.underlying22 h with ⟨h0, _⟩ | ⟨a, len, cap, m, n, D, Pl, hcs, _, hl, hm, hmm, _, hx⟩
  · simp at h0
    exact .inl h0.2.1
  · simp at hcs
    obtain ⟨rfl, rfl, rfl⟩ := hcs
    by_cases hz : len0 = 0
    · exact .inl hz
    · rw [cellsOp] at hx
      have key : ∀ i, i < len0 → ∃ kind n' m' p S va vb, (w.cell? ((a.add (i * 7)).add 0) = some (.int .i64 kind) ∧ w.cell? ((a.add (i * 7)).add 1) = some (.int .i64 n') ∧ w.cell? ((a.add (i * 7)).add 2) = some (.int .i64 m') ∧ w.cell? ((a.add (i * 7)).add 3) = some (.int .i64 p) ∧
          w.cell? ((a.add (i * 7)).add 4) = some (.string S) ∧ w.cell? ((a.add (i * 7)).add 5) = some va ∧ w.cell? ((a.add (i * 7)).add 6) = some vb) ∧ S.size ≤ maxLen ∧ IsSlice va ∧ IsSlice vb := by
        intro i hi
        obtain ⟨cs, h1, h2⟩ := hx i (by rw [hmm]; split <;> omega)
        obtain ⟨_, hlen, hcell⟩ := World.cells?_some h1
        obtain ⟨c0, c1, c2, c3, c4, c5, c6, rfl⟩ := seven cs hlen
        obtain ⟨xs, n', _, _, _, hxl, hf⟩ := DataW.trod_struct Tryz.underlying31 h2
        have hx7 : xs.length = 7 := hxl
        have f0 : DataW.trod enc Tryz.prog w 0 spare held n' 3 [c0] = some xs[0] := by
          have h : DataW.trod enc Tryz.prog w 0 spare held n' 3 (([c0, c1, c2, c3, c4, c5, c6].drop 0).take (Tryz.prog.cellsOf 3)) = xs[0]? := hf 0 _ rfl
          rw [List.getElem?_eq_getElem (by omega), cellsInt] at h
          exact h
        have f1 : DataW.trod enc Tryz.prog w 0 spare held n' 3 [c1] = some xs[1] := by
          have h : DataW.trod enc Tryz.prog w 0 spare held n' 3 (([c0, c1, c2, c3, c4, c5, c6].drop 1).take (Tryz.prog.cellsOf 3)) = xs[1]? := hf 1 _ rfl
          rw [List.getElem?_eq_getElem (by omega), cellsInt] at h
          exact h
        have f2 : DataW.trod enc Tryz.prog w 0 spare held n' 3 [c2] = some xs[2] := by
          have h : DataW.trod enc Tryz.prog w 0 spare held n' 3 (([c0, c1, c2, c3, c4, c5, c6].drop 2).take (Tryz.prog.cellsOf 3)) = xs[2]? := hf 2 _ rfl
          rw [List.getElem?_eq_getElem (by omega), cellsInt] at h
          exact h
        have f3 : DataW.trod enc Tryz.prog w 0 spare held n' 3 [c3] = some xs[3] := by
          have h : DataW.trod enc Tryz.prog w 0 spare held n' 3 (([c0, c1, c2, c3, c4, c5, c6].drop 3).take (Tryz.prog.cellsOf 3)) = xs[3]? := hf 3 _ rfl
          rw [List.getElem?_eq_getElem (by omega), cellsInt] at h
          exact h
        have f4 : DataW.trod enc Tryz.prog w 0 spare held n' 9 [c4] = some xs[4] := by
          have h : DataW.trod enc Tryz.prog w 0 spare held n' 9 (([c0, c1, c2, c3, c4, c5, c6].drop 4).take (Tryz.prog.cellsOf 9)) = xs[4]? := hf 4 _ rfl
          rw [List.getElem?_eq_getElem (by omega), cellsStr] at h
          exact h
        have f5 : DataW.trod enc Tryz.prog w 0 spare held n' 29 [c5] = some xs[5] := by
          have h : DataW.trod enc Tryz.prog w 0 spare held n' 29 (([c0, c1, c2, c3, c4, c5, c6].drop 5).take (Tryz.prog.cellsOf 29)) = xs[5]? := hf 5 _ rfl
          rw [List.getElem?_eq_getElem (by omega), cellsInts] at h
          exact h
        have f6 : DataW.trod enc Tryz.prog w 0 spare held n' 29 [c6] = some xs[6] := by
          have h : DataW.trod enc Tryz.prog w 0 spare held n' 29 (([c0, c1, c2, c3, c4, c5, c6].drop 6).take (Tryz.prog.cellsOf 29)) = xs[6]? := hf 6 _ rfl
          rw [List.getElem?_eq_getElem (by omega), cellsInts] at h
          exact h
        obtain ⟨k0, e0, _, _⟩ := DataW.trod_int Tryz.underlying3 f0
        obtain ⟨k1, e1, _, _⟩ := DataW.trod_int Tryz.underlying3 f1
        obtain ⟨k2, e2, _, _⟩ := DataW.trod_int Tryz.underlying3 f2
        obtain ⟨k3, e3, _, _⟩ := DataW.trod_int Tryz.underlying3 f3
        obtain ⟨S, e4, _, hS⟩ := DataW.trod_string Tryz.underlying9 f4
        have g5 := slice_is (v := c5) Tryz.underlying29 f5
        have g6 := slice_is (v := c6) Tryz.underlying29 f6
        simp at e0 e1 e2 e3 e4
        subst e0 e1 e2 e3 e4
        exact ⟨k0, k1, k2, k3, S, c5, c6, ⟨hcell 0 (by omega), hcell 1 (by omega), hcell 2 (by omega), hcell 3 (by omega), hcell 4 (by omega), hcell 5 (by omega), hcell 6 (by omega)⟩, hS, g5, g6⟩
      obtain ⟨_, _, _, _, _, _, _, ⟨z0, _⟩, _⟩ := key 0 (by omega)
      have hsp := World.cell?_spot z0
      have hbl := World.block_lt_of_cell? w _ z0
      obtain ⟨b, off, sp⟩ := a
      have hspn : sp = none := by simpa [Addr.add] using hsp
      subst hspn
      have hb : b < w.heap.size := by simpa [Addr.add] using hbl
      refine .inr ⟨b, off, rfl, hb, by omega, fun i hi => ?_⟩
      obtain ⟨kind, n', m', p, S, va, vb, hc, r⟩ := key i hi
      simp only [Addr.add_lit, Nat.add_zero] at hc
      exact ⟨kind, n', m', p, S, va, vb, hc, r⟩
end

set_option maxRecDepth 100000 in
theorem checks_lifted (os : Os) (started : os.Started) (H : Type) (enc : TypeId × Value → H) :
    ReturnsInHanded {} Tryz.checked os 3 .any (fun w args => (Rows.checksSpec.pre enc Tryz.prog Tryz.f3 [] false w args ∧ laidMetH Tryz.prog laidL w) ∧ sizedMet enc Tryz.prog Tryz.f3 (OpenSpec.ofChange Rows.checksSpec) false w args) (Rows.checksSpec.post enc Tryz.prog Tryz.f3 false true false false) := by
  refine returnsInHanded_of_change_and (C := Tryz.checked) (X := fun w _ => laidMetH Tryz.prog laidL w) (fun _ _ _ hh h => h.of_heap hh) own started (by kernel_rfl) Tryz.func3
    (ChangeSpec.witness_shaped (enc := enc) (C := Tryz.checked) (os := os) (X := fun w _ => laidMetH Tryz.prog laidL w) false (World.doorLaid Tryz.prog 400 os) #[.slice none 0 0] 8 rfl (World.shaped_of_RefB (by kernel_rfl) (by kernel_rfl)) (by kernel_rfl) (by kernel_rfl) (by kernel_rfl) (door_met os _)) ?_
  intro W base args ds gs before hval0 hW _ _ _ _
  have hval : ∀ (j : Nat) t v, Tryz.f3.params[j]? = some t → args[j]? = some v → Value.okWide Tryz.prog W .any base t v := hval0
  have hW' := hW
  obtain ⟨p, q, hA0, hV, rfl, hfz, hnd⟩ := hW
  have hA : DataW.TrodAll enc Tryz.prog W 0 (fun _ => true) true Tryz.f3.params.toList args.toList ds p := hA0
  rw [Tryz.params3] at hA hval
  obtain ⟨v0, vs0, d0, ds0, p0, q0, hargs, rfl, rfl, h0, r0⟩ := trodAll_cons hA
  obtain ⟨rfl, rfl, rfl⟩ := trodAll_nil r0
  obtain rfl : args = #[v0] := by cases args; simp_all
  obtain ⟨rfl, rfl⟩ := trodVars_none hV
  obtain ⟨a0, len0, cap0, rfl⟩ := okWide_slice Tryz.underlying22 (hval 0 22 v0 rfl rfl)
  have k0 := h0
  have lt0 : ∀ x ∈ p0, x.block < W.heap.size := by obtain ⟨m, hm⟩ := k0; exact DataW.trod_lt m _ _ _ hm
  have hs : IsScript W a0 len0 := by
    obtain ⟨fuel, hf⟩ := h0
    exact script_of hf
  clear hA0 hval0
  refine (checks_walk a0 len0 cap0 W hs).mono fun e W' ⟨he, bel⟩ => ?_
  subst he
  exact ⟨_, rfl, _, _, _, [], _, [], hW', trodAll_mk1 (shut_bool Tryz.underlying4 _), (trodAll_cons_mk (Below.trod laidOut (by kernel_rfl) (of_decide_eq_true (by kernel_rfl)) k0 bel lt0) trodAll_mk0), rfl, bel.frame _, fun h => by cases h⟩

set_option maxRecDepth 100000 in
set_option maxHeartbeats 400000000 in
theorem checks_closed : joinedFacts Tryz.prog 3 Tryz.f3 Rows.checksSpec Rows.checksRow = true := by
  unfold joinedFacts
  repeat' (with_reducible refine and_mk ?_ ?_)
  all_goals (as_aux_lemma => kernel_rfl)

theorem checks_holds : Rows.ChecksSaid :=
  OpenClaim.holds_of_wide 3 Tryz.f3 rfl rfl rfl rfl rfl rfl rfl ⟨rfl, rfl, rfl, rfl, rfl⟩ rfl rfl rfl rfl rfl (by kernel_rfl) Tryz.func3 checks_closed
    (of_decide_eq_true (by kernel_rfl)) (by unfold Func.isWrapper; first | (rw [if_pos (by decide +kernel)]; kernel_rfl) | (rw [if_neg (by decide +kernel)]; exact ⟨rfl, rfl⟩))
    (fun os started H enc _ => checks_lifted os started H enc)

theorem checks_card : Rows.ChecksCardSaid :=
  Claim7.holds_tied_plain_at .later [] [.data] true (true, "19f32f3b99373708ffeef7f2bceabd206d04c0ba59e7782c0add4170ff50a9af") false
    checks_holds (fun _ h => by cases h) (by kernel_rfl) (fun _ h => by cases h) checks_row_tie rfl ⟨rfl, rfl⟩ (by kernel_rfl) rfl
    (fun f fn hf hfn => by
      obtain rfl : f = 3 := Option.some.inj ((show Tryz.prog.funcNamed "leak/leaklaw.Checks" = some 3 by kernel_rfl).symm.trans hf) |>.symm
      obtain rfl : fn = Tryz.f3 := (Option.some.inj (Tryz.func3.symm.trans hfn)).symm
      exact ⟨by kernel_rfl, fun j t ht => by
        rw [Tryz.params3] at ht
        have hm : t ∈ [22] := by simpa using Array.mem_of_getElem? ht
        have hall : ([22].all fun u => !Tryz.prog.wantsStandIn u) = true := by kernel_rfl
        exact (show Tryz.prog.wantsStandIn t = false by simpa using List.all_eq_true.1 hall t hm)⟩)
    (by kernel_rfl)
end Go.Proofs.YtnkbfdbbcaffmaaGreatDoor
