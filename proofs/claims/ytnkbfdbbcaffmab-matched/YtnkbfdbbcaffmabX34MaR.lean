import Derived.Test.YtnkbfdbbcaffmabX33MaA
import Derived.Test.YtnkbfdbbcaffmabRows
import Derived.ProofKit
import Derived.OpenShut
import Derived.ShutString
import Derived.ChangeOld
import Derived.Below
import Derived.Deep.Slices
import Derived.SizedLaws
/-
  The statement MatchedSaid: the row.
-/
namespace Go.Proofs.Ytnkbfdbbcaffmab
open Go.ChangeShapes Go.WideShapes Go.ChangeAt Go.RowKit Go.Deep

theorem own : ownKnob Try.prog.godebug = none := by kernel_rfl
theorem laidOut : laidOutB Try.prog = true := by kernel_rfl
theorem cellsInt : Try.prog.cellsOf 3 = 1 := by kernel_rfl
theorem bytesInt : Try.prog.bytesOf 3 = 8 := by kernel_rfl

section
variable {H : Type} {enc : TypeId × Value → H} {w : World} {base : Nat} {spare : Nat → Bool} {held : Bool}

def numAt (w : World) (a : Addr) (i : Nat) : Int := match w.cell? (a.add i) with
  | some (.int .i64 z) => z
  | _ => 0

theorem wf_inI {z : Int} (h : (Lit.int .i64 z).wf = true) : inI z := by
  simp [Lit.wf, IntKind.min, IntKind.max, IntKind.signed, IntKind.bits] at h
  unfold inI; omega

theorem nums_of {fuel : Nat} {ao : Option Addr} {len cap : Nat} {x : DataW H × List MemPlace} (h : DataW.trod enc Try.prog w 0 spare held fuel 22 [.slice ao len cap] = some x) (hw : ∀ k ∈ x.1.weights Try.prog 22, k ≤ reachBytes) : ∃ zs, len = zs.length ∧ Nums w ao zs := by
  rcases open_slice Try.underlying22 h with ⟨h0, _⟩ | ⟨a, len', cap', m, n, D, Pl, hcs, _, hl, hm, hmm, hx1, hx⟩
  · simp at h0
    obtain ⟨rfl, rfl, rfl⟩ := h0
    exact ⟨[], rfl, by simp, by simp, .inl rfl⟩
  · simp at hcs
    obtain ⟨rfl, rfl, rfl⟩ := hcs
    rw [hx1] at hw
    have hk := hw ((((List.range len).map D).length + ((List.range (m - len)).map fun j => D (len + j)).length) * Try.prog.bytesOf 3) (by simp only [DataW.weights, Try.underlying22]; exact List.mem_cons_self ..)
    rw [bytesInt] at hk
    simp only [List.length_map, List.length_range] at hk
    unfold reachBytes at hk
    have hlen : ((List.range len).map (numAt w a)).length = len := by simp
    rw [cellsInt] at hx
    have key : ∀ i, i < len → ∃ z, w.cell? (a.add i) = some (.int .i64 z) ∧ inI z := by
      intro i hi
      obtain ⟨cs, h1, h2⟩ := hx i (by rw [hmm]; split <;> omega)
      obtain ⟨_, hl1, hcell⟩ := World.cells?_some h1
      obtain ⟨z, e, _, hwf⟩ := DataW.trod_int Try.underlying3 h2
      subst e
      have := hcell 0 (by omega)
      have e : (a.add (i * 1)).add 0 = a.add i := by
        cases a with
        | mk b o sp => cases sp <;> simp [Addr.add]
      rw [e] at this
      exact ⟨z, by simpa using this, wf_inI hwf⟩
    refine ⟨(List.range len).map (numAt w a), hlen.symm, by rw [hlen]; omega, ?_, ?_⟩
    · intro z hz
      obtain ⟨i, hi, rfl⟩ := List.mem_map.1 hz
      obtain ⟨y, hy, hin⟩ := key i (by simpa using hi)
      rw [numAt, hy]; exact hin
    · by_cases hz : len = 0
      · left; rw [hz]; rfl
      · right
        obtain ⟨z0, hz0, _⟩ := key 0 (by omega)
        have hsp := World.cell?_spot hz0
        have hbl := World.block_lt_of_cell? w _ hz0
        obtain ⟨b, off, sp⟩ := a
        have hspn : sp = none := by simpa [Addr.add] using hsp
        subst hspn
        refine ⟨b, off, rfl, fun j v hv => ?_, by simpa [Addr.add] using hbl⟩
        obtain ⟨hj, hv'⟩ := List.getElem?_eq_some_iff.1 hv
        simp at hj
        obtain ⟨z, hz, _⟩ := key j hj
        rw [hz]
        simp at hv'
        rw [← hv', numAt, hz]

theorem int_of {v : Value} {d : DataW H} {p : List MemPlace} (h : DataW.Trod enc Try.prog w base spare held 3 v d p) (hs : ∃ z, v = .int .i64 z) : ∃ z, v = .int .i64 z ∧ inI z := by
  obtain ⟨z, rfl⟩ := hs
  obtain ⟨fuel, hf⟩ := h
  obtain ⟨y, e, _, hwf⟩ := DataW.trod_int Try.underlying3 hf
  simp [Value.cells] at e
  subst e
  exact ⟨z, rfl, wf_inI hwf⟩
end

set_option maxRecDepth 100000 in
theorem matched_lifted (os : Os) (started : os.Started) (H : Type) (enc : TypeId × Value → H) :
    ReturnsInHanded {} Try.checked os 3 .any (Rows.matchedSpec.pre6 enc Try.prog Try.f3 Rows.matchedRow.domain false) (Rows.matchedSpec.post enc Try.prog Try.f3 false true false false) := by
  refine returnsInHanded_of_change_sized (C := Try.checked) own started (by kernel_rfl) Try.func3
    (ChangeSpec.witness6 (enc := enc) (C := Try.checked) false ⟨#[], #[.slice none 0 0, .slice none 0 0, .int .i64 0, .int .i64 0, .int .i64 0], []⟩ 8 (by kernel_rfl) (by kernel_rfl) (by kernel_rfl) (by kernel_rfl)) ?_
  intro W base args ds gs before hval0 hW hcnd hwt0 _
  have hval : ∀ (j : Nat) t v, Try.f3.params[j]? = some t → args[j]? = some v → Value.okWide Try.prog W .any base t v := hval0
  have hW' := hW
  obtain ⟨p, q, hA0, hV, rfl, hfz, hnd⟩ := hW
  have hA : DataW.TrodAll enc Try.prog W 0 (fun _ => true) true Try.f3.params.toList args.toList ds p := hA0
  have hwt : (DataW.weightsEach Try.prog (Try.f3.params.toList ++ Rows.matchedSpec.plain.varTypes Try.prog) (ds ++ gs)).all (· ≤ reachBytes) = true := hwt0
  rw [Try.params3] at hA hval hwt
  obtain ⟨v0, vs0, d0, ds0, p0, q0, hargs, rfl, rfl, h0, r0⟩ := trodAll_cons hA
  obtain ⟨v1, vs1, d1, ds1, p1, q1, rfl, rfl, rfl, h1, r1⟩ := trodAll_cons r0
  obtain ⟨v2, vs2, d2, ds2, p2, q2, rfl, rfl, rfl, h2, r2⟩ := trodAll_cons r1
  obtain ⟨v3, vs3, d3, ds3, p3, q3, rfl, rfl, rfl, h3, r3⟩ := trodAll_cons r2
  obtain ⟨v4, vs4, d4, ds4, p4, q4, rfl, rfl, rfl, h4, r4⟩ := trodAll_cons r3
  obtain ⟨rfl, rfl, rfl⟩ := trodAll_nil r4
  obtain rfl : args = #[v0, v1, v2, v3, v4] := by cases args; simp_all
  obtain ⟨rfl, rfl⟩ := trodVars_none hV
  obtain ⟨a0, len0, cap0, rfl⟩ := okWide_slice Try.underlying22 (hval 0 22 v0 rfl rfl)
  obtain ⟨a1, len1, cap1, rfl⟩ := okWide_slice Try.underlying22 (hval 1 22 v1 rfl rfl)
  obtain ⟨z2, rfl, i2⟩ := int_of h2 (okWide_int Try.underlying3 (hval 2 3 v2 rfl rfl))
  obtain ⟨z3, rfl, i3⟩ := int_of h3 (okWide_int Try.underlying3 (hval 3 3 v3 rfl rfl))
  obtain ⟨z4, rfl, i4⟩ := int_of h4 (okWide_int Try.underlying3 (hval 4 3 v4 rfl rfl))
  have k0 := h0
  have lt0 : ∀ x ∈ p0, x.block < W.heap.size := by obtain ⟨m, hm⟩ := k0; exact DataW.trod_lt m _ _ _ hm
  have k1 := h1
  have lt1 : ∀ x ∈ p1, x.block < W.heap.size := by obtain ⟨m, hm⟩ := k1; exact DataW.trod_lt m _ _ _ hm
  have k2 := h2
  have lt2 : ∀ x ∈ p2, x.block < W.heap.size := by obtain ⟨m, hm⟩ := k2; exact DataW.trod_lt m _ _ _ hm
  have k3 := h3
  have lt3 : ∀ x ∈ p3, x.block < W.heap.size := by obtain ⟨m, hm⟩ := k3; exact DataW.trod_lt m _ _ _ hm
  have k4 := h4
  have lt4 : ∀ x ∈ p4, x.block < W.heap.size := by obtain ⟨m, hm⟩ := k4; exact DataW.trod_lt m _ _ _ hm
  obtain ⟨zs0, rfl, hn0⟩ : ∃ zs, len0 = zs.length ∧ Nums W a0 zs := by
    obtain ⟨fuel, hf⟩ := h0
    refine nums_of hf ?_
    intro k hk
    have := List.all_eq_true.1 hwt k (DataW.weights_mem_each (j := 0) (t := 22) rfl rfl k hk)
    simpa using this
  obtain ⟨zs1, rfl, hn1⟩ : ∃ zs, len1 = zs.length ∧ Nums W a1 zs := by
    obtain ⟨fuel, hf⟩ := h1
    refine nums_of hf ?_
    intro k hk
    have := List.all_eq_true.1 hwt k (DataW.weights_mem_each (j := 1) (t := 22) rfl rfl k hk)
    simpa using this
  clear hA0 hval0
  refine (matched_walk a0 a1 cap0 cap1 zs0 zs1 z2 z3 z4 i2 i3 i4 W hn0 hn1).mono fun e W' ⟨he, bel⟩ => ?_
  subst he
  exact ⟨_, rfl, _, _, _, [], _, [], hW', trodAll_mk1 (shut_bool Try.underlying4 _), (trodAll_cons_mk (Below.trod laidOut (by kernel_rfl) (of_decide_eq_true (by kernel_rfl)) k0 bel lt0) (trodAll_cons_mk (Below.trod laidOut (by kernel_rfl) (of_decide_eq_true (by kernel_rfl)) k1 bel lt1) (trodAll_cons_mk (Below.trod laidOut (by kernel_rfl) (of_decide_eq_true (by kernel_rfl)) k2 bel lt2) (trodAll_cons_mk (Below.trod laidOut (by kernel_rfl) (of_decide_eq_true (by kernel_rfl)) k3 bel lt3) (trodAll_cons_mk (Below.trod laidOut (by kernel_rfl) (of_decide_eq_true (by kernel_rfl)) k4 bel lt4) trodAll_mk0))))), rfl, bel.frame _, fun h => by cases h⟩

theorem matched_holds : Rows.MatchedSaid :=
  OpenClaim.holds_of_wide 3 Try.f3 rfl rfl rfl rfl rfl rfl rfl ⟨rfl, rfl, rfl, rfl, rfl⟩ rfl rfl rfl rfl rfl (by kernel_rfl) Try.func3 (by kernel_rfl)
    (of_decide_eq_true (by kernel_rfl)) (by unfold Func.isWrapper; first | (rw [if_pos (by decide +kernel)]; kernel_rfl) | (rw [if_neg (by decide +kernel)]; exact ⟨rfl, rfl⟩))
    (fun os started H enc _ => matched_lifted os started H enc)
end Go.Proofs.Ytnkbfdbbcaffmab
