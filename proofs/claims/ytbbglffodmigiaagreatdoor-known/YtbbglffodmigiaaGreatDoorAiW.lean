/-
  Known: what is left to the kernel, and the walk around it.
-/
import Derived.Test.YtbbglffodmigiaaGreatDoorAiV
import Derived.Test.YtbbglffodmigiaaGreatDoorAiY
import Derived.WalkKit
import Derived.WalkSpells
import Derived.WalkLawsBesides
import Derived.Deep.Draws
namespace Go.Proofs.YtbbglffodmigiaaGreatDoor
open Go.Ai Go.RowKit

def inI (c : Int) : Prop := -9223372036854775808 ≤ c ∧ c ≤ 9223372036854775807
def pck (c n : Int) : Int := (if c < 0 then -(c + 1) else c) % n

theorem pck_bd (c : Int) {n : Int} (hn : 1 ≤ n) : 0 ≤ pck c n ∧ pck c n < n := by
  unfold pck
  exact ⟨Int.emod_nonneg _ (by omega), Int.emod_lt_of_pos _ (by omega)⟩

theorem ret_int {a b : Int} (h : a = b) : Ending.returned (.int .i64 a) = Ending.returned (.int .i64 b) := by rw [h]

set_option maxHeartbeats 1000000 in
theorem pick_any (c n : Int) (hn : 1 ≤ n) (hn2 : n ≤ 1000000) (hc : inI c) (w : World) :
    Calls Tryz.prog 5 #[.int .i64 c, .int .i64 n] w fun e w' => e = .returned (.int .i64 (pck c n)) ∧ w' = w := by
  obtain ⟨h0, h1⟩ := hc
  unfold pck
  by_cases hlt : c < 0
  · rw [if_pos hlt]
    have e1 : IntKind.i64.wrap (c + 1) = c + 1 := by rw [IntKind.wrap_i64]; omega
    have e2 : IntKind.i64.wrap (-(c + 1)) = -(c + 1) := by rw [IntKind.wrap_i64]; omega
    have b1 := Int.emod_nonneg (-(c + 1)) (b := n) (by omega)
    have b2 := Int.emod_lt_of_pos (-(c + 1)) (b := n) (by omega)
    go_enter Tryz.func5, Tryz.ntmps5
    go_wp2_with fail
    go_ret
    exact ⟨ret_int (by rw [← Int.neg_tmod, Int.tmod_eq_emod_of_nonneg (by omega)]), rfl⟩
  · rw [if_neg hlt]
    go_enter Tryz.func5, Tryz.ntmps5
    go_wp2_with fail
    go_ret
    exact ⟨rfl, rfl⟩

theorem mixed : Tryz.prog.follows .mixedOrders = true := by kernel_rfl

theorem no_ok (w : World) : OvOk Tryz.prog w no := fun _ _ _ h => by cases h

theorem golds_val : (goldsRun Tryz.prog).map (·.1) = some gv := by kernel_rfl
theorem golds_eq : goldsRun Tryz.prog = some (gv, gh Tryz.prog) := by
  have h := golds_val
  unfold gh
  cases hg : goldsRun Tryz.prog with
  | none => rw [hg] at h; cases h
  | some q =>
    rw [hg] at h
    obtain ⟨v, h'⟩ := q
    simp at h
    rw [h]

theorem tr_true {b : Bool} (h : tr b) : b = true := by cases b; exact h.elim; rfl

theorem strK_some {v : Value} {K : Value → Prop} (h : strK v K) : ∃ s, v = .string s ∧ K (.string s) := by
  cases v <;> first | exact h.elim | exact ⟨_, rfl, h⟩

theorem like_rel {n n' : Nat} {al al' : Al} (hz : al 0 = none) (hn : 0 < n) {x y c : Value} (h : like x y = true) (hr : ARel n' al' y c) : ARel n al x c := by
  unfold like at h
  split at h
  · simp at h
    subst h
    exact hr
  · exact hr
  · rename_i len id o m es
    obtain ⟨_, a, cap, rfl, hle, _⟩ := hr
    obtain rfl := Nat.eq_of_beq_eq_true h
    exact ⟨hn, a, cap, rfl, hle, fun g hg => by rw [hz] at hg; cases hg⟩
  · cases h

theorem likes_rel {n n' : Nat} {al al' : Al} (hz : al 0 = none) (hn : 0 < n) : ∀ {xs ys cs : List Value}, likes xs ys = true → PW (ARel n' al') ys cs → PW (ARel n al) xs cs
  | [], [], [], _, _ => trivial
  | x :: xs, y :: ys, c :: cs, h, ⟨h1, h2⟩ => by simp [likes] at h; exact ⟨like_rel hz hn h.1 h1, likes_rel hz hn h.2 h2⟩
  | [], [], _ :: _, _, h => h.elim
  | _ :: _, _ :: _, [], _, h => h.elim
  | [], _ :: _, _, h, _ => by simp [likes] at h
  | _ :: _, [], _, h, _ => by simp [likes] at h

theorem res_rel {n n' : Nat} {al al' : Al} (hz : al 0 = none) (hn : 0 < n) {R r c : Value} (h : resB R r = true) (hr : VRel n' al' r c) : VRel n al R c := by
  unfold resB at h
  split at h
  · obtain ⟨ds, rfl, hp⟩ := hr
    exact ⟨ds, rfl, likes_rel hz hn h hp⟩
  · cases h

/-- the answers of Decide at a text -/
def ovT (t : Value) (tab : List Value) (k : FuncId) (vs : List Value) : Option Value :=
  match vs with
  | [s, .int .i64 (.ofNat v)] => if k = 6 ∧ ceq s t = true then tab[v]? else none
  | _ => none

theorem decide_fn : ∃ fn, Tryz.prog.funcs[6]? = some fn ∧ fn.body.isNone = false ∧ (fn.name == "runtime.NumGoroutine") = false :=
  ⟨Tryz.f6, Tryz.func6, by kernel_rfl, by kernel_rfl⟩

set_option maxRecDepth 100000 in
theorem ov_ok {N : Nat} {t : Value} {tab : List Value} (hD : ∀ v R, tab[v]? = some R → Run N t v R) (W : World) : OvOk Tryz.prog W (ovT t tab) := by
  intro k vs R hv
  unfold ovT at hv
  split at hv
  · rename_i s v
    split at hv
    · rename_i hc
      obtain ⟨rfl, hst⟩ := hc
      obtain rfl := ceq_eq hst
      have hrun := hD v R hv
      refine ⟨decide_fn, fun h al w us H hp => ?_⟩
      obtain ⟨str, rfl, hcall⟩ := strK_some hrun
      · obtain ⟨r, h', hr, hb⟩ := call_ref hcall
        have hpl : [Value.string str, .int .i64 (.ofNat v)].all plain = true := rfl
        have hI := interp mixed no_ok hr hpl (Nat.lt_succ_self 0) w
        have hus : us = #[.string str, .int .i64 (.ofNat v)] := by
          match hl : us.toList, hp with
          | [a, b], ⟨h1, h2, _⟩ =>
            have e1 : a = .string str := h1
            have e2 : b = .int .i64 (.ofNat v) := h2
            subst e1 e2
            exact toList_two hl
        subst hus
        refine hI.mono fun e w' he => ?_
        cases e with
        | returned c =>
          obtain ⟨⟨al', hr'⟩, hbel⟩ := he
          refine ⟨al, Next.refl _ _, Nat.le_refl _, H.world ?_ ?_, res_rel H.zero H.pos (tr_true hb) hr'⟩
          · exact H.bel.trans (hbel.mono H.bel.size)
          · exact fun id g hg => hbel.block _ (H.lt hg)
        | panicked _ => exact he.elim
        | outgrown => exact he.elim
    · cases hv
  · cases hv

end Go.Proofs.YtbbglffodmigiaaGreatDoor
