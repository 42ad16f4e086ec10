/-
  Known: what Decide answers at each text, the walk around it, the row and the card. (laid by mkkr.py)
-/
import Derived.Test.YtbbglffodmigiaaGreatDoorKr0a
import Derived.Test.YtbbglffodmigiaaGreatDoorKr0b
import Derived.Test.YtbbglffodmigiaaGreatDoorKr0c
import Derived.Test.YtbbglffodmigiaaGreatDoorKr1a
import Derived.Test.YtbbglffodmigiaaGreatDoorKr1b
import Derived.Test.YtbbglffodmigiaaGreatDoorKr1c
import Derived.Test.YtbbglffodmigiaaGreatDoorKr2a
import Derived.Test.YtbbglffodmigiaaGreatDoorKr2b
import Derived.Test.YtbbglffodmigiaaGreatDoorKr2c
import Derived.Test.YtbbglffodmigiaaGreatDoorKr3a
import Derived.Test.YtbbglffodmigiaaGreatDoorKr3b
import Derived.Test.YtbbglffodmigiaaGreatDoorKr3c
import Derived.Test.YtbbglffodmigiaaGreatDoorKr4a
import Derived.Test.YtbbglffodmigiaaGreatDoorKr4b
import Derived.Test.YtbbglffodmigiaaGreatDoorKr4c
import Derived.Test.YtbbglffodmigiaaGreatDoorKr5a
import Derived.Test.YtbbglffodmigiaaGreatDoorKr5b
import Derived.Test.YtbbglffodmigiaaGreatDoorKr5c
import Derived.Test.YtbbglffodmigiaaGreatDoorKr6a
import Derived.Test.YtbbglffodmigiaaGreatDoorKr6b
import Derived.Test.YtbbglffodmigiaaGreatDoorKr6c
import Derived.Test.YtbbglffodmigiaaGreatDoorKr7a
import Derived.Test.YtbbglffodmigiaaGreatDoorKr7b
import Derived.Test.YtbbglffodmigiaaGreatDoorKr7c
import Derived.Test.YtbbglffodmigiaaGreatDoorKr8a
import Derived.Test.YtbbglffodmigiaaGreatDoorKr8b
import Derived.Test.YtbbglffodmigiaaGreatDoorKr8c
import Derived.Test.YtbbglffodmigiaaGreatDoorKr9
import Derived.Test.YtbbglffodmigiaaGreatDoorAiW
import Derived.Test.YtbbglffodmigiaaGreatDoorRows
import Derived.Test.YtbbglffodmigiaaGreatDoorTie
import Derived.Test.YtbbglffodmigiaaGreatDoorCards
import Derived.Test.YtbbglffodmigiaaGreatDoorChecked
import Derived.LaidMore
import Derived.Stop.Joined
import Derived.JoinedOf
import Derived.SevenTiedAt
import Derived.ProofKit
import Derived.OpenShut
import Derived.ShutString
import Derived.ChangeOld
import Derived.Below
import Derived.Deep.Slices
namespace Go.Proofs.YtbbglffodmigiaaGreatDoor
open Go.Ai

def tab0 : List Value := [res 1 (.slice none 0 0) (.slice none 0 0) 0, res 2 (dead 3) (dead 3) 0, res 1 (.slice none 0 0) (.slice none 0 0) 0, res 1 (.slice none 0 0) (.slice none 0 0) 0, res 1 (.slice none 0 0) (.slice none 0 0) 0, res 1 (.slice none 0 0) (.slice none 0 0) 0, res 1 (.slice none 0 0) (.slice none 0 0) 0, res 1 (.slice none 0 0) (.slice none 0 0) 0, res 1 (.slice none 0 0) (.slice none 0 0) 0]
def tab1 : List Value := [res 2 (dead 5) (dead 5) 0, res 2 (dead 5) (dead 5) 0, res 2 (dead 5) (dead 5) 0, res 2 (dead 5) (dead 5) 0, res 1 (.slice none 0 0) (.slice none 0 0) 0, res 1 (.slice none 0 0) (.slice none 0 0) 0, res 1 (.slice none 0 0) (.slice none 0 0) 0, res 1 (.slice none 0 0) (.slice none 0 0) 0, res 1 (.slice none 0 0) (.slice none 0 0) 0]
def tab2 : List Value := [res 2 (dead 9) (dead 9) 0, res 2 (dead 9) (dead 9) 0, res 2 (dead 9) (dead 9) 0, res 2 (dead 9) (dead 9) 0, res 2 (dead 9) (dead 9) 0, res 1 (.slice none 0 0) (.slice none 0 0) 0, res 1 (.slice none 0 0) (.slice none 0 0) 0, res 1 (.slice none 0 0) (.slice none 0 0) 0, res 1 (.slice none 0 0) (.slice none 0 0) 0]
def tab3 : List Value := [res 2 (dead 4) (dead 4) 0, res 2 (dead 4) (dead 4) 0, res 2 (dead 4) (dead 4) 0, res 2 (dead 4) (dead 4) 0, res 2 (dead 4) (dead 4) 0, res 2 (dead 4) (dead 4) 0, res 2 (dead 4) (dead 4) 0, res 2 (dead 4) (dead 4) 0, res 2 (dead 4) (dead 4) 0]
def tab4 : List Value := [res 2 (dead 1) (dead 1) 0, res 2 (dead 1) (dead 1) 0, res 2 (dead 1) (dead 1) 0, res 2 (dead 1) (dead 1) 0, res 2 (dead 1) (dead 1) 0, res 2 (dead 1) (dead 1) 0, res 2 (dead 1) (dead 1) 0, res 2 (dead 1) (dead 1) 0, res 2 (dead 1) (dead 1) 0]
def tab5 : List Value := [res 1 (.slice none 0 0) (.slice none 0 0) 0, res 1 (.slice none 0 0) (.slice none 0 0) 0, res 1 (.slice none 0 0) (.slice none 0 0) 0, res 1 (.slice none 0 0) (.slice none 0 0) 0, res 1 (.slice none 0 0) (.slice none 0 0) 0, res 1 (.slice none 0 0) (.slice none 0 0) 0, res 1 (.slice none 0 0) (.slice none 0 0) 0, res 1 (.slice none 0 0) (.slice none 0 0) 0, res 1 (.slice none 0 0) (.slice none 0 0) 0]
def tab6 : List Value := [res 1 (.slice none 0 0) (.slice none 0 0) 0, res 1 (.slice none 0 0) (.slice none 0 0) 0, res 1 (.slice none 0 0) (.slice none 0 0) 0, res 1 (.slice none 0 0) (.slice none 0 0) 0, res 1 (.slice none 0 0) (.slice none 0 0) 0, res 1 (.slice none 0 0) (.slice none 0 0) 0, res 1 (.slice none 0 0) (.slice none 0 0) 0, res 1 (.slice none 0 0) (.slice none 0 0) 0, res 1 (.slice none 0 0) (.slice none 0 0) 0]
def tab7 : List Value := [res 1 (.slice none 0 0) (.slice none 0 0) 0, res 1 (.slice none 0 0) (.slice none 0 0) 0, res 1 (.slice none 0 0) (.slice none 0 0) 0, res 1 (.slice none 0 0) (.slice none 0 0) 0, res 1 (.slice none 0 0) (.slice none 0 0) 0, res 1 (.slice none 0 0) (.slice none 0 0) 0, res 1 (.slice none 0 0) (.slice none 0 0) 0, res 1 (.slice none 0 0) (.slice none 0 0) 0, res 1 (.slice none 0 0) (.slice none 0 0) 0]
def tab8 : List Value := [res 2 (dead 2) (dead 2) 0, res 2 (dead 2) (dead 2) 0, res 2 (dead 2) (dead 2) 0, res 2 (dead 2) (dead 2) 0, res 2 (dead 2) (dead 2) 0, res 2 (dead 2) (dead 2) 0, res 2 (dead 2) (dead 2) 0, res 2 (dead 2) (dead 2) 0, res 2 (dead 2) (dead 2) 0]
def tab9 : List Value := [res 0 (.slice none 0 0) (.slice none 0 0) 2, res 0 (.slice none 0 0) (.slice none 0 0) 2, res 0 (.slice none 0 0) (.slice none 0 0) 2, res 0 (.slice none 0 0) (.slice none 0 0) 2, res 0 (.slice none 0 0) (.slice none 0 0) 2, res 0 (.slice none 0 0) (.slice none 0 0) 2, res 0 (.slice none 0 0) (.slice none 0 0) 2, res 0 (.slice none 0 0) (.slice none 0 0) 2, res 0 (.slice none 0 0) (.slice none 0 0) 2]

set_option maxRecDepth 100000 in
theorem tab0_ok : ∀ v R, tab0[v]? = some R → Run 1000000 (txt Tryz.prog 0) v R := by
  intro v R h
  unfold tab0 at h
  match v, h with
  | 0, h => cases h; exact run_0_0
  | 1, h => cases h; exact run_0_1
  | 2, h => cases h; exact run_0_2
  | 3, h => cases h; exact run_0_3
  | 4, h => cases h; exact run_0_4
  | 5, h => cases h; exact run_0_5
  | 6, h => cases h; exact run_0_6
  | 7, h => cases h; exact run_0_7
  | 8, h => cases h; exact run_0_8
  | v + 9, h => simp at h

set_option maxRecDepth 100000 in
theorem tab1_ok : ∀ v R, tab1[v]? = some R → Run 1000000 (txt Tryz.prog 1) v R := by
  intro v R h
  unfold tab1 at h
  match v, h with
  | 0, h => cases h; exact run_1_0
  | 1, h => cases h; exact run_1_1
  | 2, h => cases h; exact run_1_2
  | 3, h => cases h; exact run_1_3
  | 4, h => cases h; exact run_1_4
  | 5, h => cases h; exact run_1_5
  | 6, h => cases h; exact run_1_6
  | 7, h => cases h; exact run_1_7
  | 8, h => cases h; exact run_1_8
  | v + 9, h => simp at h

set_option maxRecDepth 100000 in
theorem tab2_ok : ∀ v R, tab2[v]? = some R → Run 1000000 (txt Tryz.prog 2) v R := by
  intro v R h
  unfold tab2 at h
  match v, h with
  | 0, h => cases h; exact run_2_0
  | 1, h => cases h; exact run_2_1
  | 2, h => cases h; exact run_2_2
  | 3, h => cases h; exact run_2_3
  | 4, h => cases h; exact run_2_4
  | 5, h => cases h; exact run_2_5
  | 6, h => cases h; exact run_2_6
  | 7, h => cases h; exact run_2_7
  | 8, h => cases h; exact run_2_8
  | v + 9, h => simp at h

set_option maxRecDepth 100000 in
theorem tab3_ok : ∀ v R, tab3[v]? = some R → Run 1000000 (txt Tryz.prog 3) v R := by
  intro v R h
  unfold tab3 at h
  match v, h with
  | 0, h => cases h; exact run_3_0
  | 1, h => cases h; exact run_3_1
  | 2, h => cases h; exact run_3_2
  | 3, h => cases h; exact run_3_3
  | 4, h => cases h; exact run_3_4
  | 5, h => cases h; exact run_3_5
  | 6, h => cases h; exact run_3_6
  | 7, h => cases h; exact run_3_7
  | 8, h => cases h; exact run_3_8
  | v + 9, h => simp at h

set_option maxRecDepth 100000 in
theorem tab4_ok : ∀ v R, tab4[v]? = some R → Run 1000000 (txt Tryz.prog 4) v R := by
  intro v R h
  unfold tab4 at h
  match v, h with
  | 0, h => cases h; exact run_4_0
  | 1, h => cases h; exact run_4_1
  | 2, h => cases h; exact run_4_2
  | 3, h => cases h; exact run_4_3
  | 4, h => cases h; exact run_4_4
  | 5, h => cases h; exact run_4_5
  | 6, h => cases h; exact run_4_6
  | 7, h => cases h; exact run_4_7
  | 8, h => cases h; exact run_4_8
  | v + 9, h => simp at h

set_option maxRecDepth 100000 in
theorem tab5_ok : ∀ v R, tab5[v]? = some R → Run 1000000 (txt Tryz.prog 5) v R := by
  intro v R h
  unfold tab5 at h
  match v, h with
  | 0, h => cases h; exact run_5_0
  | 1, h => cases h; exact run_5_1
  | 2, h => cases h; exact run_5_2
  | 3, h => cases h; exact run_5_3
  | 4, h => cases h; exact run_5_4
  | 5, h => cases h; exact run_5_5
  | 6, h => cases h; exact run_5_6
  | 7, h => cases h; exact run_5_7
  | 8, h => cases h; exact run_5_8
  | v + 9, h => simp at h

set_option maxRecDepth 100000 in
theorem tab6_ok : ∀ v R, tab6[v]? = some R → Run 1000000 (txt Tryz.prog 6) v R := by
  intro v R h
  unfold tab6 at h
  match v, h with
  | 0, h => cases h; exact run_6_0
  | 1, h => cases h; exact run_6_1
  | 2, h => cases h; exact run_6_2
  | 3, h => cases h; exact run_6_3
  | 4, h => cases h; exact run_6_4
  | 5, h => cases h; exact run_6_5
  | 6, h => cases h; exact run_6_6
  | 7, h => cases h; exact run_6_7
  | 8, h => cases h; exact run_6_8
  | v + 9, h => simp at h

set_option maxRecDepth 100000 in
theorem tab7_ok : ∀ v R, tab7[v]? = some R → Run 1000000 (txt Tryz.prog 7) v R := by
  intro v R h
  unfold tab7 at h
  match v, h with
  | 0, h => cases h; exact run_7_0
  | 1, h => cases h; exact run_7_1
  | 2, h => cases h; exact run_7_2
  | 3, h => cases h; exact run_7_3
  | 4, h => cases h; exact run_7_4
  | 5, h => cases h; exact run_7_5
  | 6, h => cases h; exact run_7_6
  | 7, h => cases h; exact run_7_7
  | 8, h => cases h; exact run_7_8
  | v + 9, h => simp at h

set_option maxRecDepth 100000 in
theorem tab8_ok : ∀ v R, tab8[v]? = some R → Run 1000000 (txt Tryz.prog 8) v R := by
  intro v R h
  unfold tab8 at h
  match v, h with
  | 0, h => cases h; exact run_8_0
  | 1, h => cases h; exact run_8_1
  | 2, h => cases h; exact run_8_2
  | 3, h => cases h; exact run_8_3
  | 4, h => cases h; exact run_8_4
  | 5, h => cases h; exact run_8_5
  | 6, h => cases h; exact run_8_6
  | 7, h => cases h; exact run_8_7
  | 8, h => cases h; exact run_8_8
  | v + 9, h => simp at h

set_option maxRecDepth 100000 in
theorem tab9_ok : ∀ v R, tab9[v]? = some R → Run 1000000 (txt Tryz.prog 9) v R := by
  intro v R h
  unfold tab9 at h
  match v, h with
  | 0, h => cases h; exact run_9_0
  | 1, h => cases h; exact run_9_1
  | 2, h => cases h; exact run_9_2
  | 3, h => cases h; exact run_9_3
  | 4, h => cases h; exact run_9_4
  | 5, h => cases h; exact run_9_5
  | 6, h => cases h; exact run_9_6
  | 7, h => cases h; exact run_9_7
  | 8, h => cases h; exact run_9_8
  | v + 9, h => simp at h

/- the walk around Decide -/
open Go.RowKit
def c1 (c : Code) : Code := match c with | .seq a _ => a | c => c
def c2 (c : Code) : Code := match c with | .seq _ b => b | c => c
def opsOf (c : Code) : Array Oper := match c with | .region _ ops _ => ops | _ => #[]
def bodyOf (P : Program) (k : Nat) : Code := match P.funcs[k]? with | some fn => fn.body.getD .skip | none => .skip
def kb (P : Program) : Code := bodyOf P 3
def ops0 (P : Program) : Array Oper := opsOf (c1 (kb P))
def ops1 (P : Program) : Array Oper := opsOf (c1 (c2 (kb P)))
def ops2 (P : Program) : Array Oper := opsOf (c1 (c2 (c2 (kb P))))
def rest (P : Program) : Code := c2 (c2 (c2 (kb P)))
def opAt (ops : Array Oper) (i : Nat) : Oper := ops.toList.getD i default

theorem body_eq : Tryz.f3.body = some (.seq (.region 0 (ops0 Tryz.prog) false) (.seq (.region 1 (ops1 Tryz.prog) false) (.seq (.region 2 (ops2 Tryz.prog) false) (rest Tryz.prog)))) := by kernel_rfl

def isRet (e : Exit) (A : Prop) : Prop := match e with | .ret => A | _ => False

def frame0 (i : Nat) : Fr := T.set dep (T.set dep T.emp 12 gv) 16 (.int .i64 (.ofNat i))

/-- Known, behind the choice of the text: what the kernel runs -/
def Tail (i : Nat) (tab : List Value) : Prop :=
  seqK Tryz.prog (fun _ _ _ _ => False) (ops2 Tryz.prog) 100 ((ops2 Tryz.prog).toList.drop 5) (frame0 i) (gh Tryz.prog) fun f h =>
    execK Tryz.prog (ovT (txt Tryz.prog i) tab) 1000 (rest Tryz.prog) f h fun e f _ => isRet e (getK 40 f 2 fun v => pickK v True False)

section
variable {P : Program} {ops : Array Oper} {Q : Exit → Act → World → Prop} {a : Act} {w : World}

theorem wpl_val {o : Oper} {l : List Oper} {c : Value} {w' : World} (hg : o.guard = none) (hr : (execOp a.eval o).run P w = .ok (.value c) w') (h : wpList P ops Q l (a.put o.dst c) w') : wpList P ops Q (o :: l) a w :=
  wpList_plain hg fun K hK => by
    unfold Oper.wp
    rw [hr]
    exact hK _ _ h

theorem wpl_move {o : Oper} {l : List Oper} {x : Operand} (hg : o.guard = none) (ho : o.op = .move x ∨ o.op = .assign x) (h : wpList P ops Q l (a.put o.dst (a.eval x)) w) : wpList P ops Q (o :: l) a w :=
  wpl_val hg (by unfold execOp; rcases ho with ho | ho <;> rw [ho] <;> rfl) h

theorem wpl_call {o : Oper} {l : List Oper} {k : FuncId} {args : Array Operand} {ts : Array TypeId} {fn : Func} {R : Ending → World → Prop} (hg : o.guard = none) (ho : o.op = .call ⟨.value (.func k), args, ts⟩) (hf : P.funcs[k]? = some fn)
    (hb : fn.body.isNone = false) (hn : (fn.name == "runtime.NumGoroutine") = false) (hC : Calls P k (args.map a.eval) w R)
    (h : ∀ e w', R e w' → ∃ v, e = .returned v ∧ wpList P ops Q l (a.put o.dst v) w') : wpList P ops Q (o :: l) a w :=
  wpList_plain hg fun K hK => by
    unfold Oper.wp
    have hrun : (execOp a.eval o).run P w = .ok (.enter k (args.map a.eval)) w := by
      unfold execOp
      rw [ho]
      simp [resolve, Act.eval, Deferred.ofValue, invoke, callFunc_run hf hb hn]
    rw [hrun, Oper.upon_enter]
    refine hC.mono fun e w' he => ?_
    obtain ⟨v, rfl, hl⟩ := h e w' he
    exact hK _ _ hl
end

def Good (w : World) : Ending → World → Prop
  | .returned v, w' => v = .bool true ∧ Below w.heap.size w w'
  | .panicked _, _ => False
  | .outgrown, _ => False

set_option maxRecDepth 100000 in
set_option maxHeartbeats 4000000 in
theorem known_body (c : Int) (i : Nat) (tab : List Value) (hc : inI c) (hi : pck c 10 = i) (hov : ∀ w, OvOk Tryz.prog w (ovT (txt Tryz.prog i) tab)) (hT : Tail i tab) (w : World) : Calls Tryz.prog 3 #[.int .i64 c] w (Good w) := by
  refine calls_of_wp Tryz.func3 body_eq ?_
  have hsz : (#[Value.int .i64 c] ++ Array.replicate (Tryz.f3.ntmps - (#[Value.int .i64 c] : Array Value).size) undef).size = 78 := by rw [Tryz.ntmps3]; simp
  have h00 : ∀ ys : Array Value, (#[Value.int .i64 c] ++ ys).getD 0 undef = .int .i64 c := fun ys => by simp [Array.getD]
  have h00 := h00 (Array.replicate (Tryz.f3.ntmps - (#[Value.int .i64 c] : Array Value).size) undef)
  generalize (#[Value.int .i64 c] ++ Array.replicate (Tryz.f3.ntmps - (#[Value.int .i64 c] : Array Value).size) undef) = t0 at hsz h00 ⊢
  -- the first region: the answer's slot
  refine wp_seq (wp_region_list ?_)
  rw [show (ops0 Tryz.prog).toList = [opAt (ops0 Tryz.prog) 0] by kernel_rfl]
  refine wpl_move (x := .const (.bool false)) (by kernel_rfl) (.inr (by kernel_rfl)) ?_
  rw [show (opAt (ops0 Tryz.prog) 0).dst = some 2 by kernel_rfl]
  refine wpList_nil ?_
  -- golds
  refine wp_seq (wp_region_list ?_)
  rw [show (ops1 Tryz.prog).toList = [opAt (ops1 Tryz.prog) 0, opAt (ops1 Tryz.prog) 1] by kernel_rfl]
  have H0 : HRel w (fun _ => none) ⟨T.emp, 1⟩ w := ⟨Below.refl _ _, (fun _ _ hg => by cases hg), (fun id b hb => by simp [blk, T.get_emp] at hb), (fun _ _ _ _ hg => by cases hg), Nat.lt_succ_self 0, rfl⟩
  obtain ⟨⟨fg, hf1, hf2, hf3⟩, hG⟩ := call_sound 1000 (no_ok w) (says_all mixed (no_ok w) 1000) _ _ _ _ _ golds_eq
  have hG0 : Calls Tryz.prog 4 #[] w (Ai.Ends w 1 (fun _ => none) gv (gh Tryz.prog)) := hG (fun _ => none) w #[] H0 trivial
  refine wpl_call (k := 4) (args := #[]) (ts := #[]) (R := Ai.Ends w 1 (fun _ => none) gv (gh Tryz.prog)) (by kernel_rfl) (by kernel_rfl) hf1 hf2 hf3 (by simpa using hG0) fun e w1 he => ?_
  cases e with
  | panicked _ => exact he.elim
  | outgrown => exact he.elim
  | returned v1 =>
    obtain ⟨al, hN, hnx, H1, hv1⟩ := he
    refine ⟨v1, rfl, ?_⟩
    refine wpl_move (x := .tmp 11) (by kernel_rfl) (.inr (by kernel_rfl)) ?_
    rw [show (opAt (ops1 Tryz.prog) 0).dst = some 11 by kernel_rfl, show (opAt (ops1 Tryz.prog) 1).dst = some 3 by kernel_rfl]
    refine wpList_nil ?_
    -- the choice
    refine wp_seq (wp_region_list ?_)
    rw [show (ops2 Tryz.prog).toList = opAt (ops2 Tryz.prog) 0 :: opAt (ops2 Tryz.prog) 1 :: opAt (ops2 Tryz.prog) 2 :: opAt (ops2 Tryz.prog) 3 :: opAt (ops2 Tryz.prog) 4 :: (ops2 Tryz.prog).toList.drop 5 by kernel_rfl]
    refine wpl_move (x := .tmp 3) (by kernel_rfl) (.inl (by kernel_rfl)) ?_
    refine wpl_move (x := .tmp 0) (by kernel_rfl) (.inl (by kernel_rfl)) ?_
    refine wpl_move (x := .tmp 3) (by kernel_rfl) (.inl (by kernel_rfl)) ?_
    rw [show (opAt (ops2 Tryz.prog) 0).dst = some 12 by kernel_rfl, show (opAt (ops2 Tryz.prog) 1).dst = some 13 by kernel_rfl, show (opAt (ops2 Tryz.prog) 2).dst = some 14 by kernel_rfl]
    generalize hA1 : (Act.mk t0 []).put (some 2) ((Act.mk t0 []).eval (.const (.bool false))) = A1
    have s1 : A1.tmps.size = 78 := by rw [← hA1, put_size]; exact hsz
    have d1 : A1.defers = [] := by rw [← hA1, put_defers]
    have e0 : A1.eval (.tmp 0) = .int .i64 c := by
      rw [← hA1]
      show ((Act.mk t0 []).put (some 2) _).tmps.getD 0 undef = _
      rw [put_getD _ _ _ _ (by show 2 < t0.size; omega)]
      exact h00
    have evp : ∀ (A : Act) (d t : Nat) (v : Value), A.tmps.size = 78 → d < 78 → (A.put (some d) v).eval (.tmp t) = if t = d then v else A.eval (.tmp t) := fun A d t v hs hd => put_getD A d t v (by omega)
    have psz : ∀ (A : Act) (d : Nat) (v : Value), A.tmps.size = 78 → (A.put (some d) v).tmps.size = 78 := fun A d v hs => (put_size _ _ _).trans hs
    have q11 : (A1.put (some 11) v1).eval (.tmp 11) = v1 := by rw [evp _ _ _ _ s1 (by omega)]; rfl
    rw [q11]
    generalize hA3 : (A1.put (some 11) v1).put (some 3) v1 = A3
    have s3 : A3.tmps.size = 78 := by rw [← hA3]; exact psz _ _ _ (psz _ _ _ s1)
    have d3 : A3.defers = [] := by rw [← hA3, put_defers, put_defers]; exact d1
    have e3 : A3.eval (.tmp 3) = v1 := by rw [← hA3, evp _ _ _ _ (psz _ _ _ s1) (by omega)]; rfl
    have e03 : A3.eval (.tmp 0) = .int .i64 c := by rw [← hA3, evp _ _ _ _ (psz _ _ _ s1) (by omega), evp _ _ _ _ s1 (by omega)]; exact e0
    rw [e3]
    have q0 : (A3.put (some 12) v1).eval (.tmp 0) = .int .i64 c := by rw [evp _ _ _ _ s3 (by omega)]; exact e03
    rw [q0]
    have q3 : ((A3.put (some 12) v1).put (some 13) (.int .i64 c)).eval (.tmp 3) = v1 := by rw [evp _ _ _ _ (psz _ _ _ s3) (by omega), evp _ _ _ _ s3 (by omega)]; exact e3
    rw [q3]
    generalize hA6 : ((A3.put (some 12) v1).put (some 13) (.int .i64 c)).put (some 14) v1 = A6
    have s6 : A6.tmps.size = 78 := by rw [← hA6]; exact psz _ _ _ (psz _ _ _ (psz _ _ _ s3))
    have d6 : A6.defers = [] := by rw [← hA6, put_defers, put_defers, put_defers]; exact d3
    have e14 : A6.eval (.tmp 14) = v1 := by rw [← hA6, evp _ _ _ _ (psz _ _ _ (psz _ _ _ s3)) (by omega)]; rfl
    have e13 : A6.eval (.tmp 13) = .int .i64 c := by rw [← hA6, evp _ _ _ _ (psz _ _ _ (psz _ _ _ s3)) (by omega), evp _ _ _ _ (psz _ _ _ s3) (by omega)]; rfl
    have e12 : A6.eval (.tmp 12) = v1 := by rw [← hA6, evp _ _ _ _ (psz _ _ _ (psz _ _ _ s3)) (by omega), evp _ _ _ _ (psz _ _ _ s3) (by omega), evp _ _ _ _ s3 (by omega)]; rfl
    -- the length
    obtain ⟨hl, _⟩ := len_sound (P := Tryz.prog) (t := 22) (ty := (opAt (ops2 Tryz.prog) 3).type) hv1 (show lenV Tryz.prog 22 gv = some (.int .i64 (.ofNat 10)) by kernel_rfl) w1
    refine wpl_val (c := .int .i64 (.ofNat 10)) (w' := w1) (by kernel_rfl) ?_ ?_
    · unfold execOp
      rw [show (opAt (ops2 Tryz.prog) 3).op = .call ⟨.builtin .len, #[.tmp 14], #[22]⟩ by kernel_rfl]
      simp only [resolve, Sem.run_bind, Sem.run_pure, Result.andThen_ok, invoke, builtin]
      rw [show (#[Operand.tmp 14] : Array Operand).map A6.eval = #[v1] by simp [e14]]
      rw [hl]
      rfl
    rw [show (opAt (ops2 Tryz.prog) 3).dst = some 15 by kernel_rfl]
    have e15 : (A6.put (some 15) (.int .i64 (.ofNat 10))).eval (.tmp 15) = .int .i64 (.ofNat 10) := by rw [evp _ _ _ _ s6 (by omega)]; rfl
    have e13' : (A6.put (some 15) (.int .i64 (.ofNat 10))).eval (.tmp 13) = .int .i64 c := by rw [evp _ _ _ _ s6 (by omega)]; exact e13
    have e12' : (A6.put (some 15) (.int .i64 (.ofNat 10))).eval (.tmp 12) = v1 := by rw [evp _ _ _ _ s6 (by omega)]; exact e12
    have s7 := psz A6 15 (.int .i64 (.ofNat 10)) s6
    have d7 : (A6.put (some 15) (.int .i64 (.ofNat 10))).defers = [] := (put_defers _ _ _).trans d6
    generalize A6.put (some 15) (.int .i64 (.ofNat 10)) = A7 at e15 e13' e12' s7 d7 ⊢
    -- pick
    have hP := pick_any c 10 (by omega) (by omega) hc w1
    have hPe : (#[Operand.tmp 13, Operand.tmp 15] : Array Operand).map A7.eval = #[.int .i64 c, .int .i64 10] := by simp [e13', e15]
    refine wpl_call (k := 5) (args := #[.tmp 13, .tmp 15]) (ts := #[3, 3]) (by kernel_rfl) (by kernel_rfl) Tryz.func5 (by kernel_rfl) (by kernel_rfl) (by rw [hPe]; exact hP) fun e w2 he => ?_
    obtain ⟨rfl, rfl⟩ := he
    refine ⟨_, rfl, ?_⟩
    rw [hi, show (opAt (ops2 Tryz.prog) 4).dst = some 16 by kernel_rfl]
    have e16 : (A7.put (some 16) (.int .i64 (i : Int))).eval (.tmp 16) = .int .i64 (i : Int) := by rw [evp _ _ _ _ s7 (by omega)]; rfl
    have e12'' : (A7.put (some 16) (.int .i64 (i : Int))).eval (.tmp 12) = v1 := by rw [evp _ _ _ _ s7 (by omega)]; exact e12'
    have s8 := psz A7 16 (.int .i64 (i : Int)) s7
    have d8 : (A7.put (some 16) (.int .i64 (i : Int))).defers = [] := (put_defers _ _ _).trans d7
    generalize A7.put (some 16) (.int .i64 (i : Int)) = A8 at e16 e12'' s8 d8 ⊢
    -- what is left, by the interpreter
    obtain ⟨f1, h1, hs1, hx⟩ := seqK_ref (call' := fun _ _ _ => none) (fun _ _ _ _ hk => hk.elim) _ _ _ _ _ hT
    obtain ⟨e2, f2, h2, hx2, hr2⟩ := execK_ref _ _ _ _ _ hx
    have hF : FRel (gh Tryz.prog).nx al (T.get dep (frame0 i)) A8.tmps := fun t v hv => by
      unfold frame0 at hv
      by_cases ht : t = 16
      · subst ht
        have := T.get_set_self _ _ _ hv
        subst this
        exact ⟨by omega, e16⟩
      · rw [T.get_set_ne _ _ _ _ _ ht] at hv
        by_cases ht2 : t = 12
        · subst ht2
          have := T.get_set_self _ _ _ hv
          subst this
          refine ⟨by omega, ?_⟩
          rw [show A8.tmps.getD 12 undef = v1 from e12'']
          exact hv1
        · rw [T.get_set_ne _ _ _ _ _ ht2, T.get_emp] at hv
          cases hv
    have hdst : ∀ o ∈ (ops2 Tryz.prog).toList.drop 5, dstOk 78 o := dsts_ops (nt := 78) (id := 0) (ops := ((ops2 Tryz.prog).toList.drop 5).toArray) (d := false) (by kernel_rfl) (Nat.le_refl _)
    refine seq_sound (call := fun _ _ _ => none) (fun _ _ _ _ _ h => by cases h) (n0 := (gh Tryz.prog).nx) (al0 := al) (fun a' w' hst => ?_) _ _ _ al A8 w2 hdst hs1 s8 d8 (Next.refl _ _) (Nat.le_refl _) H1 hF
    obtain ⟨k1, k2, al', k3, k4, k5, k6⟩ := hst
    refine wp_mono (says_all mixed (hov w) 1000 (rest Tryz.prog) f1 h1 e2 f2 h2 hx2 78 78 al' a' w' (by kernel_rfl) (Nat.le_refl _) k1 k2 k5 k6) fun e3 a3 w3 hq => ?_
    cases e2 <;> first | exact hr2.elim | skip
    have hr3 : getK 40 f2 2 (fun v => pickK v True False) := hr2
    obtain ⟨vr, hvr, hpk⟩ := getK_ref _ _ _ _ hr3
    obtain ⟨rfl, _⟩ : vr = Value.bool true ∧ True := by
      rcases pickK_ref hpk with ⟨h, _⟩ | ⟨_, h⟩
      · exact ⟨h, trivial⟩
      · exact h.elim
    cases e3 with
    | ret =>
      obtain ⟨_, _, j2, al3, _, _, j5, j6⟩ := hq
      obtain ⟨_, hv⟩ := j6 2 _ hvr
      refine ⟨j2, .bool true, ?_, rfl, j5.bel⟩
      rw [results_tmp (t := 2) (by kernel_rfl)]
      rw [show a3.tmps.getD 2 undef = .bool true from hv]
    | _ => exact absurd hq.1 (by simp)

set_option maxRecDepth 1000000
theorem tail0 : Tail 0 tab0 := of_eq_true (by kernel_rfl)
theorem tail1 : Tail 1 tab1 := of_eq_true (by kernel_rfl)
theorem tail2 : Tail 2 tab2 := of_eq_true (by kernel_rfl)
theorem tail3 : Tail 3 tab3 := of_eq_true (by kernel_rfl)
theorem tail4 : Tail 4 tab4 := of_eq_true (by kernel_rfl)
theorem tail5 : Tail 5 tab5 := of_eq_true (by kernel_rfl)
theorem tail6 : Tail 6 tab6 := of_eq_true (by kernel_rfl)
theorem tail7 : Tail 7 tab7 := of_eq_true (by kernel_rfl)
theorem tail8 : Tail 8 tab8 := of_eq_true (by kernel_rfl)
theorem tail9 : Tail 9 tab9 := of_eq_true (by kernel_rfl)

theorem known_walk (c : Int) (hc : inI c) (w : World) : Calls Tryz.prog 3 #[.int .i64 c] w (Good w) := by
  have hb := pck_bd c (n := 10) (by omega)
  have hs : pck c 10 = 0 ∨ pck c 10 = 1 ∨ pck c 10 = 2 ∨ pck c 10 = 3 ∨ pck c 10 = 4 ∨ pck c 10 = 5 ∨ pck c 10 = 6 ∨ pck c 10 = 7 ∨ pck c 10 = 8 ∨ pck c 10 = 9 := by omega
  rcases hs with h | h | h | h | h | h | h | h | h | h
  · exact known_body c 0 tab0 hc h (ov_ok tab0_ok) tail0 w
  · exact known_body c 1 tab1 hc h (ov_ok tab1_ok) tail1 w
  · exact known_body c 2 tab2 hc h (ov_ok tab2_ok) tail2 w
  · exact known_body c 3 tab3 hc h (ov_ok tab3_ok) tail3 w
  · exact known_body c 4 tab4 hc h (ov_ok tab4_ok) tail4 w
  · exact known_body c 5 tab5 hc h (ov_ok tab5_ok) tail5 w
  · exact known_body c 6 tab6 hc h (ov_ok tab6_ok) tail6 w
  · exact known_body c 7 tab7 hc h (ov_ok tab7_ok) tail7 w
  · exact known_body c 8 tab8 hc h (ov_ok tab8_ok) tail8 w
  · exact known_body c 9 tab9 hc h (ov_ok tab9_ok) tail9 w

end Go.Proofs.YtbbglffodmigiaaGreatDoor

namespace Go.Proofs.YtbbglffodmigiaaGreatDoor
open Go.ChangeShapes Go.WideShapes Go.ChangeAt Go.RowKit Go.Deep

def laidL : List (String × DataW Unit) := [("leak/circuit.lane", Rows.laid_leak_circuit_lane)]
theorem door_met (os : Os) (args : Array Value) : laidMetH Tryz.prog laidL ((World.doorLaid Tryz.prog 400 os).forCall (fun _ _ => 0) ⟨#[], args, []⟩).memory :=
  laidMetH_of_parts3 (fuel := 8) (laidMet_of_run' 8 (by kernel_rfl) (by kernel_rfl)) (by kernel_rfl) (by kernel_rfl)
theorem and_mk {a b : Bool} (ha : a = true) (hb : b = true) : (a && b) = true := by rw [ha, hb]; rfl

theorem own : ownKnob Tryz.prog.godebug = none := by kernel_rfl
theorem laidOut : laidOutB Tryz.prog = true := by kernel_rfl

theorem wf_inI {z : Int} (h : (Lit.int .i64 z).wf = true) : inI z := by
  simp [Lit.wf, IntKind.min, IntKind.max, IntKind.signed, IntKind.bits] at h
  unfold inI; omega

theorem int_of {H : Type} {enc : TypeId × Value → H} {w : World} {base : Nat} {spare : Nat → Bool} {held : Bool} {v : Value} {d : DataW H} {p : List MemPlace} (h : DataW.Trod enc Tryz.prog w base spare held 3 v d p) (hs : ∃ z, v = .int .i64 z) : ∃ z, v = .int .i64 z ∧ inI z := by
  obtain ⟨z, rfl⟩ := hs
  obtain ⟨fuel, hf⟩ := h
  obtain ⟨y, e, _, hwf⟩ := DataW.trod_int Tryz.underlying3 hf
  simp [Value.cells] at e
  subst e
  exact ⟨z, rfl, wf_inI hwf⟩

set_option maxRecDepth 100000 in
theorem known_lifted (os : Os) (started : os.Started) (H : Type) (enc : TypeId × Value → H) :
    ReturnsInHanded {} Tryz.checked os 3 .any (fun w args => (Rows.knownSpec.pre enc Tryz.prog Tryz.f3 [] false w args ∧ laidMetH Tryz.prog laidL w) ∧ sizedMet enc Tryz.prog Tryz.f3 (OpenSpec.ofChange Rows.knownSpec) false w args) (Rows.knownSpec.post enc Tryz.prog Tryz.f3 false true false false) := by
  refine returnsInHanded_of_change_and (C := Tryz.checked) (X := fun w _ => laidMetH Tryz.prog laidL w) (fun _ _ _ hh h => h.of_heap hh) own started (by kernel_rfl) Tryz.func3
    (ChangeSpec.witness_shaped (enc := enc) (C := Tryz.checked) (os := os) (X := fun w _ => laidMetH Tryz.prog laidL w) false (World.doorLaid Tryz.prog 400 os) #[.int .i64 0] 8 rfl (World.shaped_of_RefB (by kernel_rfl) (by kernel_rfl)) (by kernel_rfl) (by kernel_rfl) (by kernel_rfl) (door_met os _)) ?_
  intro W base args ds gs before hval0 hW _ _ _ _
  have hval : ∀ (j : Nat) t v, Tryz.f3.params[j]? = some t → args[j]? = some v → Value.okWide Tryz.prog W .any base t v := hval0
  have hW' := hW
  obtain ⟨p, q, hA0, hV, rfl, hfz, hnd⟩ := hW
  have hA : DataW.TrodAll enc Tryz.prog W 0 (fun _ => true) true Tryz.f3.params.toList args.toList ds p := hA0
  rw [Tryz.params3] at hA hval
  obtain ⟨v0, vs0, d0, ds0, p0, q0, hargs, rfl, rfl, h0, r0⟩ := trodAll_cons hA
  obtain ⟨rfl, rfl, rfl⟩ := trodAll_nil r0
  obtain rfl : args = #[v0] := by cases args; simp_all
  obtain ⟨rfl, rfl⟩ := trodVars_none hV
  obtain ⟨z0, rfl, i0⟩ := int_of h0 (okWide_int Tryz.underlying3 (hval 0 3 v0 rfl rfl))
  have k0 := h0
  have lt0 : ∀ x ∈ p0, x.block < W.heap.size := by obtain ⟨m, hm⟩ := k0; exact DataW.trod_lt m _ _ _ hm
  clear hA0 hval0
  refine (known_walk z0 i0 W).mono fun e W' he => ?_
  cases e with
  | panicked _ => exact he.elim
  | outgrown => exact he.elim
  | returned v =>
    obtain ⟨rfl, bel⟩ := he
    exact ⟨_, rfl, _, _, _, [], _, [], hW', trodAll_mk1 (shut_bool Tryz.underlying4 _), (trodAll_cons_mk (Below.trod laidOut (by kernel_rfl) (of_decide_eq_true (by kernel_rfl)) k0 bel lt0) trodAll_mk0), rfl, bel.frame _, fun h => by cases h⟩

set_option maxRecDepth 100000 in
set_option maxHeartbeats 400000000 in
theorem known_closed : joinedFacts Tryz.prog 3 Tryz.f3 Rows.knownSpec Rows.knownRow = true := by
  unfold joinedFacts
  repeat' (with_reducible refine and_mk ?_ ?_)
  all_goals (as_aux_lemma => kernel_rfl)

theorem known_holds : Rows.KnownSaid :=
  OpenClaim.holds_of_wide 3 Tryz.f3 rfl rfl rfl rfl rfl rfl rfl ⟨rfl, rfl, rfl, rfl, rfl⟩ rfl rfl rfl rfl rfl (by kernel_rfl) Tryz.func3 known_closed
    (of_decide_eq_true (by kernel_rfl)) (by unfold Func.isWrapper; first | (rw [if_pos (by decide +kernel)]; kernel_rfl) | (rw [if_neg (by decide +kernel)]; exact ⟨rfl, rfl⟩))
    (fun os started H enc _ => known_lifted os started H enc)

theorem known_card : Rows.KnownCardSaid :=
  Claim7.holds_tied_plain_at .later [] [.data] true (true, "c945695b616f3cfdbf40b6a1a2400fadc61a16cb579b5af94932ef20f3d73694") false
    known_holds (fun _ h => by cases h) (by kernel_rfl) (fun _ h => by cases h) known_row_tie rfl ⟨rfl, rfl⟩ (by kernel_rfl) rfl
    (fun f fn hf hfn => by
      obtain rfl : f = 3 := Option.some.inj ((show Tryz.prog.funcNamed "leak/leakkeep.Known" = some 3 by kernel_rfl).symm.trans hf) |>.symm
      obtain rfl : fn = Tryz.f3 := (Option.some.inj (Tryz.func3.symm.trans hfn)).symm
      exact ⟨by kernel_rfl, fun j t ht => by
        rw [Tryz.params3] at ht
        have hm : t ∈ [3] := by simpa using Array.mem_of_getElem? ht
        have hall : ([3].all fun u => !Tryz.prog.wantsStandIn u) = true := by kernel_rfl
        exact (show Tryz.prog.wantsStandIn t = false by simpa using List.all_eq_true.1 hall t hm)⟩)
    (by kernel_rfl)
end Go.Proofs.YtbbglffodmigiaaGreatDoor
