/-
  An operation looks at its own operands alone; the order that a region's edges give.
-/
import Derived.Test.YtbbglffodmigiaaGreatDoorAiK
namespace Go.Ai
open Go.RowKit

section
variable {P : Program} {g g' : Nat → Option Value} {h h' : Hp}

theorem evs_congr : ∀ {xs : List Operand}, (∀ x ∈ xs, ev g x = ev g' x) → evs g xs = evs g' xs
  | [], _ => rfl
  | x :: xs, hx => by simp only [evs, hx x (by simp), evs_congr (xs := xs) fun y hy => hx y (by simp [hy])]

theorem evp_congr : ∀ {xs : List (Nat × Operand)}, (∀ x ∈ xs.map (·.2), ev g x = ev g' x) → evp g xs = evp g' xs
  | [], _ => rfl
  | x :: xs, hx => by simp only [evp, hx x.2 (by simp), evp_congr (xs := xs) fun y hy => hx y (by simp at hy ⊢; exact .inr hy)]

theorem allPlain_congr : ∀ {xs : List Operand}, (∀ x ∈ xs, ev g x = ev g' x) → allPlain g xs = allPlain g' xs
  | [], _ => rfl
  | x :: xs, hx => by simp only [allPlain, hx x (by simp), allPlain_congr (xs := xs) fun y hy => hx y (by simp [hy])]

theorem evo_congr {x : Option Operand} (hx : ∀ y ∈ x.toArray, ev g y = ev g' y) : evo g x = evo g' x := by
  cases x with
  | none => rfl
  | some x => simp only [evo, hx x (by simp)]

theorem plainOp_congr {o : Oper} (hs : ∀ cs b, o.op ≠ .select cs b) (hx : ∀ x ∈ o.op.operands, ev g x = ev g' x) : plainOp P g o = plainOp P g' o := by
  unfold plainOp
  rw [allPlain_congr (fun x hm => hx x (by simpa using hm)), execOp_congr o hs (ρ' := fun x => (ev g' x).getD undef) (fun x hm => by rw [hx x hm])]

theorem rop_congr {o : Oper} (hx : ∀ x ∈ o.op.operands, ev g x = ev g' x) : rop P g h o = rop P g' h o := by
  obtain ⟨dst, op, type, pos, after, guard⟩ := o
  cases op
  case move x => simp only [rop, hx x (by simp [Op.operands])]
  case assign x => simp only [rop, hx x (by simp [Op.operands])]
  case pick c x y => simp only [rop, hx c (by simp [Op.operands]), hx x (by simp [Op.operands]), hx y (by simp [Op.operands])]
  case load t x => simp only [rop, hx x (by simp [Op.operands])]
  case nilCheck x => simp only [rop, hx x (by simp [Op.operands])]
  case build t ps => simp only [rop, evp_congr (xs := ps.toList) (fun x hm => hx x (by simpa [Op.operands] using hm))]
  case slice t x lo hi mx =>
    cases mx with
    | some _ => rfl
    | none =>
      have h1 : evo g lo = evo g' lo := evo_congr fun y hy => hx y (by simp [Op.operands] at hy ⊢; simp [hy])
      have h2 : evo g hi = evo g' hi := evo_congr fun y hy => hx y (by simp [Op.operands] at hy ⊢; simp [hy])
      simp only [rop, hx x (by simp [Op.operands]), h1, h2]
      rw [plainOp_congr (g' := g') (fun _ _ => by simp) hx]
  case fieldAddr s x i => simp only [rop, hx x (by simp [Op.operands])]
  case indexAddr t x i => simp only [rop, hx x (by simp [Op.operands]), hx i (by simp [Op.operands])]
  case extract x i => simp only [rop, hx x (by simp [Op.operands])]
  case binOp op t x y u => exact plainOp_congr (fun _ _ => by simp) hx
  case unOp op t x => exact plainOp_congr (fun _ _ => by simp) hx
  case convert s d x => exact plainOp_congr (fun _ _ => by simp) hx
  case index t x i => exact plainOp_congr (fun _ _ => by simp) hx
  case call c =>
    obtain ⟨callee, args, argTypes⟩ := c
    cases callee
    case builtin b =>
      cases b
      case len =>
        simp only [rop]
        split
        · rename_i x t hx1 ht1
          rw [hx x (by simp [Op.operands, Call.operands]; rw [← Array.mem_toList_iff, hx1]; simp), plainOp_congr (g' := g') (fun _ _ => by simp) hx]
        · rfl
      all_goals rfl
    all_goals rfl
  all_goals rfl

theorem rop_heap {o : Oper} (hl : isLoad o.op = false) : rop P g h o = rop P g h' o := by
  obtain ⟨dst, op, type, pos, after, guard⟩ := o
  cases op
  case load t x => simp [isLoad] at hl
  case slice t x lo hi mx => cases mx <;> rfl
  case call c =>
    obtain ⟨callee, args, argTypes⟩ := c
    cases callee
    case builtin b => cases b <;> rfl
    all_goals rfl
  all_goals rfl

theorem wop_congr {call : FuncId → List Value → Hp → Option (Value × Hp)} {o : Oper} (hx : ∀ x ∈ o.op.operands, ev g x = ev g' x) : wop P call g h o = wop P call g' h o := by
  obtain ⟨dst, op, type, pos, after, guard⟩ := o
  cases op
  case alloc t => rfl
  case box t x => simp only [wop, hx x (by simp [Op.operands])]
  case buildSlice t n ps => simp only [wop, evp_congr (xs := ps.toList) (fun x hm => hx x (by simpa [Op.operands] using hm))]
  case store t x y => simp only [wop, hx x (by simp [Op.operands]), hx y (by simp [Op.operands])]
  case makeSlice t x y => simp only [wop, hx x (by simp [Op.operands]), hx y (by simp [Op.operands])]
  case call c =>
    obtain ⟨callee, args, argTypes⟩ := c
    have ha : ∀ x ∈ args.toList, ev g x = ev g' x := fun x hm => hx x (by simp [Op.operands, Call.operands]; exact .inr (by simpa using hm))
    cases callee
    case builtin b =>
      cases b
      case append =>
        simp only [wop]
        split
        · rename_i s x t u hx1 ht1
          rw [ha s (by rw [hx1]; simp), ha x (by rw [hx1]; simp)]
        · rfl
      case copy =>
        simp only [wop]
        split
        · rename_i s x t u hx1 ht1
          rw [ha s (by rw [hx1]; simp), ha x (by rw [hx1]; simp)]
        · rfl
      all_goals rfl
    case value f =>
      cases f
      case func k => simp only [wop, evs_congr ha]
      all_goals rfl
    all_goals rfl
  all_goals rfl

theorem ev_of_looks {ops : Array Oper} {o : Oper} (hg : ∀ t ∈ o.looksAt ops, g t = g' t) : ∀ x ∈ o.op.operands, ev g x = ev g' x := fun x hx => by
  cases x with
  | tmp t => exact hg t (List.mem_append_left _ (List.mem_filterMap.2 ⟨.tmp t, by simpa using hx, rfl⟩))
  | _ => rfl

theorem wants_congr {ops : Array Oper} {o : Oper} (hg : ∀ t ∈ o.looksAt ops, g t = g' t) : wants ops g o = wants ops g' o := by
  unfold wants
  split
  · rfl
  · rename_i j want hgd
    cases hj : ops[j]? with
    | none => rfl
    | some oj =>
      simp only [Option.bind_some]
      cases hd : oj.dst with
      | none => rfl
      | some t =>
        simp only [Option.bind_some]
        rw [hg t (by simp [Oper.looksAt, hgd, hj, hd])]

theorem step_congr {call : FuncId → List Value → Hp → Option (Value × Hp)} {ops : Array Oper} {o : Oper} (hg : ∀ t ∈ o.looksAt ops, g t = g' t) : step P call ops g h o = step P call ops g' h o := by
  unfold step
  rw [wants_congr hg, rop_congr (ev_of_looks hg), wop_congr (ev_of_looks hg)]

/-- the bits of one operation -/
def bitsOf (acc : List Nat) (o : Oper) : Nat := o.after.toList.foldl (fun s e => if Region.binds .any e then s ||| (1 <<< e.on) ||| acc.getD e.on 0 else s) 0

theorem bits_mem (acc : List Nat) (x : Nat) : ∀ (es : List Edge) (s : Nat), (es.foldl (fun s e => if Region.binds .any e then s ||| (1 <<< e.on) ||| acc.getD e.on 0 else s) s).testBit x = true →
    s.testBit x = true ∨ ∃ e ∈ es, Region.binds .any e = true ∧ (e.on = x ∨ (acc.getD e.on 0).testBit x = true)
  | [], s, h => .inl h
  | e :: es, s, h => by
    rw [List.foldl_cons] at h
    rcases bits_mem acc x es _ h with h1 | ⟨e', he', hb, hx⟩
    · split at h1
      · rename_i hb
        rw [Nat.testBit_or, Nat.testBit_or, Bool.or_eq_true, Bool.or_eq_true] at h1
        rcases h1 with (h1 | h1) | h1
        · exact .inl h1
        · refine .inr ⟨e, by simp, hb, .inl ?_⟩
          rw [Nat.one_shiftLeft, Nat.testBit_two_pow] at h1
          simpa using h1
        · exact .inr ⟨e, by simp, hb, .inr h1⟩
      · exact .inl h1
    · exact .inr ⟨e', by simp [he'], hb, hx⟩

theorem befores_spec : ∀ (ops : List Oper) (acc : List Nat), ∃ tl, befores ops acc = acc ++ tl ∧ tl.length = ops.length ∧ ∀ i o, ops[i]? = some o → ∃ pre, pre = (acc ++ tl).take (acc.length + i) ∧ tl[i]? = some (bitsOf pre o)
  | [], acc => ⟨[], by simp [befores], rfl, fun i o hi => by simp at hi⟩
  | o :: ops, acc => by
    obtain ⟨tl, h1, h2, h3⟩ := befores_spec ops (acc ++ [bitsOf acc o])
    refine ⟨bitsOf acc o :: tl, by rw [befores]; exact h1.trans (by simp), by simp [h2], fun i o' hi => ?_⟩
    cases i with
    | zero =>
      simp at hi
      subst hi
      exact ⟨acc, by simp, rfl⟩
    | succ i =>
      simp at hi
      obtain ⟨pre, hp, ht⟩ := h3 i o' hi
      refine ⟨pre, ?_, by simpa using ht⟩
      rw [hp]
      simp [Nat.add_assoc, Nat.add_comm 1 i]

/-- an operation's bits: those that an edge names, and theirs -/
theorem before_spec {ops : Array Oper} {i x : Nat} {o : Oper} (ho : ops[i]? = some o) (hb : ((befores ops.toList []).getD i 0).testBit x = true) :
    ∃ e ∈ o.after, Region.binds .any e = true ∧ (e.on = x ∨ (e.on < i ∧ ((befores ops.toList []).getD e.on 0).testBit x = true)) := by
  obtain ⟨tl, h1, h2, h3⟩ := befores_spec ops.toList []
  rw [h1] at hb ⊢
  simp only [List.nil_append, List.length_nil, Nat.zero_add] at h1 hb h3 ⊢
  obtain ⟨pre, hp, ht⟩ := h3 i o (by simpa using ho)
  have e1 : tl.getD i 0 = bitsOf pre o := by simp [List.getD, ht]
  rw [e1] at hb
  rcases bits_mem pre x _ 0 hb with h0 | ⟨e, he, hbd, hx⟩
  · simp at h0
  · refine ⟨e, by simpa using he, hbd, ?_⟩
    rcases hx with hx | hx
    · exact .inl hx
    · right
      by_cases hlt : e.on < i
      · refine ⟨hlt, ?_⟩
        have : pre.getD e.on 0 = tl.getD e.on 0 := by
          rw [hp]
          simp [List.getD, List.getElem?_take_of_lt hlt]
        rw [← this]
        exact hx
      · have : pre.getD e.on 0 = 0 := by
          rw [hp]
          simp [List.getD, List.getElem?_take, hlt]
        rw [this] at hx
        simp at hx

end
end Go.Ai
