/-
  The interpreter's memory against the model's: a block laid, a number that dies, cells written.
-/
import Derived.Test.YtbbglffodmigiaaGreatDoorAiB
import Derived.Laws.CopyOwn
namespace Go.Ai
open Go.RowKit

section
variable {W0 w w' : World} {al : Al} {h : Hp}

theorem blk_set_ne {m : T (Option Blk)} {x : Option Blk} {id j : Nat} {nx nx' : Nat} (hne : j ≠ id) : blk ⟨T.set dep m id x, nx⟩ j = blk ⟨m, nx'⟩ j := by
  unfold blk
  rw [T.get_set_ne _ _ _ _ _ hne]

theorem blk_set_self {m : T (Option Blk)} {b c : Blk} {id : Nat} {nx : Nat} (hb : blk ⟨T.set dep m id (some b), nx⟩ id = some c) : c = b := by
  unfold blk at hb
  split at hb
  · rename_i b' heq
    have := T.get_set_self _ _ _ heq
    simp at this hb
    rw [← hb, this]
  · cases hb

theorem blk_set_none {m : T (Option Blk)} {c : Blk} {id : Nat} {nx : Nat} (hb : blk ⟨T.set dep m id none, nx⟩ id = some c) : False := by
  unfold blk at hb
  split at hb
  · rename_i b' heq
    have := T.get_set_self _ _ _ heq
    simp at this
  · cases hb

theorem blk_set_of {m : T (Option Blk)} {b c : Blk} {id : Nat} {nx nx' : Nat} (hb : blk ⟨m, nx⟩ id = some c) : blk ⟨T.set dep m id (some b), nx'⟩ id = some b := by
  unfold blk at hb ⊢
  split at hb
  · rename_i b' heq
    simp only at heq ⊢
    rw [T.get_set_of _ _ _ heq]
  · cases hb

theorem blk_set_lt {m : T (Option Blk)} {b : Blk} {id : Nat} {nx : Nat} (hid : id ≤ top) : blk ⟨T.set dep m id (some b), nx⟩ id = some b := by
  unfold blk
  simp only
  rw [T.get_set_lt _ _ _ (top_dep hid)]

/-- a change of the model's memory that keeps the blocks that live -/
theorem HRel.world (H : HRel W0 al h w) (hb : Below W0.heap.size W0 w') (hk : ∀ id g, al id = some g → w'.heap[g.b]? = w.heap[g.b]?) : HRel W0 al h w' where
  bel := hb
  live := fun id g hg => by
    obtain ⟨h1, h2, b, cs, e, h3, h4, h5⟩ := H.live id g hg
    exact ⟨h1, h2, b, cs, e, h3, (hk id g hg).trans h4, h5⟩
  has := H.has
  inj := H.inj
  pos := H.pos
  zero := H.zero

theorem HRel.lt (H : HRel W0 al h w) {id : Nat} {g : G} (hg : al id = some g) : g.b < w.heap.size := by
  obtain ⟨_, _, b, cs, _, _, h4, _⟩ := H.live id g hg
  exact (Array.getElem?_eq_some_iff.1 h4).1

theorem HRel.drew (H : HRel W0 al h w) : HRel W0 al h { w with drawn := w.drawn + 1 } :=
  H.world ⟨H.bel.os, H.bel.tape, H.bel.output, H.bel.size, H.bel.block⟩ fun _ _ _ => rfl

theorem HRel.alloc (H : HRel W0 al h w) (o : Obj) : HRel W0 al h (w.alloc o) :=
  H.world (H.bel.alloc H.bel.size o) fun _ _ hg => Below.heap_alloc _ _ _ (H.lt hg)

/-- a number dies -/
def Al.kill (al : Al) (id : Nat) : Al := fun j => if j = id then none else al j

theorem Next.kill (n : Nat) (al : Al) (id : Nat) : Next n al (al.kill id) := fun j _ => by
  unfold Al.kill
  split
  · exact .inr rfl
  · exact .inl rfl

theorem HRel.kill (H : HRel W0 al h w) (id : Nat) : HRel W0 (al.kill id) ⟨T.set dep h.m id none, h.nx⟩ w where
  bel := H.bel
  live := fun j g hg => by
    unfold Al.kill at hg
    split at hg
    · cases hg
    · rename_i hj
      obtain ⟨h1, h2, b, cs, e, h3, h4, h5, h7, h8⟩ := H.live j g hg
      exact ⟨h1, h2, b, cs, e, by rw [blk_set_ne hj]; exact h3, h4, h5, h7, fun o v ho => by
        obtain ⟨c, hc, hr⟩ := h8 o v ho
        exact ⟨c, hc, hr.next (Nat.le_refl _) (Next.kill _ _ _)⟩⟩
  has := fun j b hb => by
    by_cases hj : j = id
    · subst hj; exact (blk_set_none hb).elim
    · rw [blk_set_ne hj (nx' := h.nx)] at hb
      obtain ⟨g, hg⟩ := H.has j b hb
      exact ⟨g, by simp [Al.kill, hj, hg]⟩
  inj := fun j j' g g' hg hg' he => by
    unfold Al.kill at hg hg'
    split at hg
    · cases hg
    · split at hg'
      · cases hg'
      · exact H.inj j j' g g' hg hg' he
  pos := H.pos
  zero := by
    unfold Al.kill
    split
    · rfl
    · exact H.zero

/-- a new number for a block that is no one's -/
def Al.give (al : Al) (id : Nat) (g : G) : Al := fun j => if j = id then some g else al j

theorem Next.give (al : Al) (id : Nat) (g : G) : Next id al (al.give id g) := fun j hj => by
  unfold Al.give
  rw [if_neg (by omega)]
  exact .inl rfl

theorem HRel.own (H : HRel W0 al h w) (hnx : h.nx ≤ top) (B base : Nat) (b : Blk) (cs : Array Value) (e : TypeId) (hB : W0.heap.size ≤ B) (hfree : ∀ id g, al id = some g → g.b ≠ B)
    (hcs : w.heap[B]? = some (.cells cs e (0, 0))) (hsz : base + b.size ≤ cs.size) (hat : ∀ o v, b.at o = some v → ∃ c, cs[base + o]? = some c ∧ CRel h.nx al v c) :
    HRel W0 (al.give h.nx ⟨B, base, cs.size⟩) ⟨T.set dep h.m h.nx (some b), h.nx + 1⟩ w where
  bel := H.bel
  live := fun j g hg => by
    unfold Al.give at hg
    split at hg
    · rename_i hj
      subst hj
      simp at hg
      subst hg
      exact ⟨Nat.lt_succ_self _, hB, b, cs, e, blk_set_lt hnx, hcs, rfl, hsz, fun o v ho => by
        obtain ⟨c, hc, hr⟩ := hat o v ho
        exact ⟨c, hc, hr.next (Nat.le_succ _) (Next.give _ _ _)⟩⟩
    · rename_i hj
      obtain ⟨h1, h2, b', cs', e', h3, h4, h5, h7, h8⟩ := H.live j g hg
      exact ⟨by show j < h.nx + 1; omega, h2, b', cs', e', by rw [blk_set_ne hj (nx' := h.nx)]; exact h3, h4, h5, h7, fun o v ho => by
        obtain ⟨c, hc, hr⟩ := h8 o v ho
        exact ⟨c, hc, hr.next (Nat.le_succ _) (Next.give _ _ _)⟩⟩
  has := fun j b' hb => by
    by_cases hj : j = h.nx
    · exact ⟨⟨B, base, cs.size⟩, by simp only [Al.give, hj, if_true]⟩
    · rw [blk_set_ne hj (nx' := h.nx)] at hb
      obtain ⟨g, hg⟩ := H.has j b' hb
      exact ⟨g, by simp [Al.give, hj, hg]⟩
  inj := fun j j' g g' hg hg' he => by
    unfold Al.give at hg hg'
    split at hg <;> split at hg'
    · omega
    · simp at hg; subst hg; exact absurd he.symm (hfree _ _ hg')
    · simp at hg'; subst hg'; exact absurd he (hfree _ _ hg)
    · exact H.inj j j' g g' hg hg' he
  pos := Nat.succ_pos _
  zero := by
    unfold Al.give
    rw [if_neg (by have := H.pos; omega)]
    exact H.zero

theorem get_lay : ∀ (vs : List Value) (t : T Value) (o j : Nat), o + vs.length ≤ top → T.get dep (lay vs t o) j = if o ≤ j ∧ j < o + vs.length then vs[j - o]? else T.get dep t j
  | [], t, o, j, _ => by simp [lay]; omega
  | v :: vs, t, o, j, h => by
    simp only [List.length_cons] at h
    rw [lay, get_lay vs _ _ _ (by omega)]
    simp only [List.length_cons]
    by_cases h1 : o + 1 ≤ j ∧ j < o + 1 + vs.length
    · rw [if_pos h1, if_pos (by omega), show j - o = (j - (o + 1)) + 1 by omega]
      simp
    · rw [if_neg h1]
      by_cases h2 : j = o
      · subst h2
        rw [T.get_set_lt _ _ _ (top_dep (by omega)), if_pos (by omega)]
        simp
      · rw [T.get_set_ne _ _ _ _ _ h2, if_neg (by omega)]

theorem at_lay {b : Blk} {vs : List Value} {o : Nat} (ht : o + vs.length ≤ top) (hs : o + vs.length ≤ b.size) (j : Nat) :
    (Blk.at ⟨b.size, b.z, lay vs b.cells o⟩ j) = if o ≤ j ∧ j < o + vs.length then vs[j - o]? else b.at j := by
  unfold Blk.at
  simp only
  rw [get_lay _ _ _ _ ht]
  by_cases h1 : o ≤ j ∧ j < o + vs.length
  · rw [if_pos (by omega), if_pos h1, if_pos h1, List.getElem?_eq_getElem (by omega)]
  · rw [if_neg h1, if_neg h1]

/-- cells written into a block -/
theorem HRel.write (H : HRel W0 al h w) {id : Nat} {g : G} {b : Blk} {cs : Array Value} {e : TypeId} (hg : al id = some g) (hb : blk h id = some b) (hcs : w.heap[g.b]? = some (.cells cs e (0, 0)))
    {o : Nat} {vs us : List Value} (ht : o + vs.length ≤ top) (hs : o + vs.length ≤ b.size) (hp : PW (CRel h.nx al) vs us) :
    HRel W0 al ⟨T.set dep h.m id (some ⟨b.size, b.z, lay vs b.cells o⟩), h.nx⟩
      (w.setRow g.b (cs.toList.take (g.base + o) ++ us ++ cs.toList.drop (g.base + o + us.length)).toArray) := by
  have hl := hp.length
  obtain ⟨hid, hW, b', cs', e', k3, k4, k5, k7, k8⟩ := H.live id g hg
  obtain rfl : b' = b := Option.some.inj (k3.symm.trans hb)
  obtain rfl : cs' = cs := by have := k4.symm.trans hcs; simp at this; exact this.1
  have hlen : (cs'.toList.take (g.base + o) ++ us ++ cs'.toList.drop (g.base + o + us.length)).length = cs'.size := by
    simp; omega
  refine ⟨below_setRow H.bel hW _, fun j g' hg' => ?_, fun j b' hb' => ?_, H.inj, H.pos, H.zero⟩
  · by_cases hj : j = id
    · subst hj
      obtain rfl : g' = g := Option.some.inj (hg'.symm.trans hg)
      refine ⟨hid, hW, _, _, _, blk_set_of hb, setRow_heap _ _ _ _ _ _ hcs, by simpa using hlen.trans k5, k7, fun o' v hv => ?_⟩
      rw [at_lay ht hs] at hv
      split at hv
      · rename_i hin
        obtain ⟨c, hc, hr⟩ := hp.get hv
        refine ⟨c, ?_, hr⟩
        simp only [List.getElem?_toArray]
        rw [List.append_assoc, List.getElem?_append_right (by simp; omega), List.getElem?_append_left (by simp; omega)]
        rw [← hc]
        congr 1
        simp
        omega
      · rename_i hout
        obtain ⟨c, hc, hr⟩ := k8 o' v hv
        refine ⟨c, ?_, hr⟩
        have hlt : o' < b'.size := by unfold Blk.at at hv; split at hv; · assumption
                                      · cases hv
        simp only [List.getElem?_toArray]
        by_cases h1 : o' < o
        · rw [List.append_assoc, List.getElem?_append_left (by simp; omega), List.getElem?_take_of_lt (by omega)]
          simpa using hc
        · rw [List.getElem?_append_right (by simp; omega), List.getElem?_drop]
          rw [← hc, ← Array.getElem?_toList]
          congr 1
          simp
          omega
    · obtain ⟨h1, h2, b'', cs'', e'', h3, h4, h5⟩ := H.live j g' hg'
      refine ⟨h1, h2, b'', cs'', e'', by rw [blk_set_ne hj (nx' := h.nx)]; exact h3, ?_, h5⟩
      rw [setRow_other _ _ _ _ (fun he => hj (H.inj _ _ _ _ hg' hg he))]
      exact h4
  · by_cases hj : j = id
    · exact ⟨g, hj ▸ hg⟩
    · rw [blk_set_ne hj (nx' := h.nx)] at hb'
      exact H.has j b' hb'

/-- what is read, in the model's memory -/
theorem HRel.cell (H : HRel W0 al h w) {id : Nat} {b : Blk} (hb : blk h id = some b) : ∃ g cs e, al id = some g ∧ w.heap[g.b]? = some (.cells cs e (0, 0)) ∧ cs.size = g.csize ∧ g.base + b.size ≤ g.csize ∧ id < h.nx ∧ W0.heap.size ≤ g.b ∧
    ∀ o v, b.at o = some v → ∃ c, cs[g.base + o]? = some c ∧ CRel h.nx al v c := by
  obtain ⟨g, hg⟩ := H.has id b hb
  obtain ⟨h1, h2, b', cs, e, h3, h4, h5, h7, h8⟩ := H.live id g hg
  obtain rfl : b' = b := Option.some.inj (h3.symm.trans hb)
  exact ⟨g, cs, e, hg, h4, h5, h7, h1, h2, h8⟩

theorem take_rel {n : Nat} {al : Al} {b : Blk} {cs : Array Value} {p : Nat} (h8 : ∀ o v, b.at o = some v → ∃ c, cs[p + o]? = some c ∧ CRel n al v c) :
    ∀ (k o : Nat) (vs : List Value), b.take o k = some vs → vs.length = k ∧ ∃ us, PW (CRel n al) vs us ∧ (∀ j u, us[j]? = some u → cs[p + o + j]? = some u) ∧ o + k ≤ max o b.size
  | 0, o, vs, hv => by
    simp [Blk.take] at hv
    subst hv
    exact ⟨rfl, [], trivial, fun j u hu => by simp at hu, by omega⟩
  | k + 1, o, vs, hv => by
    simp only [Blk.take, Option.bind_eq_some_iff] at hv
    obtain ⟨v, h1, vs', h2, h3⟩ := hv
    simp at h3
    subst h3
    obtain ⟨hl, us, hp, hu, hb⟩ := take_rel h8 k (o + 1) vs' h2
    obtain ⟨c, hc, hr⟩ := h8 o v h1
    have hlt : o < b.size := by unfold Blk.at at h1; split at h1; · assumption
                                · cases h1
    refine ⟨by simp [hl], c :: us, ⟨hr, hp⟩, fun j u hj => ?_, by omega⟩
    cases j with
    | zero => simp at hj; subst hj; exact hc
    | succ j =>
      simp at hj
      have := hu j u hj
      rwa [show p + (o + 1) + j = p + o + (j + 1) by omega] at this

theorem oneCell_of {n : Nat} {al : Al} {v c : Value} (hr : CRel n al v c) : c.oneCell' = true := by
  unfold CRel at hr
  split at hr <;> first
    | (subst hr; rfl)
    | (obtain ⟨_, a, rfl, _⟩ := hr; rfl)
    | (obtain ⟨_, _, rfl⟩ := hr; rfl)
    | (obtain ⟨_, a, cap, rfl, _⟩ := hr; rfl)
    | (obtain ⟨_, a, cap, rfl⟩ := hr; rfl)
    | exact hr.elim

theorem oneCells_of {n : Nat} {al : Al} : ∀ {vs us : List Value}, PW (CRel n al) vs us → ∀ u ∈ us, u.oneCell' = true
  | [], [], _, u, hu => by cases hu
  | _ :: _, _ :: _, ⟨a, b⟩, u, hu => by
    cases hu with
    | head => exact oneCell_of a
    | tail _ hm => exact oneCells_of b u hm
  | [], _ :: _, h, _, _ => h.elim
  | _ :: _, [], h, _, _ => h.elim

theorem VRel.cell {n : Nat} {al : Al} {v c : Value} (h : VRel n al v c) (h1 : ∀ cs, v ≠ .agg cs) (h2 : ∀ vs, v ≠ .tuple vs) : CRel n al v c := by
  cases v <;> first | exact h | exact absurd rfl (h1 _) | exact absurd rfl (h2 _)

theorem cells_one {c : Value} (h : c.oneCell' = true) : c.cells = #[c] := by
  cases c <;> first | rfl | simp [Value.oneCell'] at h

theorem cells_not {v : Value} (h : ∀ cs, v ≠ .agg cs) : v.cells = #[v] := by
  cases v <;> first | rfl | exact absurd rfl (h _)

/-- a value's cells -/
theorem cells_rel {n : Nat} {al : Al} {v c : Value} (h : VRel n al v c) (hv : cellsOk v.cells.toList = true) : PW (CRel n al) v.cells.toList c.cells.toList := by
  by_cases h1 : ∃ cs, v = .agg cs
  · obtain ⟨cs, rfl⟩ := h1
    obtain ⟨ds, rfl, hp⟩ := h
    exact hp
  · have h1' : ∀ cs, v ≠ .agg cs := fun cs he => h1 ⟨cs, he⟩
    have h2 : ∀ vs, v ≠ .tuple vs := fun vs he => by
      subst he
      simp [cellsOk, Value.cells] at hv
    have h3 := h.cell h1' h2
    rw [cells_not h1', cells_one (oneCell_of h3)]
    exact ⟨h3, trivial⟩

end
end Go.Ai
