/-
  Operations that change memory: a variable laid, a store, make, a literal.
-/
import Derived.Test.YtbbglffodmigiaaGreatDoorAiF
import Derived.Deep.AppendSrc
import Derived.Laws.MakeOwn
import Derived.Deep.DeepAppendWide
import Derived.Great.BuildSlice
namespace Go.Ai
open Go.RowKit

section
variable {P : Program} {W0 w : World} {al : Al} {h : Hp}

/-- what holds behind an operation that yields v (in the model c) and leaves memory h' -/
def After (W0 : World) (n : Nat) (al : Al) (v : Value) (h' : Hp) (c : Value) (w' : World) : Prop := ∃ al', Next n al al' ∧ n ≤ h'.nx ∧ HRel W0 al' h' w' ∧ VRel h'.nx al' v c

theorem newBlk_some {b : Blk} {h' : Hp} (hn : newBlk h b = some h') : h.nx ≤ top ∧ h' = ⟨T.set dep h.m h.nx (some b), h.nx + 1⟩ := by
  unfold newBlk at hn
  split at hn
  · rename_i ht; simp at hn; exact ⟨ht, hn.symm⟩
  · cases hn

theorem heap_alloc_self (w : World) (o : Obj) : (w.alloc o).heap[w.heap.size]? = some o := by
  show (w.heap.push o)[w.heap.size]? = _
  simp

/-- a block laid anew -/
theorem HRel.lays (H : HRel W0 al h w) {b : Blk} {h' : Hp} (hn : newBlk h b = some h') (cs : Array Value) (e : TypeId) (hsz : b.size ≤ cs.size) (hat : ∀ o v, b.at o = some v → ∃ c, cs[o]? = some c ∧ CRel h.nx al v c) :
    HRel W0 (al.give h.nx ⟨w.heap.size, 0, cs.size⟩) h' (w.alloc (.cells cs e (0, 0))) ∧ h'.nx = h.nx + 1 := by
  obtain ⟨ht, rfl⟩ := newBlk_some hn
  refine ⟨?_, rfl⟩
  exact (H.alloc (.cells cs e (0, 0))).own ht w.heap.size 0 b cs e H.bel.size (fun id g hg => Nat.ne_of_lt (H.lt hg)) (heap_alloc_self _ _) (by omega) (by simpa using hat)

theorem at_emp {n : Nat} {z : List Value} {o : Nat} {v : Value} (h : Blk.at ⟨n, z, T.emp⟩ o = some v) : o < n ∧ z[o % z.length]? = some v := by
  unfold Blk.at at h
  simp only [T.get_emp] at h
  split at h
  · rename_i hlt; exact ⟨hlt, h⟩
  · cases h

theorem box_sound (H : HRel W0 al h w) {x c v : Value} {h' : Hp} (hx : PW (CRel h.nx al) x.cells.toList c.cells.toList) (e : TypeId) (hv : boxV h x = some (v, h')) :
    After W0 h.nx al v h' (.pointer (some ⟨w.heap.size, 0, none⟩)) (w.alloc (.cells c.cells e (0, 0))) := by
  unfold boxV at hv
  split at hv
  · simp only [Option.bind_eq_some_iff] at hv
    obtain ⟨h1, hn, hv⟩ := hv
    simp at hv
    obtain ⟨rfl, rfl⟩ := hv
    have hl := hx.length
    simp only [Array.length_toList] at hl
    obtain ⟨HH, hnx⟩ := H.lays hn c.cells e (by simp only; omega) (fun o v ho => by
      obtain ⟨hlt, hz⟩ := at_emp ho
      simp only [Array.length_toList] at hz
      rw [Nat.mod_eq_of_lt hlt] at hz
      obtain ⟨u, hu, hr⟩ := hx.get hz
      exact ⟨u, by simpa using hu, hr⟩)
    refine ⟨_, Next.give _ _ _, by omega, HH, ?_⟩
    exact ⟨by omega, _, rfl, fun g hg => by
      simp [Al.give] at hg
      subst hg
      rfl⟩
  · cases hv

theorem store_sound (H : HRel W0 al h w) {t : TypeId} {p cp x c : Value} {h' : Hp} (hp : VRel h.nx al p cp) (hx : VRel h.nx al x c) (hv : storeV P h t p x = some h') :
    ∃ w', (Instr.storeAt t cp c).run P w = .ok () w' ∧ HRel W0 al h' w' ∧ h'.nx = h.nx := by
  unfold storeV at hv
  split at hv
  · rename_i id o
    simp only [Option.bind_eq_some_iff] at hv
    obtain ⟨b, hb, i, hi, hv⟩ := hv
    split at hv
    · rename_i hc
      obtain ⟨h1, h2, h3, h4⟩ := hc
      simp at hv
      subst hv
      obtain ⟨g, cs, e, hg, hcs, hsz, hle, hid, hW, hat⟩ := H.cell hb
      obtain ⟨_, a, rfl, ha⟩ := hp
      obtain rfl := ha g hg
      have hpw := cells_rel hx h4
      have hl := hpw.length
      simp only [Array.length_toList] at hl
      have hst := run_storeCells_at P g.b (g.base + o) e c.cells.toList 0 cs w hcs (by simp; omega) (oneCells_of hpw)
      refine ⟨_, ?_, H.write hg hb hcs (by simp; omega) (by simp; omega) hpw, rfl⟩
      simp only [Nat.add_zero] at hst
      have hcz : c.cells.size = i.size := by omega
      simp [Instr.storeAt, Instr.sureAddr, storeVar, sizeOf, typeInfo, hi, hcz, hst]
    · cases hv
  · cases hv

theorem zeros_get {z : List Value} {n o : Nat} {v : Value} (hlt : o < n) (hz : z[o % z.length]? = some v) : (((Array.range n).map fun i => z.toArray[i % z.toArray.size]!) : Array Value)[o]? = some v := by
  simp [hlt]
  rw [hz]
  rfl

theorem zeros_get' {z : Array Value} {n o : Nat} {v : Value} (hlt : o < n) (hz : z.toList[o % z.toList.length]? = some v) : (((Array.range n).map fun i => z[i % z.size]!) : Array Value)[o]? = some v := by
  cases z
  exact zeros_get hlt hz

theorem make_sound (H : HRel W0 al h w) {t : TypeId} {l cl cp ccp v : Value} {h' : Hp} (hl : VRel h.nx al l cl) (hc : VRel h.nx al cp ccp) (hv : makeV P h t l cp = some (v, h')) :
    ∃ c w', (Instr.makeSlice t cl ccp).run P w = .ok c w' ∧ After W0 h.nx al v h' c w' := by
  unfold makeV at hv
  split at hv
  · rename_i e k l k' c hu
    simp only [Option.bind_eq_some_iff] at hv
    obtain ⟨i, hi, z, hz, hv⟩ := hv
    split at hv
    · rename_i hcnd
      obtain ⟨h1, h2, h3, h4, h5, h6, h7⟩ := hcnd
      simp only [Option.bind_eq_some_iff] at hv
      obtain ⟨h1', hn, hv⟩ := hv
      simp at hv
      obtain ⟨rfl, rfl⟩ := hv
      obtain rfl : cl = .int k (.ofNat l) := hl
      obtain rfl : ccp = .int k' (.ofNat c) := hc
      obtain ⟨HH, hnx⟩ := H.lays hn (madeCells z.cells (c * i.size)) e (by simp [size_madeCells]) (fun o v ho => by
        obtain ⟨hlt, hzz⟩ := at_emp ho
        refine ⟨v, zeros_get' hlt hzz, ?_⟩
        exact CRel.plain (List.all_eq_true.1 h7 v (List.mem_of_getElem? hzz)))
      unfold top at h2 h3 h4
      have hb : (i.bytes : Int) * (c : Int) ≤ 281474976710656 := by
        have : ((i.bytes * c : Nat) : Int) ≤ 1073741824 := by omega
        rw [Int.natCast_mul] at this
        omega
      have hr := run_make (P := P) w t e i z hu hi hz k k' (l : Int) (c : Int) (by omega) (by omega) hb (by omega)
      simp only [Int.toNat_natCast] at hr
      refine ⟨_, _, hr, _, Next.give _ _ _, by omega, HH, ?_⟩
      refine ⟨by omega, _, c, rfl, h1, fun g hg => ?_⟩
      simp [Al.give] at hg
      subst hg
      exact ⟨rfl, by simp [size_madeCells]⟩
    · cases hv
  · cases hv
end
end Go.Ai
