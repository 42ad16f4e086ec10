/-
  append and copy.
-/
import Derived.Test.YtbbglffodmigiaaGreatDoorAiH
import Derived.Deep.Upon
namespace Go.Ai
open Go.RowKit

section
variable {P : Program} {W0 w : World} {al : Al} {h : Hp}

theorem src_none {n : Nat} {xt e : TypeId} {xa : Option Addr} {xc es : Nat} {c : Value} (hu : P.underlying xt = some (.slice e)) (hx : VRel n al (.slice xa 0 xc) c) (w : World) : Src P es xt c 0 [] w := by
  obtain ⟨a', cap, rfl, _⟩ := slice_len hx
  cases a' with
  | none => exact Src.ofNil w hu cap
  | some a => exact Src.ofSlice w hu a 0 cap [] (by simp) (by simp) (by simp)

theorem grown_ge (w : World) (need old : Nat) (e : TypeId) : need ≤ grownCap w need old e := by
  unfold grownCap Question.cut
  simp

theorem size_zeroCells (z : Array Value) (n : Nat) : (Builtin.zeroCells z n).size = n * z.size := by
  simp [Builtin.zeroCells]

/-- a new row -/
theorem grow_sound (H : HRel W0 al h w) {e : TypeId} {z : Value} {es len n cap : Nat} {olds us new : List Value} {b : Blk} {h' : Hp} (hz : z.cells.size = es)
    (hol : olds.length = len * es) (hul : us.length = n * es) (hpw : PW (CRel h.nx al) new us) (hbs : b.size = (len + n) * es) (hn : newBlk h b = some h')
    (hat : ∀ j v, b.at j = some v → (j < len * es ∧ ∃ c, olds[j]? = some c ∧ CRel h.nx al v c) ∨ (len * es ≤ j ∧ new[j - len * es]? = some v)) :
    After W0 h.nx al (.slice (some ⟨h.nx, 0, none⟩) (len + n) es) h' (.slice (some ⟨w.heap.size, 0, none⟩) (len + n) (grownCap w (len + n) cap e))
      (w.drew.alloc (.cells ((olds ++ us).toArray ++ Builtin.zeroCells z.cells (grownCap w (len + n) cap e - (len + n))) e)) := by
  have hge := grown_ge w (len + n) cap e
  have hm : (len + n) * es = len * es + n * es := Nat.add_mul _ _ _
  have hrow : ((olds ++ us).toArray ++ Builtin.zeroCells z.cells (grownCap w (len + n) cap e - (len + n))).size = grownCap w (len + n) cap e * es := by
    rw [Array.size_append, size_zeroCells, hz]
    simp only [List.size_toArray, List.length_append]
    rw [hol, hul, ← hm, ← Nat.add_mul]
    congr 1
    omega
  have HD : HRel W0 al h w.drew := H.drew
  obtain ⟨HH, hnx⟩ := HD.lays hn ((olds ++ us).toArray ++ Builtin.zeroCells z.cells (grownCap w (len + n) cap e - (len + n))) e
    (by rw [hrow, hbs]; exact Nat.mul_le_mul_right es hge) (fun j v hj => by
      have hlt : j < b.size := by unfold Blk.at at hj; split at hj; · assumption
                                  · cases hj
      rw [Array.getElem?_append_left (by simp; omega)]
      simp only [List.getElem?_toArray]
      rcases hat j v hj with ⟨h1, c, hc, hr⟩ | ⟨h1, hnew⟩
      · exact ⟨c, by rw [List.getElem?_append_left (by omega)]; exact hc, hr⟩
      · obtain ⟨c, hc, hr⟩ := hpw.get hnew
        exact ⟨c, by rw [List.getElem?_append_right (by omega), hol]; exact hc, hr⟩)
  refine ⟨_, Next.give _ _ _, by omega, HH, ?_⟩
  refine ⟨by omega, _, _, rfl, hge, fun g hg => ?_⟩
  simp only [Al.give, if_true, Option.some.injEq] at hg
  subst hg
  exact ⟨rfl, by simp only [Nat.zero_add]; omega⟩

theorem append_sound (H : HRel W0 al h w) {st xt ty : TypeId} {s cs_ x cx v : Value} {h' : Hp} (hs : VRel h.nx al s cs_) (hx : VRel h.nx al x cx) (hv : appendV P h st xt s x = some (v, h')) :
    ∃ c w', (Builtin.append_ #[st, xt] ty #[cs_, cx]).run P w = .ok c w' ∧ After W0 h.nx al v h' c w' := by
  unfold appendV at hv
  split at hv
  · rename_i e e' sa len sc xa n xc hu hux
    simp only [Option.bind_eq_some_iff] at hv
    obtain ⟨i, hi, z, hz, hv⟩ := hv
    split at hv
    · rename_i hn0
      subst hn0
      simp at hv
      obtain ⟨rfl, rfl⟩ := hv
      obtain ⟨a', cap, rfl, hle⟩ := slice_len hs
      exact ⟨_, _, run_append_nothing w st xt ty e i hu hi a' len cap hle cx (src_none hux hx w), al, Next.refl _ _, Nat.le_refl _, H, hs⟩
    · rename_i hn0
      simp only [Option.bind_eq_some_iff] at hv
      obtain ⟨new, hnew, hv⟩ := hv
      obtain ⟨xad, xl, xcap, us, hcx, hpw, hul, hus⟩ := first_sound H hx hnew
      obtain ⟨_, _, hcx2, _⟩ := slice_len hx
      obtain rfl : xl = n := by rw [hcx] at hcx2; simp at hcx2; exact hcx2.2.1
      subst hcx
      have hsrc : Src P i.size xt (.slice (some xad) xl xcap) xl us w := Src.ofSlice w hux xad xl xcap us hul hus (oneCells_of hpw)
      have hnl : new.length = xl * i.size := by rw [hpw.length]; exact hul
      split at hv
      · rename_i hcnd
        obtain ⟨c1, c2, c3, c4⟩ := hcnd
        have hsm : len + xl ≤ top := Nat.le_trans (Nat.le_mul_of_pos_right _ c2) c4
        have hfit : ∀ cap, cap < len + xl → Builtin.nextslicecap (len + xl) cap * i.bytes ≤ 281474976710656 := fun cap hc => by
          have h1 := nextslicecap_le_wide hc
          have h2 : Builtin.nextslicecap (len + xl) cap * i.bytes ≤ (len + xl + (len + xl) / 4 + 192) * 1000 := Nat.mul_le_mul h1 c3
          unfold top at hsm
          omega
        have h63 : ((len + xl : Nat) : Int) ≤ 9223372036854775807 := by unfold top at hsm; omega
        split at hv
        · split at hv
          · rename_i hz0
            obtain ⟨rfl, rfl⟩ := hz0
            simp only [Option.bind_eq_some_iff] at hv
            obtain ⟨h1', hnb, hv⟩ := hv
            simp at hv
            obtain ⟨rfl, rfl⟩ := hv
            obtain ⟨_, _, rfl⟩ := hs
            simp only [Nat.zero_add] at hfit h63 hsm c4
            have hr := run_append_grow_src w st xt ty e i z hu hi hz none 0 0 [] (by simpa using run_firstCells_none w.drew i.size 0 0 0) (.slice (some xad) xl xcap) xl us hsrc (by omega) (by simpa using h63) (by simpa using hfit 0 (by omega))
            have hA := grow_sound (e := e) (cap := 0) (len := 0) (olds := []) H c1 (by simp) hul hpw (by simp) hnb (fun j v hj => by
              refine .inr ⟨by omega, ?_⟩
              have hlt : j < xl * i.size := by unfold Blk.at at hj; split at hj; · assumption
                                               · cases hj
              unfold Blk.at at hj
              simp only at hj
              rw [if_pos hlt, get_lay _ _ _ _ (by rw [hnl]; omega), if_pos (by omega), Nat.sub_zero, List.getElem?_eq_getElem (by omega)] at hj
              rw [Nat.zero_mul, Nat.sub_zero, List.getElem?_eq_getElem (by omega)]
              exact hj)
            simp only [Nat.zero_add] at hr hA
            exact ⟨_, _, hr, hA⟩
          · cases hv
        · rename_i id o
          simp only [Option.bind_eq_some_iff] at hv
          obtain ⟨b, hb, hv⟩ := hv
          split at hv
          · rename_i hq
            obtain ⟨rfl, hbs⟩ := hq
            obtain ⟨g, cs, ce, hg, hcs, hsz, hle, hid, hW, hat⟩ := H.cell hb
            obtain ⟨_, a, cap, rfl, hcap, ha⟩ := hs
            obtain ⟨rfl, hcc⟩ := ha g hg
            -- the block that comes of it, in one form
            have key : ∃ b' : Blk, newBlk ⟨T.set dep h.m id none, h.nx⟩ b' = some h' ∧ b'.size = (len + xl) * i.size ∧ v = .slice (some ⟨h.nx, 0, none⟩) (len + xl) i.size ∧
                ∀ j u, b'.at j = some u → (j < len * i.size ∧ b.at (o + j) = some u) ∨ (len * i.size ≤ j ∧ new[j - len * i.size]? = some u) := by
              split at hv
              · rename_i ho
                simp only [Option.bind_eq_some_iff] at hv
                obtain ⟨h1', hnb, hv⟩ := hv
                simp at hv
                obtain ⟨rfl, rfl⟩ := hv
                exact ⟨_, hnb, rfl, rfl, fun j u hj => at_append hnl hbs c4 (.inl ⟨ho, rfl, rfl⟩) hj⟩
              · simp only [Option.bind_eq_some_iff] at hv
                obtain ⟨old, hold, h1', hnb, hv⟩ := hv
                simp at hv
                obtain ⟨rfl, rfl⟩ := hv
                exact ⟨_, hnb, rfl, rfl, fun j u hj => at_append hnl hbs c4 (.inr ⟨old, hold, rfl⟩) hj⟩
            obtain ⟨b', hnb, hbz, rfl, hat'⟩ := key
            have HK := H.kill id
            have hm : (len + xl) * i.size = len * i.size + xl * i.size := Nat.add_mul _ _ _
            have hpwK : PW (CRel h.nx (al.kill id)) new us := hpw.mono fun _ _ => CRel.next (Nat.le_refl _) (Next.kill _ _ _)
            by_cases hroom : len + xl ≤ cap
            · -- in place
              have hmm : (len + xl) * i.size ≤ cap * i.size := Nat.mul_le_mul_right _ hroom
              have hst := run_storeCells_at P g.b (g.base + o + len * i.size) ce us 0 cs w hcs (by simp only [Nat.add_zero]; omega) (oneCells_of hpw)
              simp only [Nat.add_zero] at hst
              have hr : (Builtin.append_ #[st, xt] ty #[.slice (some ⟨g.b, g.base + o, none⟩) len cap, .slice (some xad) xl xcap]).run P w = .ok (.slice (some ⟨g.b, g.base + o, none⟩) (len + xl) cap)
                  (w.setRow g.b (cs.toList.take (g.base + o + len * i.size) ++ us ++ cs.toList.drop (g.base + o + len * i.size + us.length)).toArray) := by
                simp [Builtin.append_, run_underlying hu, run_underlying hux, sizeOf, typeInfo, hi, hsrc.len, hroom, hsrc.cells, Addr.add_mid, hst]
              obtain ⟨hnx, rfl⟩ := newBlk_some hnb
              have HW := HK.world (w' := w.setRow g.b (cs.toList.take (g.base + o + len * i.size) ++ us ++ cs.toList.drop (g.base + o + len * i.size + us.length)).toArray) (below_setRow H.bel hW _) (fun j g' hg' => by
                unfold Al.kill at hg'
                split at hg'
                · cases hg'
                · rename_i hj
                  exact setRow_other _ _ _ _ fun he => hj (H.inj _ _ _ _ hg' hg he))
              have hsz' : (cs.toList.take (g.base + o + len * i.size) ++ us ++ cs.toList.drop (g.base + o + len * i.size + us.length)).toArray.size = cs.size := by simp; omega
              have HO := HW.own hnx g.b (g.base + o) b' _ ce hW (fun j g' hg' he => by
                  unfold Al.kill at hg'
                  split at hg'
                  · cases hg'
                  · rename_i hj
                    exact hj (H.inj _ _ _ _ hg' hg he)) (setRow_heap _ _ _ _ _ _ hcs) (by rw [hsz']; omega) (fun j u hj => by
                  rcases hat' j u hj with ⟨k1, k2⟩ | ⟨k1, k2⟩
                  · obtain ⟨c, hc, hr⟩ := hat _ _ k2
                    refine ⟨c, ?_, hr.next (Nat.le_refl _) (Next.kill _ _ _)⟩
                    simp only [List.getElem?_toArray]
                    rw [List.append_assoc, List.getElem?_append_left (by simp; omega), List.getElem?_take_of_lt (by omega)]
                    rw [← hc, Nat.add_assoc]
                    simp
                  · obtain ⟨c, hc, hr⟩ := hpwK.get k2
                    have hlt : j - len * i.size < us.length := (List.getElem?_eq_some_iff.1 hc).1
                    refine ⟨c, ?_, hr⟩
                    simp only [List.getElem?_toArray]
                    rw [List.append_assoc, List.getElem?_append_right (by simp; omega), List.getElem?_append_left (by simp; omega), ← hc]
                    congr 1
                    simp
                    omega)
              refine ⟨_, _, hr, _, (Next.kill h.nx al id).trans (Nat.le_refl _) (Next.give _ _ _), Nat.le_succ _, HO, ?_⟩
              refine ⟨Nat.lt_succ_self _, _, cap, rfl, hroom, fun g' hg' => ?_⟩
              simp only [Al.give, if_true, Option.some.injEq] at hg'
              subst hg'
              exact ⟨rfl, by simp only [Nat.add_zero]; rw [hsz']; omega⟩
            · -- a new row
              have hol : ((cs.toList.drop (g.base + o)).take (len * i.size)).length = len * i.size := by
                have hcm : len * i.size ≤ cap * i.size := Nat.mul_le_mul_right _ hcap
                simp
                omega
              have hold : (Builtin.firstCells i.size len (.slice (some ⟨g.b, g.base + o, none⟩) len cap)).run P w.drew = .ok ((cs.toList.drop (g.base + o)).take (len * i.size)).toArray w.drew := by
                refine run_firstCells_some w.drew i.size len _ len cap _ hol (fun j u hj => ?_)
                have hjl : j < len * i.size := by have := (List.getElem?_eq_some_iff.1 hj).1; omega
                rw [List.getElem?_take_of_lt hjl, List.getElem?_drop] at hj
                rw [Addr.add_mid, cell_of (w := w.drew) (show w.drew.heap[g.b]? = _ from hcs)]
                simpa using hj
              have hr := run_append_grow_src w st xt ty e i z hu hi hz (some ⟨g.b, g.base + o, none⟩) len cap _ hold (.slice (some xad) xl xcap) xl us hsrc (by omega) h63 (hfit cap (by omega))
              have hA := grow_sound (e := e) (cap := cap) (olds := (cs.toList.drop (g.base + o)).take (len * i.size)) HK c1 hol hul hpwK hbz hnb (fun j u hj => by
                rcases hat' j u hj with ⟨k1, k2⟩ | ⟨k1, k2⟩
                · obtain ⟨c, hc, hr⟩ := hat _ _ k2
                  refine .inl ⟨k1, c, ?_, hr.next (Nat.le_refl _) (Next.kill _ _ _)⟩
                  rw [List.getElem?_take_of_lt k1, List.getElem?_drop, Nat.add_assoc]
                  simpa using hc
                · exact .inr ⟨k1, k2⟩)
              obtain ⟨al', n1, n2, n3, n4⟩ := hA
              exact ⟨_, _, hr, al', (Next.kill h.nx al id).trans (Nat.le_refl _) n1, n2, n3, n4⟩
          · cases hv
        · cases hv
      · cases hv
  · cases hv

end
end Go.Ai
