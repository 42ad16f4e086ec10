/-
  The book: holds. The book: take.
-/
import Derived.Test.YtfolokhilkffcaaGreatLawA
import Derived.Deep.RegionHeld3
import Derived.BigRegion
namespace Go.Proofs.YtfolokhilkffcaaGreat
open Go.RowKit

/-- A list that its owner has written full. -/
def FullL (w : World) (b : Nat) (v : Value) (k : Nat) : Prop :=
  v = .slice none 0 0 ∨ ∃ g c, v = .slice (some ⟨g, 0, none⟩) c c ∧ c ≤ 100 ∧ b < g ∧ At w g 3 (Array.replicate c (.int .i64 (1048576 + k)))

/-- The book in block b. -/
structure Bk (w : World) (b : Nat) (lv : Value) (ls : List Value) : Prop where
  at_ : At w b 28 #[lv]
  row : w.ownsRow (b + 1) 29 1 lv ls.length ls
  full : ∀ k v, ls[k]? = some v → FullL w b v k

theorem Bk.shape {w : World} {b : Nat} {lv : Value} {ls : List Value} (h : Bk w b lv ls) : ∃ ao cap, lv = .slice ao ls.length cap := by
  rcases h.row.2 with ⟨h', h0⟩ | ⟨g, cap, cur, h', hb, _⟩
  · exact ⟨none, 0, by rw [h', h0]⟩
  · exact ⟨_, cap, h'⟩
theorem Bk.form {w : World} {b : Nat} {lv : Value} {ls : List Value} (h : Bk w b lv ls) (hne : ls ≠ []) : ∃ g cap, lv = .slice (some ⟨g, 0, none⟩) ls.length cap ∧ b < g := by
  rcases h.row.2 with ⟨_, h0⟩ | ⟨g, cap, cur, h', hb, _⟩
  · exact absurd (List.eq_nil_of_length_eq_zero h0) hne
  · exact ⟨g, cap, h', by omega⟩
theorem Bk.cell {w : World} {b g cap : Nat} {ls : List Value} (h : Bk w b (.slice (some ⟨g, 0, none⟩) ls.length cap) ls) (i : Nat) {v : Value} (hi : ls[i]? = some v) : w.cell? ⟨g, i, none⟩ = some v := by
  have hl := (List.getElem?_eq_some_iff.1 hi).1
  rw [World.ownsRow.cellAt h.row i (by omega)]; exact hi

set_option maxHeartbeats 2000000 in
theorem holds_any {w : World} {b : Nat} {lv : Value} {ls : List Value} (h : Bk w b lv ls) (hl : ls.length ≤ 17592186043904) :
    Calls Tryz.prog 7 #[.pointer (some ⟨b, 0, none⟩)] w fun e w' => e = .returned (.bool true) ∧ ∃ j, w' = w.drewN j := by
  obtain ⟨ao, cap, rfl⟩ := h.shape
  have HB := hide h
  have c0 := h.at_.cell 0
  simp at c0
  clear h
  go_enter Tryz.func7, Tryz.ntmps7
  go_wp2_with fail
  go_loopw [3] (fun i wr => ∃ k : Nat, i = .int .i64 k ∧ k ≤ ls.length ∧ ∃ j, wr = w.drewN j) (fun i _ => ls.length - (intOf i).toNat)
  case atStart => exact ⟨0, rfl, Nat.zero_le _, 0, rfl⟩
  case round =>
    obtain ⟨k, rfl, hk, j, rfl⟩ := hrel
    by_cases hlt : k < ls.length
    · obtain ⟨g, cap', he, hg⟩ := (unhide HB).form (by rintro rfl; simp at hlt)
      simp at he
      obtain ⟨rfl, rfl⟩ := he
      obtain ⟨v, hv⟩ : ∃ v, ls[k]? = some v := ⟨_, List.getElem?_eq_getElem hlt⟩
      have cv := (unhide HB).cell k hv
      have hf := (unhide HB).full k v hv
      have hlI : (k : Int) < (ls.length : Int) := by omega
      clear hv
      rcases hf with rfl | ⟨g2, c, rfl, hc, hg2, hA2⟩
      · go_wp2_with fail
        go_loop [5] (fun i => i = .int .i64 0) (fun _ => 0)
        case atStart => exact rfl
        case round =>
          subst hrel
          go_wp2_with fail
          go_roundw
          case rel => exact ⟨k + 1, by go_num, by omega, j, rfl⟩
          case measure => simp [intOf]; omega
      · go_wp2_with fail
        go_loop [5] (fun i => ∃ q : Nat, i = .int .i64 q ∧ q ≤ c) (fun i => c - (intOf i).toNat)
        case atStart => exact ⟨0, rfl, Nat.zero_le _⟩
        case round =>
          obtain ⟨q, rfl, hq⟩ := hrel
          by_cases hqc : q < c
          · have cq := hA2.cell q
            simp [hqc] at cq
            have hqI : (q : Int) < (c : Int) := by omega
            have hw : IntKind.i64.wrap (1048576 + (k : Int)) = 1048576 + (k : Int) := by rw [IntKind.wrap_i64]; omega
            go_wp2_with fail
            go_round
            case rel => exact ⟨q + 1, by go_num, by omega⟩
            case measure => simp [intOf]; omega
          · go_wp2_with fail
            go_roundw
            case rel => exact ⟨k + 1, by go_num, by omega, j, rfl⟩
            case measure => simp [intOf]; omega
    · go_wp2_with fail
      go_ret
      exact ⟨rfl, j, rfl⟩

theorem Tryz.infoInts : (Tryz.prog.info? 29).map (fun i => (i.zero, i.size, i.bytes)) = some (some (.slice none 0 0), 1, 24) := by kernel_rfl

theorem own_ne {w : World} {B e t g n : Nat} {lv : Value} {xs : List Value} {cs : Array Value} (h : w.ownsRow B e 1 lv n xs) (hA : At w g t cs) (hte : t ≠ e) : lv.ownBlock ≠ some g := by
  intro he
  rcases h.2 with ⟨h', _⟩ | ⟨g3, cap3, cur3, h3, _, h4, _⟩
  · rw [h'] at he; simp [Value.ownBlock] at he
  · rw [h3] at he
    simp [Value.ownBlock] at he
    subst he
    unfold At at hA
    rw [hA] at h4
    simp at h4
    exact hte (by first | exact h4.2 | exact h4.2.1 | exact h4.1)

theorem take_post {w wr w' : World} {b g n : Nat} {lv v' : Value} {ls : List Value} (h : Bk w b lv ls) (hg : b < g) (hn : n ≤ 100) (hfr : ∀ v ∈ ls, ∀ g' c c', v = .slice (some ⟨g', 0, none⟩) c c' → g' ≠ g)
    (hgr : w.grownBy wr (some g)) (hne : lv.ownBlock ≠ some g) (f : Value) (hf : f = .slice none 0 0 ∨ (f = .slice (some ⟨g, 0, none⟩) n n ∧ At wr g 3 (Array.replicate n (.int .i64 (1048576 + ls.length))))) (o : Obj)
    (h1 : w'.ownsRow (b + 1) 29 1 v' (ls.length + 1) (ls ++ [f])) (h2 : (wr.alloc o).grownBy w' lv.ownBlock) :
    At w' b 28 #[lv] ∧ Bk (w'.setCell ⟨b, 0, none⟩ v') b v' (ls ++ [f]) ∧ Below b w (w'.setCell ⟨b, 0, none⟩ v') ∧ (∀ k t cs, At w k t cs → t ≠ 29 → k ≠ b → k ≠ g → At (w'.setCell ⟨b, 0, none⟩ v') k t cs) ∧ ∃ g' cap', v' = .slice (some ⟨g', 0, none⟩) (ls.length + 1) cap' := by
  have hb := h.at_.lt
  have hown : ∀ k, lv.ownBlock = some k → b + 1 ≤ k ∧ k < w.heap.size := World.ownsRow.lt h.row
  have hA1 : At w' b 28 #[lv] := ((h.at_.grown hgr (by simp; omega)).alloc o).grown h2 (fun e => by have := hown b e.symm; omega)
  have hfrm : ∀ k t cs, At w k t cs → t ≠ 29 → k ≠ b → k ≠ g → At (w'.setCell ⟨b, 0, none⟩ v') k t cs := fun k t cs hk ht hkb hkg => by
    have hko := own_ne h.row hk ht
    exact (((hk.grown hgr (by simp; omega)).alloc o).grown h2 (fun e => hko e.symm)).other _ (by show b ≠ k; omega)
  refine ⟨hA1, ⟨?_, ?_, ?_⟩, ?_, hfrm, ?_⟩
  · have := hA1.set 0 v'; simpa using this
  · rw [List.length_append]; exact ownsRow_setCell_below h1 (Nat.lt_succ_self b) v'
  · intro k v hv
    by_cases hk : k < ls.length
    · rw [List.getElem?_append_left hk] at hv
      rcases h.full k v hv with h' | ⟨g', c, e1, e2, e3, e4⟩
      · exact .inl h'
      · exact .inr ⟨g', c, e1, e2, e3, hfrm g' 3 _ e4 (by decide) (by omega) (hfr v (List.mem_of_getElem? hv) g' c c e1)⟩
    · have hkl : k = ls.length := by
        have := (List.getElem?_eq_some_iff.1 hv).1
        simp at this; omega
      subst hkl
      simp at hv
      subst hv
      rcases hf with hf | ⟨hf, hAg⟩
      · exact .inl hf
      · exact .inr ⟨g, n, hf, hn, hg, ((hAg.alloc o).grown h2 (fun e => hne e.symm)).other _ (by show b ≠ g; omega)⟩
  · suffices hX : Below b w w' from hX.setCell (Nat.le_refl _) _
    have hbw : Below b w wr := ⟨hgr.os, hgr.tape, hgr.output, hgr.size, fun k hk => hgr.block k (by omega) (by simp; omega)⟩
    refine (hbw.alloc (by have := hgr.size; omega) o).trans ?_
    exact ⟨h2.os, h2.tape, h2.output, h2.size, fun k hk => h2.block k (by have := hgr.size; simp; omega) (fun e => by have := hown k e.symm; omega)⟩
  · rcases h1.2 with ⟨_, h3⟩ | ⟨g', cap', cur, h4, _⟩
    · omega
    · exact ⟨g', cap', h4⟩

set_option maxRecDepth 20000 in
set_option maxHeartbeats 2000000 in
theorem take_some {w : World} {b : Nat} {lv : Value} {ls : List Value} (h : Bk w b lv ls) (hl : ls.length ≤ 1466015503701) (g n : Nat) (cs : List Value) (hA : At w g 3 cs.toArray) (hcs : cs.length = n) (hn : n ≤ 100) (hg : b < g) (hfr : ∀ v ∈ ls, ∀ g' c c', v = .slice (some ⟨g', 0, none⟩) c c' → g' ≠ g) :
    Calls Tryz.prog 26 #[.pointer (some ⟨b, 0, none⟩), .slice (some ⟨g, 0, none⟩) n n] w fun e w' => e = .returned (.tuple #[]) ∧ (∃ lv', Bk w' b lv' (ls ++ [.slice (some ⟨g, 0, none⟩) n n])) ∧ Below b w w' ∧ ∀ k t cs, At w k t cs → t ≠ 29 → k ≠ b → k ≠ g → At w' k t cs := by
  obtain ⟨ao, cap, rfl⟩ := h.shape
  have HB := hide h
  have c0 := h.at_.cell 0
  have cf := h.at_.frozen 0
  simp at c0
  clear h
  go_enter Tryz.func26, Tryz.ntmps26
  go_wp2_with fail
  have HA := hide hA
  clear hA
  go_loopw [5] (fun i wr => ∃ (k : Nat) (cur : List Value), i = .int .i64 k ∧ k ≤ n ∧ Hid (At wr g 3 cur.toArray) ∧ Hid (cur.length = n) ∧ Hid (∀ q, q < k → cur[q]? = some (.int .i64 (1048576 + ls.length))) ∧ Hid (w.grownBy wr (some g))) (fun i _ => n - (intOf i).toNat)
  case atStart => exact ⟨0, cs, rfl, Nat.zero_le _, HA, hcs, fun q hq => by omega, gb_refl _ _⟩
  case round =>
    obtain ⟨k, cur, rfl, hk, hAr, hlen, hfull, hgr⟩ := hrel
    have hA1 : At wr b 28 #[.slice ao ls.length cap] := (unhide HB).at_.grown (unhide hgr) (by simp; omega)
    have d0 := hA1.cell 0
    have df := hA1.frozen 0
    simp at d0
    have hw : IntKind.i64.wrap (1048576 + (ls.length : Int)) = 1048576 + (ls.length : Int) := by rw [IntKind.wrap_i64]; omega
    by_cases hlt : k < n
    · have cq := (unhide hAr).cell k
      have fq := (unhide hAr).frozen k
      have hcur : cur[k]? = some (cur[k]'(by rw [unhide hlen]; exact hlt)) := List.getElem?_eq_getElem (by rw [unhide hlen]; exact hlt)
      rw [List.getElem?_toArray, hcur] at cq
      generalize cur[k]'(by rw [unhide hlen]; exact hlt) = z at *
      have hlI : (k : Int) < (n : Int) := by omega
      clear hcur hA1
      go_wp2_with fail
      go_roundw
      case rel => exact ⟨k + 1, cur.set k (.int .i64 (1048576 + ls.length)), by go_num, by omega, (by have h := (unhide hAr).set k (.int .i64 (1048576 + ls.length)); show At _ _ _ _; simpa using h), (by show _ = _; rw [List.length_set]; exact unhide hlen), (fun q hq => by
        rw [List.getElem?_set]
        by_cases e : k = q
        · subst e; rw [if_pos rfl, if_pos (by rw [unhide hlen]; exact hlt)]
        · rw [if_neg e]; exact unhide hfull q (by omega)), gb_set (unhide hgr) _ (.inl rfl)⟩
      case measure => simp [intOf]; omega
    · have hcn : cur = List.replicate n (.int .i64 (1048576 + ls.length)) := by
        apply List.ext_getElem?
        intro q
        by_cases hq : q < n
        · rw [unhide hfull q (by omega)]; simp [hq]
        · rw [List.getElem?_eq_none (by rw [unhide hlen]; omega)]; simp [hq]
      have hAr2 : At wr g 3 (Array.replicate n (.int .i64 (1048576 + ls.length))) := by
        have h := unhide hAr
        rw [hcn] at h; simpa using h
      clear hcn
      have hne := own_ne (unhide HB).row (unhide HA) (by decide)
      have hrow : wr.ownsRow (b + 1) 29 1 (.slice ao ls.length cap) ls.length ls := World.ownsRow.kept (unhide HB).row (unhide hgr) (.inr hne)
      have hbl : b < wr.heap.size := hA1.lt
      have hHP := fun v' w' => take_post (v' := v') (w' := w') (unhide HB) hg hn hfr (unhide hgr) hne (.slice (some ⟨g, 0, none⟩) n n) (.inr ⟨rfl, hAr2⟩) (.cells #[.slice (some ⟨g, 0, none⟩) n n] 29)
      have HP := hide hHP
      clear hHP hAr2
      obtain ⟨i0, hi0, hz0, hz1, hz2⟩ := info_parts Tryz.infoInts
      go_wp2_with (at_builtin; refine wpList_append_own _ rfl (.tmp 29) (.tmp 31) 26 rfl (b + 1) 29 i0 (.slice none 0 0) 1 24 Tryz.underlying26 hi0 hz0 hz1 hz2 rfl (by decide) (.slice ao ls.length cap) ls.length ls rfl ?_ ⟨wr.heap.size, 0, none⟩ 1 1 [.slice (some ⟨g, 0, none⟩) n n] rfl rfl ?_ ?_ ?_ ?_ ?_ ?_)
      · exact World.ownsRow.alloc hrow _
      · exact cell_one_new _ _ _
      · simp [Value.oneCell']
      · unfold maxLen; omega
      · omega
      · simp; omega
      · intro v' w' h1 h2 _
        obtain ⟨hA', hB', hbel, hfrm, g', cap', rfl⟩ := unhide HP _ _ h1 h2
        have d0' := hA'.cell 0
        have df' := hA'.frozen 0
        simp at d0'
        go_wp2_with fail
        go_end0
        exact ⟨rfl, ⟨_, hB'⟩, hbel, hfrm⟩

set_option maxRecDepth 20000 in
set_option maxHeartbeats 2000000 in
theorem take_nil {w : World} {b : Nat} {lv : Value} {ls : List Value} (h : Bk w b lv ls) (hl : ls.length ≤ 1466015503701) :
    Calls Tryz.prog 26 #[.pointer (some ⟨b, 0, none⟩), .slice none 0 0] w fun e w' => e = .returned (.tuple #[]) ∧ (∃ lv', Bk w' b lv' (ls ++ [.slice none 0 0])) ∧ Below b w w' ∧ ∀ k t cs, At w k t cs → t ≠ 29 → k ≠ b → At w' k t cs := by
  obtain ⟨ao, cap, rfl⟩ := h.shape
  have HB := hide h
  have c0 := h.at_.cell 0
  have cf := h.at_.frozen 0
  have hrow := h.row
  have hbl : b < w.heap.size := h.at_.lt
  simp at c0
  have hfr : ∀ v ∈ ls, ∀ g' c c', v = .slice (some ⟨g', 0, none⟩) c c' → g' ≠ w.heap.size := by
    intro v hv g' c c' e
    obtain ⟨k, hk⟩ := List.mem_iff_getElem?.1 hv
    rcases h.full k v hk with h' | ⟨g2, c2, e1, _, _, e4⟩
    · rw [h'] at e; cases e
    · rw [e] at e1
      simp at e1
      have := e4.lt
      omega
  have hne : (Value.slice ao ls.length cap).ownBlock ≠ some w.heap.size := fun e => by have := World.ownsRow.lt h.row _ e; omega
  have hHP := fun v' w' => take_post (g := w.heap.size) (n := 0) (v' := v') (w' := w') h hbl (by omega) hfr (gb_refl w _) hne (.slice none 0 0) (.inl rfl) (.cells #[.slice none 0 0] 29)
  have HP := hide hHP
  clear hHP h hfr hne
  obtain ⟨i0, hi0, hz0, hz1, hz2⟩ := info_parts Tryz.infoInts
  go_enter Tryz.func26, Tryz.ntmps26
  go_wp2_with fail
  go_loop [5] (fun i => i = .int .i64 0) (fun _ => 0)
  case atStart => exact rfl
  case round =>
    subst hrel
    go_wp2_with (at_builtin; refine wpList_append_own _ rfl (.tmp 29) (.tmp 31) 26 rfl (b + 1) 29 i0 (.slice none 0 0) 1 24 Tryz.underlying26 hi0 hz0 hz1 hz2 rfl (by decide) (.slice ao ls.length cap) ls.length ls rfl ?_ ⟨w.heap.size, 0, none⟩ 1 1 [.slice none 0 0] rfl rfl ?_ ?_ ?_ ?_ ?_ ?_)
    all_goals first | exact World.ownsRow.alloc hrow _ | exact cell_one_new _ _ _ | (simp [Value.oneCell']; done) | (unfold maxLen; omega) | omega | (simp; omega) | skip
    · intro v' w' h1 h2 _
      obtain ⟨hA', hB', hbel, hfrm, g', cap', rfl⟩ := unhide HP _ _ h1 h2
      have d0' := hA'.cell 0
      have df' := hA'.frozen 0
      simp at d0'
      go_wp2_with fail
      go_end0
      exact ⟨rfl, ⟨_, hB'⟩, hbel, fun k t cs hk ht hkb => hfrm k t cs hk ht hkb (by have := hk.lt; omega)⟩
end Go.Proofs.YtfolokhilkffcaaGreat
