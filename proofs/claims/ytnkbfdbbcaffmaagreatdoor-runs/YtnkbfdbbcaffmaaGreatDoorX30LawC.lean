import Derived.Test.YtnkbfdbbcaffmaaGreatDoorX29Doc7
import Derived.Deep.RegionHeld3
import Derived.BigRegion
/-
  The book: holds. The book: take.
-/
namespace Go.Proofs.YtnkbfdbbcaffmaaGreatDoor
open Go.RowKit

/-- A list that its owner has written full. -/
def FullL (w : World) (b : Nat) (v : Value) (k : Nat) : Prop :=
  v = .slice none 0 0 ∨ ∃ g c, v = .slice (some ⟨g, 0, none⟩) c c ∧ c ≤ 9223372036854775807 ∧ b < g ∧ At w g 3 (Array.replicate c (.int .i64 (1048576 + k)))

/-- The book in block b. -/
structure Bk (w : World) (b : Nat) (lv : Value) (ls : List Value) : Prop where
  at_ : At w b 28 #[lv]
  row : w.ownsRow (b + 1) 29 1 lv ls.length ls
  full : ∀ k v, ls[k]? = some v → FullL w b v k

theorem Bk.shape {w : World} {b : Nat} {lv : Value} {ls : List Value} (h : Bk w b lv ls) : ∃ ao cap, lv = .slice ao ls.length cap := by
  rcases h.row.2 with ⟨h', h0⟩ | ⟨g, cap, cur, h', hb, _⟩
  · exact ⟨none, 0, by rw [h', h0]⟩
  · exact ⟨_, cap, h'⟩
theorem Bk.form {w : World} {b : Nat} {lv : Value} {ls : List Value} (h : Bk w b lv ls) (hne : ls ≠ []) : ∃ g cap, lv = .slice (some ⟨g, 0, none⟩) ls.length cap ∧ b < g := by
  rcases h.row.2 with ⟨_, h0⟩ | ⟨g, cap, cur, h', hb, _⟩
  · exact absurd (List.eq_nil_of_length_eq_zero h0) hne
  · exact ⟨g, cap, h', by omega⟩
theorem Bk.cell {w : World} {b g cap : Nat} {ls : List Value} (h : Bk w b (.slice (some ⟨g, 0, none⟩) ls.length cap) ls) (i : Nat) {v : Value} (hi : ls[i]? = some v) : w.cell? ⟨g, i, none⟩ = some v := by
  have hl := (List.getElem?_eq_some_iff.1 hi).1
  rw [World.ownsRow.cellAt h.row i (by omega)]; exact hi

set_option maxHeartbeats 2000000 in
theorem holds_any {w : World} {b : Nat} {lv : Value} {ls : List Value} (h : Bk w b lv ls) (hl : ls.length ≤ 17592186043904) :
    Calls Tryz.prog 14 #[.pointer (some ⟨b, 0, none⟩)] w fun e w' => e = .returned (.bool true) ∧ ∃ j, w' = w.drewN j := by
  obtain ⟨ao, cap, rfl⟩ := h.shape
  have HB := hide h
  have c0 := h.at_.cell 0
  simp at c0
  clear h
  go_enter Tryz.func14, Tryz.ntmps14
  go_wp2_with fail
  go_loopw [3] (fun i wr => ∃ k : Nat, i = .int .i64 k ∧ k ≤ ls.length ∧ ∃ j, wr = w.drewN j) (fun i _ => ls.length - (intOf i).toNat)
  case atStart => exact ⟨0, rfl, Nat.zero_le _, 0, rfl⟩
  case round =>
    obtain ⟨k, rfl, hk, j, rfl⟩ := hrel
    by_cases hlt : k < ls.length
    · obtain ⟨g, cap', he, hg⟩ := (unhide HB).form (by rintro rfl; simp at hlt)
      simp at he
      obtain ⟨rfl, rfl⟩ := he
      obtain ⟨v, hv⟩ : ∃ v, ls[k]? = some v := ⟨_, List.getElem?_eq_getElem hlt⟩
      have cv := (unhide HB).cell k hv
      have hf := (unhide HB).full k v hv
      have hlI : (k : Int) < (ls.length : Int) := by omega
      clear hv
      rcases hf with rfl | ⟨g2, c, rfl, hc, hg2, hA2⟩
      · go_wp2_with fail
        go_loop [5] (fun i => i = .int .i64 0) (fun _ => 0)
        case atStart => exact rfl
        case round =>
          subst hrel
          go_wp2_with fail
          go_roundw
          case rel => exact ⟨k + 1, by go_num, by omega, j, rfl⟩
          case measure => simp [intOf]; omega
      · go_wp2_with fail
        go_loop [5] (fun i => ∃ q : Nat, i = .int .i64 q ∧ q ≤ c) (fun i => c - (intOf i).toNat)
        case atStart => exact ⟨0, rfl, Nat.zero_le _⟩
        case round =>
          obtain ⟨q, rfl, hq⟩ := hrel
          by_cases hqc : q < c
          · have cq := hA2.cell q
            simp [hqc] at cq
            have hqI : (q : Int) < (c : Int) := by omega
            have hw : IntKind.i64.wrap (1048576 + (k : Int)) = 1048576 + (k : Int) := by rw [IntKind.wrap_i64]; omega
            go_wp2_with fail
            go_round
            case rel => exact ⟨q + 1, by go_num, by omega⟩
            case measure => simp [intOf]; omega
          · go_wp2_with fail
            go_roundw
            case rel => exact ⟨k + 1, by go_num, by omega, j, rfl⟩
            case measure => simp [intOf]; omega
    · go_wp2_with fail
      go_ret
      exact ⟨rfl, j, rfl⟩

theorem Tryz.infoInts : (Tryz.prog.info? 29).map (fun i => (i.zero, i.size, i.bytes)) = some (some (.slice none 0 0), 1, 24) := by kernel_rfl

theorem own_ne {w : World} {B e t g n : Nat} {lv : Value} {xs : List Value} {cs : Array Value} (h : w.ownsRow B e 1 lv n xs) (hA : At w g t cs) (hte : t ≠ e) : lv.ownBlock ≠ some g := by
  intro he
  rcases h.2 with ⟨h', _⟩ | ⟨g3, cap3, cur3, h3, _, h4, _⟩
  · rw [h'] at he; simp [Value.ownBlock] at he
  · rw [h3] at he
    simp [Value.ownBlock] at he
    subst he
    unfold At at hA
    rw [hA] at h4
    simp at h4
    exact hte (by first | exact h4.2 | exact h4.2.1 | exact h4.1)

theorem take_post {w wr w' : World} {b g n : Nat} {lv v' : Value} {ls : List Value} (h : Bk w b lv ls) (hg : b < g) (hn : n ≤ 9223372036854775807) (hfr : ∀ v ∈ ls, ∀ g' c c', v = .slice (some ⟨g', 0, none⟩) c c' → g' ≠ g)
    (hgr : w.grownBy wr (some g)) (hne : lv.ownBlock ≠ some g) (f : Value) (hf : f = .slice none 0 0 ∨ (f = .slice (some ⟨g, 0, none⟩) n n ∧ At wr g 3 (Array.replicate n (.int .i64 (1048576 + ls.length))))) (o : Obj)
    (h1 : w'.ownsRow (b + 1) 29 1 v' (ls.length + 1) (ls ++ [f])) (h2 : (wr.alloc o).grownBy w' lv.ownBlock) :
    At w' b 28 #[lv] ∧ Bk (w'.setCell ⟨b, 0, none⟩ v') b v' (ls ++ [f]) ∧ Below b w (w'.setCell ⟨b, 0, none⟩ v') ∧ (∀ k t cs, At w k t cs → t ≠ 29 → k ≠ b → k ≠ g → At (w'.setCell ⟨b, 0, none⟩ v') k t cs) ∧ ∃ g' cap', v' = .slice (some ⟨g', 0, none⟩) (ls.length + 1) cap' := by
  have hb := h.at_.lt
  have hown : ∀ k, lv.ownBlock = some k → b + 1 ≤ k ∧ k < w.heap.size := World.ownsRow.lt h.row
  have hA1 : At w' b 28 #[lv] := ((h.at_.grown hgr (by simp; omega)).alloc o).grown h2 (fun e => by have := hown b e.symm; omega)
  have hfrm : ∀ k t cs, At w k t cs → t ≠ 29 → k ≠ b → k ≠ g → At (w'.setCell ⟨b, 0, none⟩ v') k t cs := fun k t cs hk ht hkb hkg => by
    have hko := own_ne h.row hk ht
    exact (((hk.grown hgr (by simp; omega)).alloc o).grown h2 (fun e => hko e.symm)).other _ (by show b ≠ k; omega)
  refine ⟨hA1, ⟨?_, ?_, ?_⟩, ?_, hfrm, ?_⟩
  · have := hA1.set 0 v'; simpa using this
  · rw [List.length_append]; exact ownsRow_setCell_below h1 (Nat.lt_succ_self b) v'
  · intro k v hv
    by_cases hk : k < ls.length
    · rw [List.getElem?_append_left hk] at hv
      rcases h.full k v hv with h' | ⟨g', c, e1, e2, e3, e4⟩
      · exact .inl h'
      · exact .inr ⟨g', c, e1, e2, e3, hfrm g' 3 _ e4 (by decide) (by omega) (hfr v (List.mem_of_getElem? hv) g' c c e1)⟩
    · have hkl : k = ls.length := by
        have := (List.getElem?_eq_some_iff.1 hv).1
        simp at this; omega
      subst hkl
      simp at hv
      subst hv
      rcases hf with hf | ⟨hf, hAg⟩
      · exact .inl hf
      · exact .inr ⟨g, n, hf, hn, hg, ((hAg.alloc o).grown h2 (fun e => hne e.symm)).other _ (by show b ≠ g; omega)⟩
  · suffices hX : Below b w w' from hX.setCell (Nat.le_refl _) _
    have hbw : Below b w wr := ⟨hgr.os, hgr.tape, hgr.output, hgr.size, fun k hk => hgr.block k (by omega) (by simp; omega)⟩
    refine (hbw.alloc (by have := hgr.size; omega) o).trans ?_
    exact ⟨h2.os, h2.tape, h2.output, h2.size, fun k hk => h2.block k (by have := hgr.size; simp; omega) (fun e => by have := hown k e.symm; omega)⟩
  · rcases h1.2 with ⟨_, h3⟩ | ⟨g', cap', cur, h4, _⟩
    · omega
    · exact ⟨g', cap', h4⟩

set_option maxRecDepth 20000 in
set_option maxHeartbeats 2000000 in
theorem take_some {w : World} {b : Nat} {lv : Value} {ls : List Value} (h : Bk w b lv ls) (hl : ls.length ≤ 1466015503701) (g l n : Nat) (_hln : l ≤ n) (cs : List Value) (hA : At w g 3 cs.toArray) (hcs : cs.length = n) (hn : n ≤ 9223372036854775807) (hg : b < g) (hfr : ∀ v ∈ ls, ∀ g' c c', v = .slice (some ⟨g', 0, none⟩) c c' → g' ≠ g) :
    Calls Tryz.prog 34 #[.pointer (some ⟨b, 0, none⟩), .slice (some ⟨g, 0, none⟩) l n] w fun e w' => e = .returned (.tuple #[]) ∧ (∃ lv', Bk w' b lv' (ls ++ [.slice (some ⟨g, 0, none⟩) n n])) ∧ Below b w w' ∧ ∀ k t cs, At w k t cs → t ≠ 29 → k ≠ b → k ≠ g → At w' k t cs := by
  obtain ⟨ao, cap, rfl⟩ := h.shape
  have HB := hide h
  have c0 := h.at_.cell 0
  have cf := h.at_.frozen 0
  simp at c0
  clear h
  go_enter Tryz.func34, Tryz.ntmps34
  go_wp2_with fail
  have HA := hide hA
  clear hA
  go_loopw [5] (fun i wr => ∃ (k : Nat) (cur : List Value), i = .int .i64 k ∧ k ≤ n ∧ Hid (At wr g 3 cur.toArray) ∧ Hid (cur.length = n) ∧ Hid (∀ q, q < k → cur[q]? = some (.int .i64 (1048576 + ls.length))) ∧ Hid (w.grownBy wr (some g))) (fun i _ => n - (intOf i).toNat)
  case atStart => exact ⟨0, cs, rfl, Nat.zero_le _, HA, hcs, fun q hq => by omega, gb_refl _ _⟩
  case round =>
    obtain ⟨k, cur, rfl, hk, hAr, hlen, hfull, hgr⟩ := hrel
    have hA1 : At wr b 28 #[.slice ao ls.length cap] := (unhide HB).at_.grown (unhide hgr) (by simp; omega)
    have d0 := hA1.cell 0
    have df := hA1.frozen 0
    simp at d0
    have hw : IntKind.i64.wrap (1048576 + (ls.length : Int)) = 1048576 + (ls.length : Int) := by rw [IntKind.wrap_i64]; omega
    by_cases hlt : k < n
    · have cq := (unhide hAr).cell k
      have fq := (unhide hAr).frozen k
      have hcur : cur[k]? = some (cur[k]'(by rw [unhide hlen]; exact hlt)) := List.getElem?_eq_getElem (by rw [unhide hlen]; exact hlt)
      rw [List.getElem?_toArray, hcur] at cq
      generalize cur[k]'(by rw [unhide hlen]; exact hlt) = z at *
      have hlI : (k : Int) < (n : Int) := by omega
      clear hcur hA1
      go_wp2_with fail
      go_roundw
      case rel => exact ⟨k + 1, cur.set k (.int .i64 (1048576 + ls.length)), by go_num, by omega, (by have h := (unhide hAr).set k (.int .i64 (1048576 + ls.length)); show At _ _ _ _; simpa using h), (by show _ = _; rw [List.length_set]; exact unhide hlen), (fun q hq => by
        rw [List.getElem?_set]
        by_cases e : k = q
        · subst e; rw [if_pos rfl, if_pos (by rw [unhide hlen]; exact hlt)]
        · rw [if_neg e]; exact unhide hfull q (by omega)), gb_set (unhide hgr) _ (.inl rfl)⟩
      case measure => simp [intOf]; omega
    · have hcn : cur = List.replicate n (.int .i64 (1048576 + ls.length)) := by
        apply List.ext_getElem?
        intro q
        by_cases hq : q < n
        · rw [unhide hfull q (by omega)]; simp [hq]
        · rw [List.getElem?_eq_none (by rw [unhide hlen]; omega)]; simp [hq]
      have hAr2 : At wr g 3 (Array.replicate n (.int .i64 (1048576 + ls.length))) := by
        have h := unhide hAr
        rw [hcn] at h; simpa using h
      clear hcn
      have hne := own_ne (unhide HB).row (unhide HA) (by decide)
      have hrow : wr.ownsRow (b + 1) 29 1 (.slice ao ls.length cap) ls.length ls := World.ownsRow.kept (unhide HB).row (unhide hgr) (.inr hne)
      have hbl : b < wr.heap.size := hA1.lt
      have hHP := fun v' w' => take_post (v' := v') (w' := w') (unhide HB) hg hn hfr (unhide hgr) hne (.slice (some ⟨g, 0, none⟩) n n) (.inr ⟨rfl, hAr2⟩) (.cells #[.slice (some ⟨g, 0, none⟩) n n] 29)
      have HP := hide hHP
      clear hHP hAr2
      obtain ⟨i0, hi0, hz0, hz1, hz2⟩ := info_parts Tryz.infoInts
      go_wp2_with (at_builtin; refine wpList_append_own _ rfl (.tmp 29) (.tmp 31) 26 rfl (b + 1) 29 i0 (.slice none 0 0) 1 24 Tryz.underlying26 hi0 hz0 hz1 hz2 rfl (by decide) (.slice ao ls.length cap) ls.length ls rfl ?_ ⟨wr.heap.size, 0, none⟩ 1 1 [.slice (some ⟨g, 0, none⟩) n n] rfl rfl ?_ ?_ ?_ ?_ ?_ ?_)
      · exact World.ownsRow.alloc hrow _
      · exact cell_one_new _ _ _
      · simp [Value.oneCell']
      · unfold maxLen; omega
      · omega
      · simp; omega
      · intro v' w' h1 h2 _
        obtain ⟨hA', hB', hbel, hfrm, g', cap', rfl⟩ := unhide HP _ _ h1 h2
        have d0' := hA'.cell 0
        have df' := hA'.frozen 0
        simp at d0'
        go_wp2_with fail
        go_end0
        exact ⟨rfl, ⟨_, hB'⟩, hbel, hfrm⟩

set_option maxRecDepth 20000 in
set_option maxHeartbeats 2000000 in
theorem take_nil {w : World} {b : Nat} {lv : Value} {ls : List Value} (h : Bk w b lv ls) (hl : ls.length ≤ 1466015503701) :
    Calls Tryz.prog 34 #[.pointer (some ⟨b, 0, none⟩), .slice none 0 0] w fun e w' => e = .returned (.tuple #[]) ∧ (∃ lv', Bk w' b lv' (ls ++ [.slice none 0 0])) ∧ Below b w w' ∧ ∀ k t cs, At w k t cs → t ≠ 29 → k ≠ b → At w' k t cs := by
  obtain ⟨ao, cap, rfl⟩ := h.shape
  have HB := hide h
  have c0 := h.at_.cell 0
  have cf := h.at_.frozen 0
  have hrow := h.row
  have hbl : b < w.heap.size := h.at_.lt
  simp at c0
  have hfr : ∀ v ∈ ls, ∀ g' c c', v = .slice (some ⟨g', 0, none⟩) c c' → g' ≠ w.heap.size := by
    intro v hv g' c c' e
    obtain ⟨k, hk⟩ := List.mem_iff_getElem?.1 hv
    rcases h.full k v hk with h' | ⟨g2, c2, e1, _, _, e4⟩
    · rw [h'] at e; cases e
    · rw [e] at e1
      simp at e1
      have := e4.lt
      omega
  have hne : (Value.slice ao ls.length cap).ownBlock ≠ some w.heap.size := fun e => by have := World.ownsRow.lt h.row _ e; omega
  have hHP := fun v' w' => take_post (g := w.heap.size) (n := 0) (v' := v') (w' := w') h hbl (by omega) hfr (gb_refl w _) hne (.slice none 0 0) (.inl rfl) (.cells #[.slice none 0 0] 29)
  have HP := hide hHP
  clear hHP h hfr hne
  obtain ⟨i0, hi0, hz0, hz1, hz2⟩ := info_parts Tryz.infoInts
  go_enter Tryz.func34, Tryz.ntmps34
  go_wp2_with fail
  go_loop [5] (fun i => i = .int .i64 0) (fun _ => 0)
  case atStart => exact rfl
  case round =>
    subst hrel
    go_wp2_with (at_builtin; refine wpList_append_own _ rfl (.tmp 29) (.tmp 31) 26 rfl (b + 1) 29 i0 (.slice none 0 0) 1 24 Tryz.underlying26 hi0 hz0 hz1 hz2 rfl (by decide) (.slice ao ls.length cap) ls.length ls rfl ?_ ⟨w.heap.size, 0, none⟩ 1 1 [.slice none 0 0] rfl rfl ?_ ?_ ?_ ?_ ?_ ?_)
    all_goals first | exact World.ownsRow.alloc hrow _ | exact cell_one_new _ _ _ | (simp [Value.oneCell']; done) | (unfold maxLen; omega) | omega | (simp; omega) | skip
    · intro v' w' h1 h2 _
      obtain ⟨hA', hB', hbel, hfrm, g', cap', rfl⟩ := unhide HP _ _ h1 h2
      have d0' := hA'.cell 0
      have df' := hA'.frozen 0
      simp at d0'
      go_wp2_with fail
      go_end0
      exact ⟨rfl, ⟨_, hB'⟩, hbel, fun k t cs hk ht hkb => hfrm k t cs hk ht hkb (by have := hk.lt; omega)⟩
end Go.Proofs.YtnkbfdbbcaffmaaGreatDoor
/-
  runs.
-/
namespace Go.Proofs.YtnkbfdbbcaffmaaGreatDoor
open Go.RowKit

theorem Bk.below {w w' : World} {b : Nat} {lv : Value} {ls : List Value} (h : Bk w b lv ls) (hB : Below w.heap.size w w') : Bk w' b lv ls := by
  refine ⟨h.at_.below hB h.at_.lt, World.ownsRow.kept h.row (below_gb hB) (by
    cases h' : lv.ownBlock with
    | none => exact .inl rfl
    | some k => exact .inr (by simp)), fun k v hv => ?_⟩
  rcases h.full k v hv with h' | ⟨g, c, e1, e2, e3, e4⟩
  · exact .inl h'
  · exact .inr ⟨g, c, e1, e2, e3, e4.below hB e4.lt⟩
theorem StV.lies {w : World} {B : Nat} {st : Value} {σ : List Int} (h : StV w B st σ) : ∃ ao cap, st = .slice ao σ.length cap ∧ LiesO w ao σ := by
  rcases h with ⟨rfl, rfl⟩ | ⟨gs, rfl, hA, _⟩
  · exact ⟨_, _, rfl, .inl rfl⟩
  · refine ⟨_, _, rfl, .inr ⟨gs, 0, rfl, fun j v hv => ?_, hA.lt⟩⟩
    rw [Addr.add_lit, Nat.zero_add, hA.cell j]
    obtain ⟨hj, hv'⟩ := List.getElem?_eq_some_iff.1 hv
    simp [intsV, hj, hv']
theorem StR.lies {w : World} {B : Nat} {st : Value} {σ : List Int} (h : StR w B st σ) : ∃ ao cap, st = .slice ao σ.length cap ∧ LiesO w ao σ := by
  obtain ⟨b, hb, hT⟩ := h
  obtain ⟨so, cap, rfl⟩ := hT.shape
  refine ⟨so, cap, rfl, ?_⟩
  by_cases hz : σ = []
  · exact .inl hz
  · obtain ⟨g, cap', he, hg⟩ := hT.form hz
    simp at he
    obtain ⟨rfl, rfl⟩ := he
    refine .inr ⟨g, 0, rfl, fun j v hv => ?_, (World.ownsRow.lt hT g rfl).2⟩
    obtain ⟨hj, hv'⟩ := List.getElem?_eq_some_iff.1 hv
    rw [Addr.add_lit, Nat.zero_add, hT.cell j hj]
    simp [List.getD, hj, hv']

theorem rfs_in {V : Int} {k : Nat} {view : Int} {zs : List Int} {fuel : Int} (h : rfs V k view zs fuel = 0) : inB V k zs = true := by
  unfold rfs at h
  by_cases c1 : view < 0 ∨ 8 < view
  · rw [if_pos c1] at h; cases h
  · rw [if_neg c1] at h
    cases c2 : inB V k zs with
    | false => rw [c2, if_pos rfl] at h; cases h
    | true => rfl
theorem pRun_len (s : ByteArray) (view : Int) (zs : List Int) (fuel : Int) : (pRun s view zs fuel).2.σ.length ≤ 100 := by
  unfold pRun
  split
  · exact Nat.zero_le _
  · split
    · exact Nat.zero_le _
    · rename_i h
      dsimp only
      rw [runP_len]
      have := (inB_fits (rfs_in (Classical.not_not.1 h))).1
      have h1 := hdr_vars s
      have h2 := hdr_words s
      omega

set_option maxRecDepth 20000 in
set_option maxHeartbeats 4000000 in
theorem runs_any {w : World} {b : Nat} {lv : Value} {ls : List Value} (h : Bk w b lv ls) (hl : ls.length ≤ 1466015503701) (n m p : Int) (S : ByteArray) (hS : S.size ≤ maxLen) (ao : Option Addr) (cin : Nat) (zs : List Int) (hz : zs.length ≤ 17592186043904) (hL : LiesB w b ao zs) (a2 : Option Addr) (l2 c2 : Nat) :
    Calls Tryz.prog 20 #[.pointer (some ⟨b, 0, none⟩), .agg #[.int .i64 2, .int .i64 n, .int .i64 m, .int .i64 p, .string S, .slice ao zs.length cin, .slice a2 l2 c2]] w fun e w' => e = .returned (.bool true) ∧ (∃ lv' f, Bk w' b lv' (ls ++ [f])) ∧ Below b w w' := by
  have hlen := pRun_len S n zs m
  generalize hP : pRun S n zs m = P at *
  obtain ⟨e0, tag, steps, sn, σ⟩ := P
  dsimp only at hlen
  have HP := hide hP
  have HB := hide h
  have HL := hide hL
  have hbl := h.at_.lt
  clear hP h hL
  go_enter Tryz.func20, Tryz.ntmps20
  go_wp2_with fail
  have hB0 := (Below.refl w.heap.size w).alloc (Nat.le_refl _) (.cells #[.int .i64 2, .int .i64 n, .int .i64 m, .int .i64 p, .string S, .slice ao zs.length cin, .slice a2 l2 c2] 31)
  have hA0 := At.new w 31 #[.int .i64 2, .int .i64 n, .int .i64 m, .int .i64 p, .string S, .slice ao zs.length cin, .slice a2 l2 c2]
  have hL0 := (unhide HL).below hB0 (Nat.le_of_lt hbl)
  have hs0 : (w.alloc (.cells #[.int .i64 2, .int .i64 n, .int .i64 m, .int .i64 p, .string S, .slice ao zs.length cin, .slice a2 l2 c2] 31)).heap.size = w.heap.size + 1 := by simp
  refine (lent_any ao cin zs hz _ (hL0.toO (by omega))).mono ?_
  rintro e w1 ⟨gi, rfl, hI1, hgi, hB1⟩
  rw [hs0] at hgi
  have hA1 := hA0.below hB1 (by simp)
  have hL1 := hL0.below hB1 (by omega)
  have hBB1 := hB0.trans (hB1.mono (by simp))
  have d0 := hA1.cell 0
  have d1 := hA1.cell 1
  have d2 := hA1.cell 2
  have d4 := hA1.cell 4
  have d5 := hA1.cell 5
  simp at d0 d1 d2 d4 d5
  have hgl := hI1.lt
  have HR1 := hide (leakRun_any S hS n m gi 0 (zs.length + 2) zs (by omega) w1 (by
    rcases lent_lies hI1 with hn | ⟨ab, off, e, hLL, _⟩
    · rw [hn]; intro j v hv; simp at hv
    · simp at e; obtain ⟨rfl, rfl⟩ := e; exact hLL) hgl)
  clear hA0 hL0 hB0 hB1
  rw [unhide HP] at HR1
  dsimp only at HR1
  go_wp2_with fail
  refine (unhide HR1).mono ?_
  rintro e w2 ⟨st, rfl, hSt, hB2⟩
  obtain ⟨so, scap, rfl, hSL⟩ := hSt.lies
  have hA2 := hA1.below hB2 hA1.lt
  have hL2 := hL1.below hB2 (by have := hA1.lt; omega)
  have hI2 := hI1.below hB2 hgl
  have hBB2 := hBB1.trans (hB2.mono (by have := hA1.lt; omega))
  have hq2 : w.heap.size < w2.heap.size := hA2.lt
  generalize hstr : strOfNums sn = str at *
  have Hstr := hide hstr
  clear hstr
  clear d0 d1 d2 d4 d5
  have d0 := hA2.cell 0
  have d1 := hA2.cell 1
  have d2 := hA2.cell 2
  have d4 := hA2.cell 4
  have d5 := hA2.cell 5
  simp at d0 d1 d2 d4 d5
  go_wp2_with fail
  have hB2' : Below w2.heap.size w2 (w2.alloc (.cells #[.int .i64 tag, .int .i64 steps, .string str, .slice so σ.length scap] 52)) := (Below.refl _ _).alloc (Nat.le_refl _) _
  have hs2 : (w2.alloc (.cells #[.int .i64 tag, .int .i64 steps, .string str, .slice so σ.length scap] 52)).heap.size = w2.heap.size + 1 := by simp
  have hRa := At.new w2 52 #[.int .i64 tag, .int .i64 steps, .string str, .slice so σ.length scap]
  have HR2 := hide (refRun_any S hS n m ao cin zs (by omega) _ ((hL2.below hB2' (by omega)).toO (by rw [hs2]; omega)))
  rw [unhide HP] at HR2
  dsimp only at HR2
  rw [unhide Hstr] at HR2
  refine (unhide HR2).mono ?_
  rintro e w3 ⟨st2, rfl, hSt2, hB3⟩
  obtain ⟨so2, scap2, rfl, hSL2⟩ := hSt2.lies
  have hB3' : Below w2.heap.size w2 w3 := hB2'.trans (hB3.mono (by rw [hs2]; omega))
  have hRa3 := hRa.below hB3 (by rw [hs2]; omega)
  have hA3 := hA2.below hB3' hq2
  have hI3 := hI2.below hB3' hI2.lt
  have hL3 := hL2.below hB3' (by omega)
  have hBB3 := hBB2.trans (hB3'.mono (by omega))
  have hq3 : w2.heap.size < w3.heap.size := hRa3.lt
  have hSL3 : LiesO w3 so σ := hSL.grown (below_gb hB3')
  have r0 := hRa3.cell 0
  have r1 := hRa3.cell 1
  have r2 := hRa3.cell 2
  have r3 := hRa3.cell 3
  clear d0 d1 d2 d4 d5
  have d0 := hA3.cell 0
  have d5 := hA3.cell 5
  simp at d0 d5 r0 r1 r2 r3
  clear hB2' hB3 hRa hSt2
  go_wp2_with fail
  have hB3a : Below w3.heap.size w3 (w3.alloc (.cells #[.int .i64 tag, .int .i64 steps, .string str, .slice so2 σ.length scap2] 55)) := (Below.refl _ _).alloc (Nat.le_refl _) _
  refine (sameResult_any tag steps str so so2 scap scap2 σ (by omega) _ (hSL3.grown (below_gb hB3a)) (hSL2.grown (below_gb hB3a))).mono ?_
  rintro e w4 ⟨rfl, hB4⟩
  have hB4' : Below w3.heap.size w3 w4 := hB3a.trans (hB4.mono (by simp))
  have hRa4 := hRa3.below hB4' hRa3.lt
  have hA4 := hA3.below hB4' hA3.lt
  have hI4 := hI3.below hB4' hI3.lt
  have hL4 := hL3.below hB4' (by omega)
  have hBB4 := hBB3.trans (hB4'.mono (by omega))
  have hBk4 := (unhide HB).below hBB4
  have hq4 : w2.heap.size < w4.heap.size := hRa4.lt
  have hB24 : Below w2.heap.size w2 w4 := hB3'.trans (hB4'.mono (by omega))
  clear r0 r1 r2 r3 d0 d5
  have r3 := hRa4.cell 3
  simp at r3
  have hfin : ∀ w5, Below b w4 w5 → (∀ k t cs, At w4 k t cs → t ≠ 29 → k ≠ b → (t = 3 → k < w1.heap.size) → At w5 k t cs) → At w5 gi 3 (lentV zs) ∧ LiesB w5 b ao zs ∧ Below b w w5 ∧ At w5 w.heap.size 31 #[.int .i64 2, .int .i64 n, .int .i64 m, .int .i64 p, .string S, .slice ao zs.length cin, .slice a2 l2 c2] := by
    intro w5 hB5 hfr5
    exact ⟨hfr5 gi 3 _ hI4 (by decide) (by omega) (fun _ => hgl), hL4.below hB5 (Nat.le_refl _), (hBB4.mono (by omega)).trans hB5, hfr5 _ _ _ hA4 (by decide) (by omega) (fun e => by cases e)⟩
  have Hfin := hide hfin
  clear hB3a hB4 hfin
  rcases hSt with ⟨rfl, hst⟩ | ⟨gs, hst, hAs, hgs⟩
  · simp at hst
    obtain ⟨rfl, rfl⟩ := hst
    go_wp2_with fail
    refine (take_nil hBk4 hl).mono ?_
    rintro e w5 ⟨rfl, ⟨lv5, hBk5⟩, hB5, hfr5⟩
    obtain ⟨hI5, hL5, hBB5, hA5⟩ := unhide Hfin w5 hB5 (fun k t cs h1 h2 h3 _ => hfr5 k t cs h1 h2 h3)
    have hbl5 := hBk5.at_.lt
    have d5 := hA5.cell 5
    simp at d5
    go_wp2_with fail
    refine (whole_any gi ao cin zs hz w5 hI5 (hL5.toO (by omega))).mono ?_
    rintro e w6 ⟨rfl, hB6⟩
    go_wp2_with fail
    refine (num_any _ _).mono ?_
    rintro e w7 ⟨rfl, rfl⟩
    go_wp2_with fail
    go_ret
    exact ⟨rfl, ⟨_, _, hBk5.below hB6⟩, hBB5.trans (hB6.mono (by omega))⟩
  · simp at hst
    obtain ⟨rfl, rfl⟩ := hst
    have hAs4 := hAs.below hB24 hAs.lt
    have hgl4 : gs ≠ gi := by omega
    go_wp2_with fail
    refine (take_some hBk4 hl gs σ.length σ.length (Nat.le_refl _) (σ.map fun c => Value.int .i64 c) (by simpa [intsV] using hAs4) (by simp) (by omega) (by omega) (by
      intro v hv g' c c' e
      obtain ⟨k, hk⟩ := List.mem_iff_getElem?.1 hv
      rcases (unhide HB).full k v hk with h' | ⟨g2, c2, e1, _, _, e4⟩
      · rw [h'] at e; cases e
      · rw [e] at e1
        simp at e1
        have := e4.lt
        omega)).mono ?_
    rintro e w5 ⟨rfl, ⟨lv5, hBk5⟩, hB5, hfr5⟩
    obtain ⟨hI5, hL5, hBB5, hA5⟩ := unhide Hfin w5 hB5 (fun k t cs h1 h2 h3 h4 => hfr5 k t cs h1 h2 h3 (by
      intro e
      subst e
      have h5 := hAs4
      unfold At at h5 h1
      rw [h1] at h5
      simp at h5
      have := h4 (by first | exact h5.2 | exact h5.2.1 | exact h5.1)
      omega))
    have hbl5 := hBk5.at_.lt
    have d5 := hA5.cell 5
    simp at d5
    go_wp2_with fail
    refine (whole_any gi ao cin zs hz w5 hI5 (hL5.toO (by omega))).mono ?_
    rintro e w6 ⟨rfl, hB6⟩
    go_wp2_with fail
    refine (num_any _ _).mono ?_
    rintro e w7 ⟨rfl, rfl⟩
    go_wp2_with fail
    go_ret
    exact ⟨rfl, ⟨_, _, hBk5.below hB6⟩, hBB5.trans (hB6.mono (by omega))⟩
end Go.Proofs.YtnkbfdbbcaffmaaGreatDoor
