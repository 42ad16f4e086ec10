import Derived.Test.YtnkbfdbbcaffmaaGreatDoorX42ExF
/-
  Path.
-/
namespace Go.Proofs.YtnkbfdbbcaffmaaGreatDoor
open Go.RowKit

theorem pPath_len (s : ByteArray) (zs : List Int) (fuel : Int) : (pPath s zs fuel).2.length ≤ 10000 := by
  obtain ⟨_, h2, h3⟩ := pPath_run s zs fuel
  by_cases h : ((codP s).run 0 zs fuel).1 = 0
  · rw [h3 h]
    unfold Pg.run at h
    by_cases h1 : (codP s).e = 0
    · rw [if_neg (fun k => k h1)] at h
      by_cases h2 : rfs (codP s).V ((codP s).n + (codP s).m) 0 zs fuel = 0
      · obtain ⟨_, _, hf⟩ := rfs_ok h2
        have hl : ∀ g i σ steps, (pathP (codP s).V 0 (codP s).n (codP s).m fuel.toNat (codP s).cs g i σ steps).length ≤ fuel.toNat - steps := by
          intro g
          induction g with
          | zero => exact fun i σ steps => by simp [pathP]
          | succ g ih =>
            intro i σ steps
            rw [pathP]
            split
            · simp
            · split
              · simp
              · split
                · simp; omega
                · have := ih (act (codP s).V 0 (codP s).n (codP s).m σ (by assumption)).2.2.2 (act (codP s).V 0 (codP s).n (codP s).m σ (by assumption)).1 (steps + 1)
                  simp only [List.length_cons]
                  omega
        have := hl (fuel.toNat + 1) 0 zs 0
        omega
      · rw [if_pos h2] at h; exact absurd h h2
    · rw [if_pos h1] at h; exact absurd h h1
  · rw [h2 h]; simp

theorem PtV.lies {w : World} {B : Nat} {st : Value} {σ : List Int} (h : PtV w B st σ) : ∃ ao cap, st = .slice ao σ.length cap ∧ LiesO w ao σ := by
  obtain ⟨b, hb, hT⟩ := h
  exact StR.lies ⟨b, hb, hT⟩

/-- A row that came out, to be taken: none, or a block of its own. -/
theorem PtV.row {w : World} {B : Nat} {st : Value} {σ : List Int} (h : PtV w B st σ) : st = .slice none 0 0 ∨ ∃ g cap cs, st = .slice (some ⟨g, 0, none⟩) σ.length cap ∧ B ≤ g ∧ At w g 3 (cs : List Value).toArray ∧ cs.length = cap ∧ σ.length ≤ cap ∧ cap ≤ 9223372036854775807 := by
  obtain ⟨b, hb, hT⟩ := h
  rcases hT.2 with ⟨h', _⟩ | ⟨g, cap, cur, e1, e2, e3, e4, e5, e6, _⟩
  · exact .inl h'
  · unfold maxLen at e5
    exact .inr ⟨g, cap, cur.toList, e1, by omega, e3, by simpa using e6, e4, by omega⟩

set_option maxRecDepth 20000 in
set_option maxHeartbeats 4000000 in
theorem path_any {w : World} {b : Nat} {lv : Value} {ls : List Value} (h : Bk w b lv ls) (hl : ls.length ≤ 1466015503701) (n m p : Int) (S : ByteArray) (hS : S.size ≤ maxLen) (ao : Option Addr) (cin : Nat) (zs : List Int) (hz : zs.length ≤ 17592186043904) (hL : LiesB w b ao zs) (a2 : Option Addr) (l2 c2 : Nat) :
    Calls Tryz.prog 21 #[.pointer (some ⟨b, 0, none⟩), .agg #[.int .i64 5, .int .i64 n, .int .i64 m, .int .i64 p, .string S, .slice ao zs.length cin, .slice a2 l2 c2]] w fun e w' => e = .returned (.bool true) ∧ (∃ lv' f, Bk w' b lv' (ls ++ [f])) ∧ Below b w w' := by
  have hlen := pPath_len S zs m
  generalize hP : pPath S zs m = P at *
  obtain ⟨e0, σ⟩ := P
  dsimp only at hlen
  have HP := hide hP
  have HB := hide h
  have HL := hide hL
  have hbl := h.at_.lt
  clear hP h hL
  go_enter Tryz.func21, Tryz.ntmps21
  go_wp2_with fail
  have hB0 := (Below.refl w.heap.size w).alloc (Nat.le_refl _) (.cells #[.int .i64 5, .int .i64 n, .int .i64 m, .int .i64 p, .string S, .slice ao zs.length cin, .slice a2 l2 c2] 31)
  have hA0 := At.new w 31 #[.int .i64 5, .int .i64 n, .int .i64 m, .int .i64 p, .string S, .slice ao zs.length cin, .slice a2 l2 c2]
  have hL0 := (unhide HL).below hB0 (Nat.le_of_lt hbl)
  have hs0 : (w.alloc (.cells #[.int .i64 5, .int .i64 n, .int .i64 m, .int .i64 p, .string S, .slice ao zs.length cin, .slice a2 l2 c2] 31)).heap.size = w.heap.size + 1 := by simp
  refine (lent_any ao cin zs hz _ (hL0.toO (by omega))).mono ?_
  rintro e w1 ⟨gi, rfl, hI1, hgi, hB1⟩
  rw [hs0] at hgi
  have hA1 := hA0.below hB1 (by simp)
  have hL1 := hL0.below hB1 (by omega)
  have hBB1 := hB0.trans (hB1.mono (by simp))
  have d0 := hA1.cell 0
  have d2 := hA1.cell 2
  have d4 := hA1.cell 4
  have d5 := hA1.cell 5
  simp at d0 d2 d4 d5
  have hgl := hI1.lt
  have HR1 := hide (leakPath_any S hS m gi 0 (zs.length + 2) zs (by omega) w1 (by
    rcases lent_lies hI1 with hn | ⟨ab, off, e, hLL, _⟩
    · rw [hn]; intro j v hv; simp at hv
    · simp at e; obtain ⟨rfl, rfl⟩ := e; exact hLL) hgl)
  clear hA0 hL0 hB0 hB1
  rw [unhide HP] at HR1
  dsimp only at HR1
  go_wp2_with fail
  refine (unhide HR1).mono ?_
  rintro e w2 ⟨st, rfl, hSt, hB2⟩
  obtain ⟨so, scap, rfl, hSL⟩ := hSt.lies
  have hA2 := hA1.below hB2 hA1.lt
  have hL2 := hL1.below hB2 (by have := hA1.lt; omega)
  have hI2 := hI1.below hB2 hgl
  have hBB2 := hBB1.trans (hB2.mono (by have := hA1.lt; omega))
  have hq2 : w.heap.size < w2.heap.size := hA2.lt
  clear d0 d2 d4 d5
  have d0 := hA2.cell 0
  have d2 := hA2.cell 2
  have d4 := hA2.cell 4
  have d5 := hA2.cell 5
  simp at d0 d2 d4 d5
  go_wp2_with fail
  have HR2 := hide (refPath_any S hS m ao cin zs (by omega) _ (hL2.toO (by omega)))
  rw [unhide HP] at HR2
  dsimp only at HR2
  refine (unhide HR2).mono ?_
  rintro e w3 ⟨st2, rfl, hSt2, hB3⟩
  obtain ⟨so2, scap2, rfl, hSL2⟩ := hSt2.lies
  have hA3 := hA2.below hB3 hq2
  have hI3 := hI2.below hB3 hI2.lt
  have hL3 := hL2.below hB3 (by omega)
  have hBB3 := hBB2.trans (hB3.mono (by omega))
  have hSL3 : LiesO w3 so σ := hSL.grown (below_gb hB3)
  have hq3 : w2.heap.size ≤ w3.heap.size := hB3.size
  clear d0 d2 d4 d5
  have d5 := hA3.cell 5
  simp at d5
  clear hSt2
  go_wp2_with fail
  refine (sameInts_any so so2 scap scap2 σ (by omega) w3 hSL3 hSL2).mono ?_
  rintro e w4 ⟨rfl, j4, rfl⟩
  have hB4' : Below w3.heap.size w3 (w3.drewN j4) := below_drewN (Below.refl _ _) j4
  have hA4 := hA3.below hB4' hA3.lt
  have hI4 := hI3.below hB4' hI3.lt
  have hL4 := hL3.below hB4' (by omega)
  have hBB4 := hBB3.trans (hB4'.mono (by omega))
  have hBk4 := (unhide HB).below hBB4
  have hB24 : Below w2.heap.size w2 (w3.drewN j4) := hB3.trans (hB4'.mono (by omega))
  generalize w3.drewN j4 = w4 at *
  clear d5
  have hfin : ∀ w5, Below b w4 w5 → (∀ k t cs, At w4 k t cs → t ≠ 29 → k ≠ b → (t = 3 → k < w1.heap.size) → At w5 k t cs) → At w5 gi 3 (lentV zs) ∧ LiesB w5 b ao zs ∧ Below b w w5 ∧ At w5 w.heap.size 31 #[.int .i64 5, .int .i64 n, .int .i64 m, .int .i64 p, .string S, .slice ao zs.length cin, .slice a2 l2 c2] := by
    intro w5 hB5 hfr5
    exact ⟨hfr5 gi 3 _ hI4 (by decide) (by omega) (fun _ => hgl), hL4.below hB5 (Nat.le_refl _), (hBB4.mono (by omega)).trans hB5, hfr5 _ _ _ hA4 (by decide) (by omega) (fun e => by cases e)⟩
  have Hfin := hide hfin
  clear hfin
  rcases hSt.row with hst | ⟨gs, cap, cs, hst, hgs, hAs, hcl, hlc, hcm⟩
  · simp at hst
    obtain ⟨rfl, h0, rfl⟩ := hst
    rw [h0]
    go_wp2_with fail
    refine (take_nil hBk4 hl).mono ?_
    rintro e w5 ⟨rfl, ⟨lv5, hBk5⟩, hB5, hfr5⟩
    obtain ⟨hI5, hL5, hBB5, hA5⟩ := unhide Hfin w5 hB5 (fun k t cs h1 h2 h3 _ => hfr5 k t cs h1 h2 h3)
    have hbl5 := hBk5.at_.lt
    have d5 := hA5.cell 5
    simp at d5
    go_wp2_with fail
    refine (whole_any gi ao cin zs hz w5 hI5 (hL5.toO (by omega))).mono ?_
    rintro e w6 ⟨rfl, hB6⟩
    go_wp2_with fail
    refine (num_any _ _).mono ?_
    rintro e w7 ⟨rfl, rfl⟩
    go_wp2_with fail
    go_ret
    exact ⟨rfl, ⟨_, _, hBk5.below hB6⟩, hBB5.trans (hB6.mono (by omega))⟩
  · simp at hst
    obtain ⟨rfl, rfl⟩ := hst
    have hAs4 := hAs.below hB24 hAs.lt
    have hgl4 : gs ≠ gi := by omega
    go_wp2_with fail
    refine (take_some hBk4 hl gs σ.length scap hlc cs hAs4 hcl hcm (by omega) (by
      intro v hv g' c c' e
      obtain ⟨k, hk⟩ := List.mem_iff_getElem?.1 hv
      rcases (unhide HB).full k v hk with h' | ⟨g2, c2, e1, _, _, e4⟩
      · rw [h'] at e; cases e
      · rw [e] at e1
        simp at e1
        have := e4.lt
        omega)).mono ?_
    rintro e w5 ⟨rfl, ⟨lv5, hBk5⟩, hB5, hfr5⟩
    obtain ⟨hI5, hL5, hBB5, hA5⟩ := unhide Hfin w5 hB5 (fun k t cs h1 h2 h3 h4 => hfr5 k t cs h1 h2 h3 (by
      intro e
      subst e
      have h5 := hAs4
      unfold At at h5 h1
      rw [h1] at h5
      simp at h5
      have := h4 (by first | exact h5.2 | exact h5.2.1 | exact h5.1)
      omega))
    have hbl5 := hBk5.at_.lt
    have d5 := hA5.cell 5
    simp at d5
    go_wp2_with fail
    refine (whole_any gi ao cin zs hz w5 hI5 (hL5.toO (by omega))).mono ?_
    rintro e w6 ⟨rfl, hB6⟩
    go_wp2_with fail
    refine (num_any _ _).mono ?_
    rintro e w7 ⟨rfl, rfl⟩
    go_wp2_with fail
    go_ret
    exact ⟨rfl, ⟨_, _, hBk5.below hB6⟩, hBB5.trans (hB6.mono (by omega))⟩

set_option maxHeartbeats 1000000 in
theorem plays_path {w : World} {b : Nat} {lv : Value} {ls : List Value} (h : Bk w b lv ls) (hl : ls.length ≤ 1466015503701) (n m p : Int) (S : ByteArray) (hS : S.size ≤ maxLen) (ao : Option Addr) (cin : Nat) (zs : List Int) (hz : zs.length ≤ 17592186043904) (hL : LiesB w b ao zs) (a2 : Option Addr) (l2 c2 : Nat) :
    Calls Tryz.prog 13 #[.pointer (some ⟨b, 0, none⟩), .agg #[.int .i64 5, .int .i64 n, .int .i64 m, .int .i64 p, .string S, .slice ao zs.length cin, .slice a2 l2 c2]] w fun e w' => e = .returned (.bool true) ∧ (∃ lv' f, Bk w' b lv' (ls ++ [f])) ∧ Below b w w' := by
  have hbl := h.at_.lt
  have hB0 := (Below.refl w.heap.size w).alloc (Nat.le_refl _) (.cells #[.int .i64 5, .int .i64 n, .int .i64 m, .int .i64 p, .string S, .slice ao zs.length cin, .slice a2 l2 c2] 31)
  have HR := hide (path_any (h.below hB0) hl n m p S hS ao cin zs hz (hL.below hB0 (by omega)) a2 l2 c2)
  clear h hL
  go_enter Tryz.func13, Tryz.ntmps13
  go_wp2_with fail
  refine (unhide HR).mono ?_
  rintro e w1 ⟨rfl, hBk, hB1⟩
  go_wp2_with fail
  go_ret
  exact ⟨rfl, hBk, (hB0.mono (by omega)).trans hB1⟩

set_option maxHeartbeats 2000000 in
theorem upTo_paths (ao : Option Addr) (len cap : Nat) (w : World) (hs : IsScript2 w ao len) :
    Calls Tryz.prog 12 #[.slice ao len cap, .int .i64 5, .int .i64 5] w fun e w' => e = .returned (.int .i64 (-1)) ∧ Below w.heap.size w w' := by
  obtain ⟨hlen, hs⟩ := hs
  go_enter Tryz.func12, Tryz.ntmps12
  go_wp2_with fail
  have hbk0 : Bk (w.alloc (.cells #[.slice none 0 0] 28)) w.heap.size (.slice none 0 0) [] := ⟨At.new w _ _, World.ownsRow_nil _ _ _ _, fun k v hv => by simp at hv⟩
  go_loopw [8] (fun i wr => ∃ (k : Nat) (lv : Value) (ls : List Value), i = .int .i64 k ∧ k ≤ len ∧ ls.length ≤ k ∧ Hid (Bk wr w.heap.size lv ls) ∧ Hid (Below w.heap.size w wr)) (fun i _ => len - (intOf i).toNat)
  case atStart => exact ⟨0, _, [], rfl, Nat.zero_le _, Nat.zero_le _, hbk0, (Below.refl _ _).alloc (Nat.le_refl _) _⟩
  case round =>
    clear hbk0
    obtain ⟨k, lv, ls, rfl, hk, hls, hBk, hBl⟩ := hrel
    by_cases hlt : k < len
    · rcases hs with rfl | ⟨b, off, rfl, hb, hall⟩
      · omega
      obtain ⟨kind, n, m, p, S, va, vb, hop, hS, ⟨ai, ci, zs, rfl, hz, hL⟩, ⟨a2, l2, c2, rfl⟩⟩ := hall k hlt
      obtain ⟨o0, o1, o2, o3, o4, o5, o6⟩ := hop
      rw [← (unhide hBl).cell (p := ⟨b, off + k * 7, none⟩) hb] at o0
      rw [← (unhide hBl).cell (p := ⟨b, off + k * 7 + 1, none⟩) hb] at o1
      rw [← (unhide hBl).cell (p := ⟨b, off + k * 7 + 2, none⟩) hb] at o2
      rw [← (unhide hBl).cell (p := ⟨b, off + k * 7 + 3, none⟩) hb] at o3
      rw [← (unhide hBl).cell (p := ⟨b, off + k * 7 + 4, none⟩) hb] at o4
      rw [← (unhide hBl).cell (p := ⟨b, off + k * 7 + 5, none⟩) hb] at o5
      rw [← (unhide hBl).cell (p := ⟨b, off + k * 7 + 6, none⟩) hb] at o6
      have Hall := hide hall
      clear hall
      have hbl : w.heap.size < wr.heap.size := (unhide hBk).at_.lt
      by_cases hkind : kind = 5
      · subst hkind
        have hBa : Below wr.heap.size wr (wr.alloc (.cells #[.int .i64 5, .int .i64 n, .int .i64 m, .int .i64 p, .string S, .slice ai zs.length ci, .slice a2 l2 c2] 31)) := (Below.refl _ _).alloc (Nat.le_refl _) _
        have hLb : LiesB (wr.alloc (.cells #[.int .i64 5, .int .i64 n, .int .i64 m, .int .i64 p, .string S, .slice ai zs.length ci, .slice a2 l2 c2] 31)) w.heap.size ai zs := by
          rcases hL with h | ⟨ab, off', e, hL', hlt'⟩
          · exact .inl h
          · exact .inr ⟨ab, off', e, (hL'.below (unhide hBl) hlt').below (hBa.mono (Nat.le_of_lt hbl)) hlt', hlt'⟩
        have HR := hide (plays_path ((unhide hBk).below hBa) (by omega) n m p S hS ai ci zs hz hLb a2 l2 c2)
        clear hL hLb
        go_wp2_with fail
        refine (unhide HR).mono ?_
        rintro e w1 ⟨rfl, ⟨lv1, f1, hBk1⟩, hB1⟩
        go_wp2_with fail
        refine (holds_any hBk1 (by rw [List.length_append]; simp; omega)).mono ?_
        rintro e w2 ⟨rfl, j, rfl⟩
        go_wp2_with fail
        go_roundw
        case rel => exact ⟨k + 1, lv1, ls ++ [f1], by go_num, by omega, by rw [List.length_append]; simp; omega, hBk1.below (below_drewN (Below.refl _ _) j), below_drewN (((unhide hBl).trans (hBa.mono (Nat.le_of_lt hbl))).trans hB1) j⟩
        case measure => simp [intOf]; omega
      · by_cases hlow : 5 ≤ kind
        · have hd : decide (kind ≤ 5) = false := by simp; omega
          go_wp2_with fail
          go_roundw
          case rel => exact ⟨k + 1, lv, ls, by go_num, by omega, by omega, (unhide hBk).below ((Below.refl _ _).alloc (Nat.le_refl _) _), (unhide hBl).alloc (unhide hBl).size _⟩
          case measure => simp [intOf]; omega
        · have hd : decide (5 ≤ kind) = false := by simp; omega
          go_wp2_with fail
          go_roundw
          case rel => exact ⟨k + 1, lv, ls, by go_num, by omega, by omega, (unhide hBk).below ((Below.refl _ _).alloc (Nat.le_refl _) _), (unhide hBl).alloc (unhide hBl).size _⟩
          case measure => simp [intOf]; omega
    · go_wp2_with fail
      go_ret
      exact ⟨rfl, unhide hBl⟩

set_option maxHeartbeats 400000 in
theorem paths_walk (ao : Option Addr) (len cap : Nat) (w : World) (hs : IsScript2 w ao len) :
    Calls Tryz.prog 7 #[.slice ao len cap] w fun e w' => e = .returned (.bool true) ∧ Below w.heap.size w w' := by
  go_enter Tryz.func7, Tryz.ntmps7
  go_wp2_with fail
  refine (upTo_paths ao len cap w hs).mono ?_
  rintro e w1 ⟨rfl, hb⟩
  go_wp2_with fail
  go_ret
  exact ⟨rfl, hb⟩
end Go.Proofs.YtnkbfdbbcaffmaaGreatDoor
