import Derived.Test.YtnkbfdbbcaffmabX03Cmd
import Derived.Test.YtnkbfdbbcaffmabX15Mk
/-
  The writer of codes: its small methods.
-/
namespace Go.Proofs.Ytnkbfdbbcaffmab
open Go.RowKit

/-- The writer in block b: the lines' numbers in block gl below it, its text in a row of its own. -/
structure Wr (w : World) (b gl lcap : Nat) (ns : List Int) (tx : List Int) (tv : Value) : Prop where
  at_ : At w b 70 #[.slice (some ⟨gl, 0, none⟩) ns.length lcap, tv]
  row : Sn w b tv tx
  lies : Lies w ⟨gl, 0, none⟩ ns
  lt : gl < b

section
variable {w w' : World} {b gl lcap : Nat} {ns tx : List Int} {tv : Value}

theorem Wr.two (h : Wr w b gl lcap ns tx tv) : w.cell? ⟨b, 0, none⟩ = some (.slice (some ⟨gl, 0, none⟩) ns.length lcap) ∧ w.cell? ⟨b, 1, none⟩ = some tv ∧ (∀ j, w.frozen? ⟨b, j, none⟩ = false) := by
  refine ⟨?_, ?_, fun j => h.at_.frozen j⟩ <;> (rw [h.at_.cell]; rfl)

theorem Wr.alloc (h : Wr w b gl lcap ns tx tv) (o : Obj) : Wr (w.alloc o) b gl lcap ns tx tv :=
  ⟨h.at_.alloc o, h.row.alloc o, h.lies.grown (gb_alloc (gb_refl w none) o) (by simp), h.lt⟩
theorem Wr.drewN (h : Wr w b gl lcap ns tx tv) (j : Nat) : Wr (w.drewN j) b gl lcap ns tx tv := ⟨h.at_, h.row, h.lies, h.lt⟩

theorem wr_post {ao : Option Addr} {cap : Nat} {ds : List Int} (h : Wr w b gl lcap ns tx (.slice ao tx.length cap)) {v' : Value} {w0 : World} (h0 : Below w.heap.size w w0)
    (h1 : w'.ownsRow (b + 1) 5 1 v' (tx.length + ds.length) (bytesV tx ++ bytesV ds)) (h2 : w0.grownBy w' (Value.slice ao tx.length cap).ownBlock) :
    Wr (w'.setCell ⟨b, 1, none⟩ v') b gl lcap ns (tx ++ ds) v' ∧ w'.cell? ⟨b, 0, none⟩ = some (.slice (some ⟨gl, 0, none⟩) ns.length lcap) ∧ w'.cell? ⟨b, 1, none⟩ = some (.slice ao tx.length cap) ∧ (∀ j, w'.frozen? ⟨b, j, none⟩ = false) ∧ Fr b b w w' := by
  have hb := h.at_.lt
  have hown : ∀ k, (Value.slice ao tx.length cap).ownBlock = some k → b + 1 ≤ k ∧ k < w.heap.size := World.ownsRow.lt h.row
  have hA : At w' b 70 #[.slice (some ⟨gl, 0, none⟩) ns.length lcap, .slice ao tx.length cap] := (h.at_.below h0 hb).grown h2 (fun e => by have := hown b e.symm; omega)
  have hB : Below b w w' := (h0.mono (by omega)).trans ⟨h2.os, h2.tape, h2.output, h2.size, fun k hk => h2.block k (by have := h0.size; omega) (fun e => by have := hown k e.symm; omega)⟩
  have hgl := h.lt
  refine ⟨⟨?_, ?_, ?_, hgl⟩, by rw [hA.cell]; rfl, by rw [hA.cell]; rfl, fun j => hA.frozen j, hB, ?_⟩
  · have := hA.set 1 v'; simpa using this
  · unfold Sn
    rw [List.length_append]
    have e : bytesV (tx ++ ds) = bytesV tx ++ bytesV ds := by simp [bytesV]
    rw [e]; exact ownsRow_setCell_below h1 (Nat.lt_succ_self b) _
  · exact (h.lies.below hB hgl).below ((Below.refl b w').setCell (p := ⟨b, 1, none⟩) (Nat.le_refl b) v') hgl
  · intro k cs t f hk ht _ _
    have hl : k < w.heap.size := (Array.getElem?_eq_some_iff.1 hk).1
    rw [h2.block k (by have := h0.size; omega) (fun e => by
      rcases h.row.2 with ⟨e0, _⟩ | ⟨g, cap', cur, e1, _, e3, _⟩
      · rw [e0] at e; cases e
      · rw [e1] at e
        simp [Value.ownBlock] at e
        subst e
        rw [hk] at e3
        simp at e3
        exact ht e3.2.1), h0.block k hl]
    exact hk

set_option maxHeartbeats 1000000 in
theorem write_any (h : Wr w b gl lcap ns tx tv) (hl : tx.length ≤ 100000) (c : Int) :
    Calls Try.prog 39 #[.pointer (some ⟨b, 0, none⟩), .int .u8 c] w fun e w' => e = .returned (.tuple #[]) ∧ (∃ tv', Wr w' b gl lcap ns (tx ++ [c]) tv') ∧ Fr b b w w' := by
  obtain ⟨i0, hi0, hz0, hz1, hz2⟩ := info_parts Try.infoByte
  obtain ⟨ao, cap, rfl⟩ := h.row.shape
  obtain ⟨m0, m1, mf⟩ := h.two
  have hbl : b < w.heap.size := h.at_.lt
  have hPost := fun v' w' => wr_post (ds := [c]) (v' := v') (w' := w') h ((Below.refl w.heap.size w).alloc (Nat.le_refl _) (.cells #[.int .u8 c] 5))
  have hrow := h.row
  go_enter Try.func39, Try.ntmps39
  go_wp2_with (at_builtin; refine wpList_append_own _ rfl (.tmp 8) (.tmp 10) 51 rfl (b + 1) 5 i0 (.int .u8 0) 1 1 Try.underlying51 hi0 hz0 hz1 hz2 rfl (by decide) (.slice ao tx.length cap) tx.length (bytesV tx) rfl ?_ ⟨w.heap.size, 0, none⟩ 1 1 [.int .u8 c] rfl rfl ?_ ?_ ?_ ?_ ?_ ?_)
  · exact World.ownsRow.alloc hrow _
  · exact cell_one_new _ _ _
  · simp [Value.oneCell']
  · unfold maxLen; omega
  · omega
  · (try simp); omega
  · intro v' w' h1 h2 _
    obtain ⟨hW, c0, c1, cf, hB⟩ := hPost v' w' h1 h2
    obtain ⟨g', cap', rfl⟩ : ∃ g' cap', v' = .slice (some ⟨g', 0, none⟩) (tx.length + 1) cap' := by
      rcases h1.2 with ⟨_, h3⟩ | ⟨g', cap', cur, h4, _⟩
      · omega
      · exact ⟨g', cap', h4⟩
    clear m0 m1 mf h1 h2 hPost hrow
    go_wp2_with fail
    go_end0
    exact ⟨rfl, ⟨_, hW⟩, hB.set _ (Nat.le_refl b) (.inl rfl)⟩

set_option maxHeartbeats 1000000 in
theorem writeVariable_any (h : Wr w b gl lcap ns tx tv) (hl : tx.length ≤ 90000) (v : Int) (h0 : 0 ≤ v) (h1 : v ≤ 100) :
    Calls Try.prog 57 #[.pointer (some ⟨b, 0, none⟩), .int .i64 v] w fun e w' => e = .returned (.tuple #[]) ∧ (∃ tv', Wr w' b gl lcap ns (tx ++ [97 + v]) tv') ∧ Fr b b w w' := by
  have HW := hide (write_any h (by omega) (97 + v))
  clear h
  go_enter Try.func57, Try.ntmps57
  go_wp2_with fail
  refine (unhide HW).mono ?_
  rintro e w1 ⟨rfl, hW1, hB1⟩
  go_wp2_with fail
  go_end0
  exact ⟨rfl, hW1, hB1⟩

/-- The byte of an operand. -/
def opW (nm : Bool) (v : Int) : Int := if nm then 97 + v else hxd v

set_option maxHeartbeats 1000000 in
theorem writeOperand_any (h : Wr w b gl lcap ns tx tv) (hl : tx.length ≤ 80000) (nm : Bool) (v : Int) (h0 : 0 ≤ v) (h1 : v ≤ 15) :
    Calls Try.prog 58 #[.pointer (some ⟨b, 0, none⟩), .agg #[.bool nm, .int .i64 v]] w fun e w' => e = .returned (.tuple #[]) ∧ (∃ tv', Wr w' b gl lcap ns (tx ++ [opW nm v]) tv') ∧ Fr b b w w' := by
  have hbl := h.at_.lt
  have hB0 : Fr b b w (w.alloc (.cells #[.bool nm, .int .i64 v] 72)) := (Fr.refl b b w).alloc (by omega) _
  have hW0 := h.alloc (.cells #[.bool nm, .int .i64 v] 72)
  cases nm with
  | true =>
    have HW := hide (writeVariable_any hW0 (by omega) v h0 (by omega))
    clear h hW0
    go_enter Try.func58, Try.ntmps58
    go_wp2_with fail
    refine (unhide HW).mono ?_
    rintro e w1 ⟨rfl, hW1, hB1⟩
    go_wp2_with fail
    refine bodyPost_ret (results_none rfl _ _ _) rfl ?_
    exact ⟨rfl, hW1, hB0.trans hB1⟩
  | false =>
    have HW := hide (write_any hW0 (by omega) (hxd v))
    clear h hW0
    go_enter Try.func58, Try.ntmps58
    go_wp2_with fail
    refine (digit_any v h0 h1 _).mono ?_
    rintro e w' ⟨rfl, rfl⟩
    go_wp2_with fail
    refine (unhide HW).mono ?_
    rintro e w1 ⟨rfl, hW1, hB1⟩
    go_wp2_with fail
    go_end0
    exact ⟨rfl, hW1, hB0.trans hB1⟩

set_option maxHeartbeats 1000000 in
theorem writeNumber_any (h : Wr w b gl lcap ns tx tv) (hl : tx.length ≤ 80000) (i : Nat) (hi : i < ns.length) (z : Int) (hz : ns[i]? = some z) (h0 : 0 ≤ z) (h1 : z ≤ 255) :
    Calls Try.prog 40 #[.pointer (some ⟨b, 0, none⟩), .int .i64 i] w fun e w' => e = .returned (.tuple #[]) ∧ (∃ tv', Wr w' b gl lcap ns (tx ++ [hxd (z / 16), hxd (z % 16)]) tv') ∧ Fr b b w w' := by
  obtain ⟨m0, m1, mf⟩ := h.two
  have c := h.lies i z hz
  rw [Addr.add_lit, Nat.zero_add] at c
  have HW := hide (write_any h (by omega) (hxd (z / 16)))
  have hxd2 := fun w1 tv1 (h1 : Wr w1 b gl lcap ns (tx ++ [hxd (z / 16)]) tv1) => write_any h1 (by rw [List.length_append]; simp; omega) (hxd (z % 16))
  have HX := hide hxd2
  have hlI : (i : Int) < (ns.length : Int) := by omega
  clear hxd2 h hz
  go_enter Try.func40, Try.ntmps40
  go_wp2_with fail
  refine (digit_any _ (by omega) (by omega) _).mono ?_
  rintro e w' ⟨rfl, rfl⟩
  go_wp2_with fail
  refine (unhide HW).mono ?_
  rintro e w1 ⟨rfl, ⟨tv1, hW1⟩, hB1⟩
  go_wp2_with fail
  refine (digit_any _ (by omega) (by omega) _).mono ?_
  rintro e w' ⟨rfl, rfl⟩
  go_wp2_with fail
  refine (unhide HX _ _ hW1).mono ?_
  rintro e w2 ⟨rfl, ⟨tv2, hW2⟩, hB2⟩
  rw [List.append_assoc] at hW2
  go_wp2_with fail
  go_end0
  exact ⟨rfl, ⟨_, hW2⟩, hB1.trans hB2⟩
end
end Go.Proofs.Ytnkbfdbbcaffmab
/-
  writeLine.
-/
namespace Go.Proofs.Ytnkbfdbbcaffmab
open Go.RowKit

section
variable {w w' : World} {b gl lcap : Nat} {ns tx : List Int} {tv : Value}

set_option maxHeartbeats 2000000 in
theorem writeLine_set (h : Wr w b gl lcap ns tx tv) (hl : tx.length ≤ 10000) (c : Cm) (hk : c.kind = 61) (hv0 : 0 ≤ c.var) (hv1 : c.var ≤ 100) (hx0 : 0 ≤ c.xv) (hx1 : c.xv ≤ 15) (hy0 : 0 ≤ c.yv) (hy1 : c.yv ≤ 15) :
    Calls Try.prog 37 #[.pointer (some ⟨b, 0, none⟩), .agg c.cells] w fun e w' => e = .returned (.tuple #[]) ∧ (∃ tv', Wr w' b gl lcap ns (tx ++ [61, 97 + c.var, opW c.xn c.xv, c.op, opW c.yn c.yv]) tv') ∧ Fr b b w w' := by
  obtain ⟨ck, cvar, cxn, cxv, cop, cyn, cyv, cyes, cno, csec, cbeh⟩ := c
  dsimp only [Cm.cells] at *
  have hbl := h.at_.lt
  subst hk
  go_enter Try.func37, Try.ntmps37
  go_wp2_with fail
  refine (write_any (h.alloc _) (by omega) _).mono ?_
  rintro e w1 ⟨rfl, ⟨tv1, hW1⟩, hF1⟩
  have hA1 := hF1.at_ (At.new w 74 _) (by decide) (by omega) (by omega)
  have hG1 := ((Fr.refl b b w).alloc (by omega) _).trans hF1
  obtain ⟨d0, d1, d2, d3, d4, d5, d6, d7, d8, d9, d10, df⟩ := At.elv hA1
  go_wp2_with fail
  refine (writeVariable_any hW1 (by simp; omega) cvar hv0 hv1).mono ?_
  rintro e w2 ⟨rfl, ⟨tv2, hW2⟩, hF2⟩
  have hA2 := hF2.at_ hA1 (by decide) (by omega) (by omega)
  have hG2 := hG1.trans hF2
  clear d0 d1 d2 d3 d4 d5 d6 d7 d8 d9 d10 df
  obtain ⟨d0, d1, d2, d3, d4, d5, d6, d7, d8, d9, d10, df⟩ := At.elv hA2
  go_wp2_with fail
  refine (writeOperand_any hW2 (by simp; omega) cxn cxv hx0 hx1).mono ?_
  rintro e w3 ⟨rfl, ⟨tv3, hW3⟩, hF3⟩
  have hA3 := hF3.at_ hA2 (by decide) (by omega) (by omega)
  have hG3 := hG2.trans hF3
  clear d0 d1 d2 d3 d4 d5 d6 d7 d8 d9 d10 df
  obtain ⟨d0, d1, d2, d3, d4, d5, d6, d7, d8, d9, d10, df⟩ := At.elv hA3
  go_wp2_with fail
  refine (write_any hW3 (by simp; omega) _).mono ?_
  rintro e w4 ⟨rfl, ⟨tv4, hW4⟩, hF4⟩
  have hA4 := hF4.at_ hA3 (by decide) (by omega) (by omega)
  have hG4 := hG3.trans hF4
  clear d0 d1 d2 d3 d4 d5 d6 d7 d8 d9 d10 df
  obtain ⟨d0, d1, d2, d3, d4, d5, d6, d7, d8, d9, d10, df⟩ := At.elv hA4
  go_wp2_with fail
  refine (writeOperand_any hW4 (by simp; omega) cyn cyv hy0 hy1).mono ?_
  rintro e w5 ⟨rfl, ⟨tv5, hW5⟩, hF5⟩
  have hA5 := hF5.at_ hA4 (by decide) (by omega) (by omega)
  have hG5 := hG4.trans hF5
  clear d0 d1 d2 d3 d4 d5 d6 d7 d8 d9 d10 df
  simp only [List.append_assoc, List.cons_append, List.nil_append] at hW5
  go_wp2_with fail
  go_end0
  exact ⟨rfl, ⟨_, hW5⟩, hG5⟩

set_option maxHeartbeats 2000000 in
theorem writeLine_load (h : Wr w b gl lcap ns tx tv) (hl : tx.length ≤ 10000) (c : Cm) (hk : c.kind = 108) (hv0 : 0 ≤ c.var) (hv1 : c.var ≤ 100) (hx0 : 0 ≤ c.xv) (hx1 : c.xv ≤ 15) :
    Calls Try.prog 37 #[.pointer (some ⟨b, 0, none⟩), .agg c.cells] w fun e w' => e = .returned (.tuple #[]) ∧ (∃ tv', Wr w' b gl lcap ns (tx ++ [108, 97 + c.var, opW c.xn c.xv]) tv') ∧ Fr b b w w' := by
  obtain ⟨ck, cvar, cxn, cxv, cop, cyn, cyv, cyes, cno, csec, cbeh⟩ := c
  dsimp only [Cm.cells] at *
  have hbl := h.at_.lt
  subst hk
  go_enter Try.func37, Try.ntmps37
  go_wp2_with fail
  refine (write_any (h.alloc _) (by omega) _).mono ?_
  rintro e w1 ⟨rfl, ⟨tv1, hW1⟩, hF1⟩
  have hA1 := hF1.at_ (At.new w 74 _) (by decide) (by omega) (by omega)
  have hG1 := ((Fr.refl b b w).alloc (by omega) _).trans hF1
  obtain ⟨d0, d1, d2, d3, d4, d5, d6, d7, d8, d9, d10, df⟩ := At.elv hA1
  go_wp2_with fail
  refine (writeVariable_any hW1 (by simp; omega) cvar hv0 hv1).mono ?_
  rintro e w2 ⟨rfl, ⟨tv2, hW2⟩, hF2⟩
  have hA2 := hF2.at_ hA1 (by decide) (by omega) (by omega)
  have hG2 := hG1.trans hF2
  clear d0 d1 d2 d3 d4 d5 d6 d7 d8 d9 d10 df
  obtain ⟨d0, d1, d2, d3, d4, d5, d6, d7, d8, d9, d10, df⟩ := At.elv hA2
  go_wp2_with fail
  refine (writeOperand_any hW2 (by simp; omega) cxn cxv hx0 hx1).mono ?_
  rintro e w3 ⟨rfl, ⟨tv3, hW3⟩, hF3⟩
  have hA3 := hF3.at_ hA2 (by decide) (by omega) (by omega)
  have hG3 := hG2.trans hF3
  clear d0 d1 d2 d3 d4 d5 d6 d7 d8 d9 d10 df
  simp only [List.append_assoc, List.cons_append, List.nil_append] at hW3
  go_wp2_with fail
  go_end0
  exact ⟨rfl, ⟨_, hW3⟩, hG3⟩

set_option maxHeartbeats 2000000 in
theorem writeLine_store (h : Wr w b gl lcap ns tx tv) (hl : tx.length ≤ 10000) (c : Cm) (hk : c.kind = 115) (hx0 : 0 ≤ c.xv) (hx1 : c.xv ≤ 15) (hy0 : 0 ≤ c.yv) (hy1 : c.yv ≤ 15) :
    Calls Try.prog 37 #[.pointer (some ⟨b, 0, none⟩), .agg c.cells] w fun e w' => e = .returned (.tuple #[]) ∧ (∃ tv', Wr w' b gl lcap ns (tx ++ [115, opW c.xn c.xv, opW c.yn c.yv]) tv') ∧ Fr b b w w' := by
  obtain ⟨ck, cvar, cxn, cxv, cop, cyn, cyv, cyes, cno, csec, cbeh⟩ := c
  dsimp only [Cm.cells] at *
  have hbl := h.at_.lt
  subst hk
  go_enter Try.func37, Try.ntmps37
  go_wp2_with fail
  refine (write_any (h.alloc _) (by omega) _).mono ?_
  rintro e w1 ⟨rfl, ⟨tv1, hW1⟩, hF1⟩
  have hA1 := hF1.at_ (At.new w 74 _) (by decide) (by omega) (by omega)
  have hG1 := ((Fr.refl b b w).alloc (by omega) _).trans hF1
  obtain ⟨d0, d1, d2, d3, d4, d5, d6, d7, d8, d9, d10, df⟩ := At.elv hA1
  go_wp2_with fail
  refine (writeOperand_any hW1 (by simp; omega) cxn cxv hx0 hx1).mono ?_
  rintro e w2 ⟨rfl, ⟨tv2, hW2⟩, hF2⟩
  have hA2 := hF2.at_ hA1 (by decide) (by omega) (by omega)
  have hG2 := hG1.trans hF2
  clear d0 d1 d2 d3 d4 d5 d6 d7 d8 d9 d10 df
  obtain ⟨d0, d1, d2, d3, d4, d5, d6, d7, d8, d9, d10, df⟩ := At.elv hA2
  go_wp2_with fail
  refine (writeOperand_any hW2 (by simp; omega) cyn cyv hy0 hy1).mono ?_
  rintro e w3 ⟨rfl, ⟨tv3, hW3⟩, hF3⟩
  have hA3 := hF3.at_ hA2 (by decide) (by omega) (by omega)
  have hG3 := hG2.trans hF3
  clear d0 d1 d2 d3 d4 d5 d6 d7 d8 d9 d10 df
  simp only [List.append_assoc, List.cons_append, List.nil_append] at hW3
  go_wp2_with fail
  go_end0
  exact ⟨rfl, ⟨_, hW3⟩, hG3⟩

set_option maxHeartbeats 2000000 in
theorem writeLine_test (h : Wr w b gl lcap ns tx tv) (hl : tx.length ≤ 10000) (c : Cm) (hk : c.kind = 63 ∨ c.kind = 33) (hx0 : 0 ≤ c.xv) (hx1 : c.xv ≤ 15) (i : Nat) (hi : c.no = i) (hil : i < ns.length) (z : Int) (hz : ns[i]? = some z) (hz0 : 0 ≤ z) (hz1 : z ≤ 255) :
    Calls Try.prog 37 #[.pointer (some ⟨b, 0, none⟩), .agg c.cells] w fun e w' => e = .returned (.tuple #[]) ∧ (∃ tv', Wr w' b gl lcap ns (tx ++ [122, opW c.xn c.xv, hxd (z / 16), hxd (z % 16)]) tv') ∧ Fr b b w w' := by
  obtain ⟨ck, cvar, cxn, cxv, cop, cyn, cyv, cyes, cno, csec, cbeh⟩ := c
  dsimp only [Cm.cells] at *
  have hbl := h.at_.lt
  subst hi
  rcases hk with rfl | rfl
  all_goals
    go_enter Try.func37, Try.ntmps37
    go_wp2_with fail
    refine (write_any (h.alloc _) (by omega) _).mono ?_
    rintro e w1 ⟨rfl, ⟨tv1, hW1⟩, hF1⟩
    have hA1 := hF1.at_ (At.new w 74 _) (by decide) (by omega) (by omega)
    have hG1 := ((Fr.refl b b w).alloc (by omega) _).trans hF1
    obtain ⟨d0, d1, d2, d3, d4, d5, d6, d7, d8, d9, d10, df⟩ := At.elv hA1
    go_wp2_with fail
    refine (writeOperand_any hW1 (by simp; omega) cxn cxv hx0 hx1).mono ?_
    rintro e w2 ⟨rfl, ⟨tv2, hW2⟩, hF2⟩
    have hA2 := hF2.at_ hA1 (by decide) (by omega) (by omega)
    have hG2 := hG1.trans hF2
    clear d0 d1 d2 d3 d4 d5 d6 d7 d8 d9 d10 df
    obtain ⟨d0, d1, d2, d3, d4, d5, d6, d7, d8, d9, d10, df⟩ := At.elv hA2
    go_wp2_with fail
    refine (writeNumber_any hW2 (by simp; omega) i hil z hz hz0 hz1).mono ?_
    rintro e w3 ⟨rfl, ⟨tv3, hW3⟩, hF3⟩
    have hA3 := hF3.at_ hA2 (by decide) (by omega) (by omega)
    have hG3 := hG2.trans hF3
    clear d0 d1 d2 d3 d4 d5 d6 d7 d8 d9 d10 df
    simp only [List.append_assoc, List.cons_append, List.nil_append] at hW3
    go_wp2_with fail
    go_end0
    exact ⟨rfl, ⟨_, hW3⟩, hG3⟩

end
end Go.Proofs.Ytnkbfdbbcaffmab
