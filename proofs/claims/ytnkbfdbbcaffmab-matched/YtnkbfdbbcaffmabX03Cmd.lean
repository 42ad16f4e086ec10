import Derived.Test.YtnkbfdbbcaffmabX01Chars
import Derived.Test.YtnkbfdbbcaffmabX02Ari
import Derived.OwnWalk
/-
  takeCommand, kind by kind.
-/
namespace Go.Proofs.Ytnkbfdbbcaffmab
open Go.RowKit

/-- A command, as it is held. -/
structure Cm where
  kind : Int
  var : Int
  xn : Bool
  xv : Int
  op : Int
  yn : Bool
  yv : Int
  yes : Int
  no : Int
  sec : Int
  beh : Int

def Cm.cells (c : Cm) : Array Value := #[.int .u8 c.kind, .int .i64 c.var, .bool c.xn, .int .i64 c.xv, .int .u8 c.op, .bool c.yn, .int .i64 c.yv, .int .i64 c.yes, .int .i64 c.no, .int .i64 c.sec, .int .i64 c.beh]

section
variable {w : World} {b : Nat} {s : ByteArray} {p : Nat} {bad : Bool} {ht : ByteArray} {hw hv hn hm : Int} {cv : Value}

theorem Rd.other (h : Rd w b s p bad ht hw hv hn hm cv) {a : Addr} (v : Value) (ha : a.block ≠ b) : Rd (w.setCell a v) b s p bad ht hw hv hn hm cv := At.other h v ha
theorem Rd.alloc (h : Rd w b s p bad ht hw hv hn hm cv) (o : Obj) : Rd (w.alloc o) b s p bad ht hw hv hn hm cv := At.alloc h o
theorem At.nine {c : Nat} {t : TypeId} {v0 v1 v2 v3 v4 v5 v6 v7 v8 : Value} (h : At w c t #[v0, v1, v2, v3, v4, v5, v6, v7, v8]) :
    w.cell? ⟨c, 0, none⟩ = some v0 ∧ w.cell? ⟨c, 1, none⟩ = some v1 ∧ w.cell? ⟨c, 2, none⟩ = some v2 ∧ w.cell? ⟨c, 3, none⟩ = some v3 ∧ w.cell? ⟨c, 4, none⟩ = some v4 ∧ w.cell? ⟨c, 5, none⟩ = some v5 ∧ w.cell? ⟨c, 6, none⟩ = some v6 ∧ w.cell? ⟨c, 7, none⟩ = some v7 ∧ w.cell? ⟨c, 8, none⟩ = some v8 ∧ (∀ j, w.frozen? ⟨c, j, none⟩ = false) := by
  refine ⟨?_, ?_, ?_, ?_, ?_, ?_, ?_, ?_, ?_, fun j => h.frozen j⟩ <;> (rw [h.cell]; rfl)
theorem At.elv {c : Nat} {t : TypeId} {v0 v1 v2 v3 v4 v5 v6 v7 v8 v9 v10 : Value} (h : At w c t #[v0, v1, v2, v3, v4, v5, v6, v7, v8, v9, v10]) :
    w.cell? ⟨c, 0, none⟩ = some v0 ∧ w.cell? ⟨c, 1, none⟩ = some v1 ∧ w.cell? ⟨c, 2, none⟩ = some v2 ∧ w.cell? ⟨c, 3, none⟩ = some v3 ∧ w.cell? ⟨c, 4, none⟩ = some v4 ∧ w.cell? ⟨c, 5, none⟩ = some v5 ∧ w.cell? ⟨c, 6, none⟩ = some v6 ∧ w.cell? ⟨c, 7, none⟩ = some v7 ∧ w.cell? ⟨c, 8, none⟩ = some v8 ∧ w.cell? ⟨c, 9, none⟩ = some v9 ∧ w.cell? ⟨c, 10, none⟩ = some v10 ∧ (∀ j, w.frozen? ⟨c, j, none⟩ = false) := by
  refine ⟨?_, ?_, ?_, ?_, ?_, ?_, ?_, ?_, ?_, ?_, ?_, fun j => h.frozen j⟩ <;> (rw [h.cell]; rfl)
/-- All eleven cells of a block written over: the other blocks are as they were. -/
theorem gb_elv {w1 w2 : World} {row : Option Nat} (h : w1.grownBy w2 row) (c : Nat) (hc : w1.heap.size ≤ c) (v0 v1 v2 v3 v4 v5 v6 v7 v8 v9 v10 : Value) :
    w1.grownBy (((((((((((w2.setCell ⟨c, 0, none⟩ v0).setCell ⟨c, 1, none⟩ v1).setCell ⟨c, 2, none⟩ v2).setCell ⟨c, 3, none⟩ v3).setCell ⟨c, 4, none⟩ v4).setCell ⟨c, 5, none⟩ v5).setCell ⟨c, 6, none⟩ v6).setCell ⟨c, 7, none⟩ v7).setCell ⟨c, 8, none⟩ v8).setCell ⟨c, 9, none⟩ v9).setCell ⟨c, 10, none⟩ v10) row :=
  gb_set (gb_set (gb_set (gb_set (gb_set (gb_set (gb_set (gb_set (gb_set (gb_set (gb_set h _ (.inr hc)) _ (.inr hc)) _ (.inr hc)) _ (.inr hc)) _ (.inr hc)) _ (.inr hc)) _ (.inr hc)) _ (.inr hc)) _ (.inr hc)) _ (.inr hc)) _ (.inr hc)
theorem Rd.elv (h : Rd w b s p bad ht hw hv hn hm cv) (c : Nat) (hc : c ≠ b) (v0 v1 v2 v3 v4 v5 v6 v7 v8 v9 v10 : Value) :
    Rd (((((((((((w.setCell ⟨c, 0, none⟩ v0).setCell ⟨c, 1, none⟩ v1).setCell ⟨c, 2, none⟩ v2).setCell ⟨c, 3, none⟩ v3).setCell ⟨c, 4, none⟩ v4).setCell ⟨c, 5, none⟩ v5).setCell ⟨c, 6, none⟩ v6).setCell ⟨c, 7, none⟩ v7).setCell ⟨c, 8, none⟩ v8).setCell ⟨c, 9, none⟩ v9).setCell ⟨c, 10, none⟩ v10) b s p bad ht hw hv hn hm cv :=
  ((((((((((h.other _ hc).other _ hc).other _ hc).other _ hc).other _ hc).other _ hc).other _ hc).other _ hc).other _ hc).other _ hc).other _ hc

/-- behind the first byte: test -/
def cmTest (s : ByteArray) (p : Nat) (hv hn k : Int) : Nat × Bool × Cm :=
  let x := opnd s p false hv hn
  (x.1, x.2.1, ⟨k, 0, x.2.2.1, x.2.2.2, 0, false, 0, 0, 0, 0, 0⟩)

set_option maxHeartbeats 2000000 in
theorem takeCommand_test (hR : Rd w b s p bad ht hw hv hn hm cv) (hs : s.size ≤ maxLen) (h0 : 0 ≤ hn) (h1 : hn ≤ 8) (h2 : 1 ≤ hv) (h3 : hv ≤ 256) (k : Int) (hk : pk s p bad = k) (hkk : k = 63 ∨ k = 33) :
    Calls Try.prog 69 #[.pointer (some ⟨b, 0, none⟩)] w fun e w' => e = .returned (.agg (cmTest s (p + 1) hv hn k).2.2.cells) ∧ Rd w' b s (cmTest s (p + 1) hv hn k).1 (cmTest s (p + 1) hv hn k).2.1 ht hw hv hn hm cv ∧ w.grownBy w' (some b) := by
  have ht := tk_pk s p bad (by rw [hk]; omega)
  rw [hk] at ht
  obtain ⟨ht, rfl, _⟩ := ht
  have Ht := hide ht
  have Hk := hide hk
  clear ht hk
  have hbl := At.lt hR
  have hR0 : ∀ o o', Rd ((w.alloc o).alloc o') b s p false ht hw hv hn hm cv := fun o o' => At.alloc (At.alloc hR o) o'
  unfold cmTest
  dsimp only
  generalize hxq : opnd s (p + 1) false hv hn = x
  have Hx := hide hxq
  clear hxq
  have hO0 : ∀ cs o, At ((w.alloc (.cells cs 74)).alloc o) w.heap.size 74 cs := fun cs o => At.alloc (At.new w _ cs) o
  have hC0 : ∀ o cs, At ((w.alloc o).alloc (.cells cs 74)) (w.heap.size + 1) 74 cs := fun o cs => by
    have := At.new (w.alloc o) 74 cs
    simpa using this
  rcases hkk with rfl | rfl
  all_goals
    go_enter Try.func69, Try.ntmps69
    go_wp2_with fail
    refine (peek_any (hR0 _ _) hs).mono ?_
    rintro e w' ⟨rfl, n, rfl⟩
    rw [unhide Hk]
    go_wp2_with fail
    refine (take_any (Rd.other (Rd.drewN (hR0 _ _) n) _ (by simp; omega)) hs _).mono ?_
    rintro e w2 ⟨rfl, hR2, hg2⟩
    rw [unhide Ht] at hR2
    have hC2 := At.grown (At.set (At.drewN (hC0 _ _) n) 0 _) hg2 (by simp; omega)
    have hO2 := At.grown (At.other (At.drewN (hO0 _ _) n) _ (by simp)) hg2 (by simp; omega)
    have hG2 := gb_trans (gb_set (gb_drewN (gb_alloc (gb_alloc (gb_refl w (some b)) _) _) n) _ (.inr (by simp))) hg2
    simp at hC2
    have hC2' := hide hC2
    have hO2' := hide hO2
    obtain ⟨d0, d1, d2, d3, d4, d5, d6, d7, d8, d9, d10, df⟩ := At.elv hC2
    clear hC2 hO2
    go_wp2_with fail
    refine (takeOperand_any hR2 hs h0 h1 h2 h3).mono ?_
    rintro e w3 ⟨rfl, hR3, hg3⟩
    rw [unhide Hx] at hR3 ⊢
    have hC3 := At.grown (unhide hC2') hg3 (by simp; omega)
    have hO3 := At.grown (unhide hO2') hg3 (by simp; omega)
    have hG3 := gb_trans hG2 hg3
    clear d0 d1 d2 d3 d4 d5 d6 d7 d8 d9 d10 df
    obtain ⟨d0, d1, d2, d3, d4, d5, d6, d7, d8, d9, d10, df⟩ := At.elv hC3
    obtain ⟨e0, e1, e2, e3, e4, e5, e6, e7, e8, e9, e10, ef⟩ := At.elv hO3
    clear hC3 hO3
    go_wp2_with fail
    refine bodyPost_ret (v := .agg (⟨_, 0, x.2.2.1, x.2.2.2, 0, false, 0, 0, 0, 0, 0⟩ : Cm).cells) (by simp [results, Try.results69, go_sem, Cm.cells, e0, e1, e2, e3, e4, e5, e6, e7, e8, e9, e10]) rfl ⟨rfl, ?_, ?_⟩
    · exact Rd.elv (Rd.other (Rd.other hR3 _ (by simp; omega)) _ (by simp; omega)) _ (by omega) _ _ _ _ _ _ _ _ _ _ _
    · exact gb_elv (gb_set (gb_set hG3 _ (.inr (by simp))) _ (.inr (by simp))) _ (by simp) _ _ _ _ _ _ _ _ _ _ _

/-- behind the first byte: load -/
def cmLoad (s : ByteArray) (p : Nat) (hv hn : Int) : Nat × Bool × Cm :=
  let v := tb s p false 97 (97 + hn - 1)
  let x := opnd s v.1 v.2.1 hv hn
  (x.1, x.2.1, ⟨108, v.2.2, x.2.2.1, x.2.2.2, 0, false, 0, 0, 0, 0, 0⟩)

set_option maxHeartbeats 2000000 in
theorem takeCommand_load (hR : Rd w b s p bad ht hw hv hn hm cv) (hs : s.size ≤ maxLen) (h0 : 0 ≤ hn) (h1 : hn ≤ 8) (h2 : 1 ≤ hv) (h3 : hv ≤ 256) (hk : pk s p bad = 108) :
    Calls Try.prog 69 #[.pointer (some ⟨b, 0, none⟩)] w fun e w' => e = .returned (.agg (cmLoad s (p + 1) hv hn).2.2.cells) ∧ Rd w' b s (cmLoad s (p + 1) hv hn).1 (cmLoad s (p + 1) hv hn).2.1 ht hw hv hn hm cv ∧ w.grownBy w' (some b) := by
  have ht := tk_pk s p bad (by rw [hk]; omega)
  rw [hk] at ht
  obtain ⟨ht, rfl, _⟩ := ht
  have Ht := hide ht
  have Hk := hide hk
  clear ht hk
  have hbl := At.lt hR
  have hR0 : ∀ o o', Rd ((w.alloc o).alloc o') b s p false ht hw hv hn hm cv := fun o o' => At.alloc (At.alloc hR o) o'
  unfold cmLoad
  dsimp only
  generalize hvq : tb s (p + 1) false 97 (97 + hn - 1) = v
  have Hv := hide hvq
  clear hvq
  generalize hxq : opnd s v.1 v.2.1 hv hn = x
  have Hx := hide hxq
  clear hxq
  have hO0 : ∀ cs o, At ((w.alloc (.cells cs 74)).alloc o) w.heap.size 74 cs := fun cs o => At.alloc (At.new w _ cs) o
  have hC0 : ∀ o cs, At ((w.alloc o).alloc (.cells cs 74)) (w.heap.size + 1) 74 cs := fun o cs => by
    have := At.new (w.alloc o) 74 cs
    simpa using this
  go_enter Try.func69, Try.ntmps69
  go_wp2_with fail
  refine (peek_any (hR0 _ _) hs).mono ?_
  rintro e w' ⟨rfl, n, rfl⟩
  rw [unhide Hk]
  go_wp2_with fail
  refine (take_any (Rd.other (Rd.drewN (hR0 _ _) n) _ (by simp; omega)) hs _).mono ?_
  rintro e w2 ⟨rfl, hR2, hg2⟩
  rw [unhide Ht] at hR2
  have hC2 := At.grown (At.set (At.drewN (hC0 _ _) n) 0 _) hg2 (by simp; omega)
  have hO2 := At.grown (At.other (At.drewN (hO0 _ _) n) _ (by simp)) hg2 (by simp; omega)
  have hG2 := gb_trans (gb_set (gb_drewN (gb_alloc (gb_alloc (gb_refl w (some b)) _) _) n) _ (.inr (by simp))) hg2
  simp at hC2
  have hC2' := hide hC2
  have hO2' := hide hO2
  obtain ⟨d0, d1, d2, d3, d4, d5, d6, d7, d8, d9, d10, df⟩ := At.elv hC2
  clear hC2 hO2
  go_wp2_with fail
  refine (takeVariable_any hR2 hs h0 h1).mono ?_
  rintro e w3 ⟨rfl, hR3, hg3⟩
  rw [unhide Hv] at hR3 ⊢
  have hC3 := At.grown (unhide hC2') hg3 (by simp; omega)
  have hO3 := At.grown (unhide hO2') hg3 (by simp; omega)
  have hG3 := gb_trans hG2 hg3
  clear d0 d1 d2 d3 d4 d5 d6 d7 d8 d9 d10 df
  have hC3' := hide hC3
  have hO3' := hide hO3
  obtain ⟨d0, d1, d2, d3, d4, d5, d6, d7, d8, d9, d10, df⟩ := At.elv hC3
  clear hC3 hO3
  go_wp2_with fail
  refine (takeOperand_any (Rd.other hR3 _ (by simp; omega)) hs h0 h1 h2 h3).mono ?_
  rintro e w4 ⟨rfl, hR4, hg4⟩
  rw [unhide Hx] at hR4 ⊢
  have hC4 := At.grown (At.set (unhide hC3') 1 _) hg4 (by simp; omega)
  have hO4 := At.grown (At.other (unhide hO3') _ (by simp)) hg4 (by simp; omega)
  have hG4 := gb_trans (gb_set hG3 _ (.inr (by simp))) hg4
  simp at hC4
  clear d0 d1 d2 d3 d4 d5 d6 d7 d8 d9 d10 df
  obtain ⟨d0, d1, d2, d3, d4, d5, d6, d7, d8, d9, d10, df⟩ := At.elv hC4
  obtain ⟨e0, e1, e2, e3, e4, e5, e6, e7, e8, e9, e10, ef⟩ := At.elv hO4
  clear hC4 hO4
  go_wp2_with fail
  refine bodyPost_ret (v := .agg (⟨108, v.2.2, x.2.2.1, x.2.2.2, 0, false, 0, 0, 0, 0, 0⟩ : Cm).cells) (by simp [results, Try.results69, go_sem, Cm.cells, e0, e1, e2, e3, e4, e5, e6, e7, e8, e9, e10]) rfl ⟨rfl, ?_, ?_⟩
  · exact Rd.elv (Rd.other (Rd.other hR4 _ (by simp; omega)) _ (by simp; omega)) _ (by omega) _ _ _ _ _ _ _ _ _ _ _
  · exact gb_elv (gb_set (gb_set hG4 _ (.inr (by simp))) _ (.inr (by simp))) _ (by simp) _ _ _ _ _ _ _ _ _ _ _

/-- behind the first byte: store -/
def cmStore (s : ByteArray) (p : Nat) (hv hn : Int) : Nat × Bool × Cm :=
  let x := opnd s p false hv hn
  let y := opnd s x.1 x.2.1 hv hn
  (y.1, y.2.1, ⟨115, 0, x.2.2.1, x.2.2.2, 0, y.2.2.1, y.2.2.2, 0, 0, 0, 0⟩)

set_option maxHeartbeats 2000000 in
theorem takeCommand_store (hR : Rd w b s p bad ht hw hv hn hm cv) (hs : s.size ≤ maxLen) (h0 : 0 ≤ hn) (h1 : hn ≤ 8) (h2 : 1 ≤ hv) (h3 : hv ≤ 256) (hk : pk s p bad = 115) :
    Calls Try.prog 69 #[.pointer (some ⟨b, 0, none⟩)] w fun e w' => e = .returned (.agg (cmStore s (p + 1) hv hn).2.2.cells) ∧ Rd w' b s (cmStore s (p + 1) hv hn).1 (cmStore s (p + 1) hv hn).2.1 ht hw hv hn hm cv ∧ w.grownBy w' (some b) := by
  have ht := tk_pk s p bad (by rw [hk]; omega)
  rw [hk] at ht
  obtain ⟨ht, rfl, _⟩ := ht
  have Ht := hide ht
  have Hk := hide hk
  clear ht hk
  have hbl := At.lt hR
  have hR0 : ∀ o o', Rd ((w.alloc o).alloc o') b s p false ht hw hv hn hm cv := fun o o' => At.alloc (At.alloc hR o) o'
  unfold cmStore
  dsimp only
  generalize hxq : opnd s (p + 1) false hv hn = x
  have Hx := hide hxq
  clear hxq
  generalize hyq : opnd s x.1 x.2.1 hv hn = y
  have Hy := hide hyq
  clear hyq
  have hO0 : ∀ cs o, At ((w.alloc (.cells cs 74)).alloc o) w.heap.size 74 cs := fun cs o => At.alloc (At.new w _ cs) o
  have hC0 : ∀ o cs, At ((w.alloc o).alloc (.cells cs 74)) (w.heap.size + 1) 74 cs := fun o cs => by
    have := At.new (w.alloc o) 74 cs
    simpa using this
  go_enter Try.func69, Try.ntmps69
  go_wp2_with fail
  refine (peek_any (hR0 _ _) hs).mono ?_
  rintro e w' ⟨rfl, n, rfl⟩
  rw [unhide Hk]
  go_wp2_with fail
  refine (take_any (Rd.other (Rd.drewN (hR0 _ _) n) _ (by simp; omega)) hs _).mono ?_
  rintro e w2 ⟨rfl, hR2, hg2⟩
  rw [unhide Ht] at hR2
  have hC2 := At.grown (At.set (At.drewN (hC0 _ _) n) 0 _) hg2 (by simp; omega)
  have hO2 := At.grown (At.other (At.drewN (hO0 _ _) n) _ (by simp)) hg2 (by simp; omega)
  have hG2 := gb_trans (gb_set (gb_drewN (gb_alloc (gb_alloc (gb_refl w (some b)) _) _) n) _ (.inr (by simp))) hg2
  simp at hC2
  have hC2' := hide hC2
  have hO2' := hide hO2
  obtain ⟨d0, d1, d2, d3, d4, d5, d6, d7, d8, d9, d10, df⟩ := At.elv hC2
  clear hC2 hO2
  go_wp2_with fail
  refine (takeOperand_any hR2 hs h0 h1 h2 h3).mono ?_
  rintro e w3 ⟨rfl, hR3, hg3⟩
  rw [unhide Hx] at hR3 ⊢
  have hC3 := At.grown (unhide hC2') hg3 (by simp; omega)
  have hO3 := At.grown (unhide hO2') hg3 (by simp; omega)
  have hG3 := gb_trans hG2 hg3
  clear d0 d1 d2 d3 d4 d5 d6 d7 d8 d9 d10 df
  have hC3' := hide hC3
  have hO3' := hide hO3
  obtain ⟨d0, d1, d2, d3, d4, d5, d6, d7, d8, d9, d10, df⟩ := At.elv hC3
  clear hC3 hO3
  go_wp2_with fail
  refine (takeOperand_any (Rd.other (Rd.other hR3 _ (by simp; omega)) _ (by simp; omega)) hs h0 h1 h2 h3).mono ?_
  rintro e w4 ⟨rfl, hR4, hg4⟩
  rw [unhide Hy] at hR4 ⊢
  have hC4 := At.grown (At.set (At.set (unhide hC3') 2 _) 3 _) hg4 (by simp; omega)
  have hO4 := At.grown (At.other (At.other (unhide hO3') _ (by simp)) _ (by simp)) hg4 (by simp; omega)
  have hG4 := gb_trans (gb_set (gb_set hG3 _ (.inr (by simp))) _ (.inr (by simp))) hg4
  simp at hC4
  clear d0 d1 d2 d3 d4 d5 d6 d7 d8 d9 d10 df
  obtain ⟨d0, d1, d2, d3, d4, d5, d6, d7, d8, d9, d10, df⟩ := At.elv hC4
  obtain ⟨e0, e1, e2, e3, e4, e5, e6, e7, e8, e9, e10, ef⟩ := At.elv hO4
  clear hC4 hO4
  go_wp2_with fail
  refine bodyPost_ret (v := .agg (⟨115, 0, x.2.2.1, x.2.2.2, 0, y.2.2.1, y.2.2.2, 0, 0, 0, 0⟩ : Cm).cells) (by simp [results, Try.results69, go_sem, Cm.cells, e0, e1, e2, e3, e4, e5, e6, e7, e8, e9, e10]) rfl ⟨rfl, ?_, ?_⟩
  · exact Rd.elv (Rd.other (Rd.other hR4 _ (by simp; omega)) _ (by simp; omega)) _ (by omega) _ _ _ _ _ _ _ _ _ _ _
  · exact gb_elv (gb_set (gb_set hG4 _ (.inr (by simp))) _ (.inr (by simp))) _ (by simp) _ _ _ _ _ _ _ _ _ _ _

/-- behind the first byte: set -/
def cmSet (s : ByteArray) (p : Nat) (hv hn : Int) : Nat × Bool × Cm :=
  let v := tb s p false 97 (97 + hn - 1)
  let x := opnd s v.1 v.2.1 hv hn
  let o := opn s x.1 x.2.1
  let y := opnd s o.1 o.2.1 hv hn
  (y.1, y.2.1, ⟨61, v.2.2, x.2.2.1, x.2.2.2, o.2.2, y.2.2.1, y.2.2.2, 0, 0, 0, 0⟩)

set_option maxHeartbeats 2000000 in
theorem takeCommand_set (hR : Rd w b s p bad ht hw hv hn hm cv) (hs : s.size ≤ maxLen) (h0 : 0 ≤ hn) (h1 : hn ≤ 8) (h2 : 1 ≤ hv) (h3 : hv ≤ 256) (hk : pk s p bad = 61) :
    Calls Try.prog 69 #[.pointer (some ⟨b, 0, none⟩)] w fun e w' => e = .returned (.agg (cmSet s (p + 1) hv hn).2.2.cells) ∧ Rd w' b s (cmSet s (p + 1) hv hn).1 (cmSet s (p + 1) hv hn).2.1 ht hw hv hn hm cv ∧ w.grownBy w' (some b) := by
  have ht := tk_pk s p bad (by rw [hk]; omega)
  rw [hk] at ht
  obtain ⟨ht, rfl, _⟩ := ht
  have Ht := hide ht
  have Hk := hide hk
  clear ht hk
  have hbl := At.lt hR
  have hR0 : ∀ o o', Rd ((w.alloc o).alloc o') b s p false ht hw hv hn hm cv := fun o o' => At.alloc (At.alloc hR o) o'
  unfold cmSet
  dsimp only
  generalize hvq : tb s (p + 1) false 97 (97 + hn - 1) = v
  have Hv := hide hvq
  clear hvq
  generalize hxq : opnd s v.1 v.2.1 hv hn = x
  have Hx := hide hxq
  clear hxq
  generalize hoq : opn s x.1 x.2.1 = o
  have Ho := hide hoq
  clear hoq
  generalize hyq : opnd s o.1 o.2.1 hv hn = y
  have Hy := hide hyq
  clear hyq
  have hO0 : ∀ cs o, At ((w.alloc (.cells cs 74)).alloc o) w.heap.size 74 cs := fun cs o => At.alloc (At.new w _ cs) o
  have hC0 : ∀ o cs, At ((w.alloc o).alloc (.cells cs 74)) (w.heap.size + 1) 74 cs := fun o cs => by
    have := At.new (w.alloc o) 74 cs
    simpa using this
  go_enter Try.func69, Try.ntmps69
  go_wp2_with fail
  refine (peek_any (hR0 _ _) hs).mono ?_
  rintro e w' ⟨rfl, n, rfl⟩
  rw [unhide Hk]
  go_wp2_with fail
  refine (take_any (Rd.other (Rd.drewN (hR0 _ _) n) _ (by simp; omega)) hs _).mono ?_
  rintro e w2 ⟨rfl, hR2, hg2⟩
  rw [unhide Ht] at hR2
  have hC2 := At.grown (At.set (At.drewN (hC0 _ _) n) 0 _) hg2 (by simp; omega)
  have hO2 := At.grown (At.other (At.drewN (hO0 _ _) n) _ (by simp)) hg2 (by simp; omega)
  have hG2 := gb_trans (gb_set (gb_drewN (gb_alloc (gb_alloc (gb_refl w (some b)) _) _) n) _ (.inr (by simp))) hg2
  simp at hC2
  have hC2' := hide hC2
  have hO2' := hide hO2
  obtain ⟨d0, d1, d2, d3, d4, d5, d6, d7, d8, d9, d10, df⟩ := At.elv hC2
  clear hC2 hO2
  go_wp2_with fail
  refine (takeVariable_any hR2 hs h0 h1).mono ?_
  rintro e w3 ⟨rfl, hR3, hg3⟩
  rw [unhide Hv] at hR3 ⊢
  have hC3 := At.grown (unhide hC2') hg3 (by simp; omega)
  have hO3 := At.grown (unhide hO2') hg3 (by simp; omega)
  have hG3 := gb_trans hG2 hg3
  clear d0 d1 d2 d3 d4 d5 d6 d7 d8 d9 d10 df
  have hC3' := hide hC3
  have hO3' := hide hO3
  obtain ⟨d0, d1, d2, d3, d4, d5, d6, d7, d8, d9, d10, df⟩ := At.elv hC3
  clear hC3 hO3
  go_wp2_with fail
  refine (takeOperand_any (Rd.other hR3 _ (by simp; omega)) hs h0 h1 h2 h3).mono ?_
  rintro e w4 ⟨rfl, hR4, hg4⟩
  rw [unhide Hx] at hR4 ⊢
  have hC4 := At.grown (At.set (unhide hC3') 1 _) hg4 (by simp; omega)
  have hO4 := At.grown (At.other (unhide hO3') _ (by simp)) hg4 (by simp; omega)
  have hG4 := gb_trans (gb_set hG3 _ (.inr (by simp))) hg4
  simp at hC4
  clear d0 d1 d2 d3 d4 d5 d6 d7 d8 d9 d10 df
  have hC4' := hide hC4
  have hO4' := hide hO4
  obtain ⟨d0, d1, d2, d3, d4, d5, d6, d7, d8, d9, d10, df⟩ := At.elv hC4
  clear hC4 hO4
  go_wp2_with fail
  refine (takeOperation_any (Rd.other (Rd.other hR4 _ (by simp; omega)) _ (by simp; omega)) hs).mono ?_
  rintro e w5 ⟨rfl, hR5, hg5⟩
  rw [unhide Ho] at hR5 ⊢
  have hC5 := At.grown (At.set (At.set (unhide hC4') 2 _) 3 _) hg5 (by simp; omega)
  have hO5 := At.grown (At.other (At.other (unhide hO4') _ (by simp)) _ (by simp)) hg5 (by simp; omega)
  have hG5 := gb_trans (gb_set (gb_set hG4 _ (.inr (by simp))) _ (.inr (by simp))) hg5
  simp at hC5
  clear d0 d1 d2 d3 d4 d5 d6 d7 d8 d9 d10 df
  have hC5' := hide hC5
  have hO5' := hide hO5
  obtain ⟨d0, d1, d2, d3, d4, d5, d6, d7, d8, d9, d10, df⟩ := At.elv hC5
  clear hC5 hO5
  go_wp2_with fail
  refine (takeOperand_any (Rd.other hR5 _ (by simp; omega)) hs h0 h1 h2 h3).mono ?_
  rintro e w6 ⟨rfl, hR6, hg6⟩
  rw [unhide Hy] at hR6 ⊢
  have hC6 := At.grown (At.set (unhide hC5') 4 _) hg6 (by simp; omega)
  have hO6 := At.grown (At.other (unhide hO5') _ (by simp)) hg6 (by simp; omega)
  have hG6 := gb_trans (gb_set hG5 _ (.inr (by simp))) hg6
  simp at hC6
  clear d0 d1 d2 d3 d4 d5 d6 d7 d8 d9 d10 df
  obtain ⟨d0, d1, d2, d3, d4, d5, d6, d7, d8, d9, d10, df⟩ := At.elv hC6
  obtain ⟨e0, e1, e2, e3, e4, e5, e6, e7, e8, e9, e10, ef⟩ := At.elv hO6
  clear hC6 hO6
  go_wp2_with fail
  refine bodyPost_ret (v := .agg (⟨61, v.2.2, x.2.2.1, x.2.2.2, o.2.2, y.2.2.1, y.2.2.2, 0, 0, 0, 0⟩ : Cm).cells) (by simp [results, Try.results69, go_sem, Cm.cells, e0, e1, e2, e3, e4, e5, e6, e7, e8, e9, e10]) rfl ⟨rfl, ?_, ?_⟩
  · exact Rd.elv (Rd.other (Rd.other hR6 _ (by simp; omega)) _ (by simp; omega)) _ (by omega) _ _ _ _ _ _ _ _ _ _ _
  · exact gb_elv (gb_set (gb_set hG6 _ (.inr (by simp))) _ (.inr (by simp))) _ (by simp) _ _ _ _ _ _ _ _ _ _ _

/-- behind the first byte: zero -/
def cmZero (s : ByteArray) (p : Nat) (hv hn : Int) : Nat × Bool × Cm :=
  let x := opnd s p false hv hn
  let q := nmb s x.1 x.2.1
  (q.1, q.2.1, ⟨122, 0, x.2.2.1, x.2.2.2, 0, false, 0, 0, q.2.2, 0, 0⟩)

set_option maxHeartbeats 2000000 in
theorem takeCommand_zero (hR : Rd w b s p bad ht hw hv hn hm cv) (hs : s.size ≤ maxLen) (h0 : 0 ≤ hn) (h1 : hn ≤ 8) (h2 : 1 ≤ hv) (h3 : hv ≤ 256) (hk : pk s p bad = 122) :
    Calls Try.prog 69 #[.pointer (some ⟨b, 0, none⟩)] w fun e w' => e = .returned (.agg (cmZero s (p + 1) hv hn).2.2.cells) ∧ Rd w' b s (cmZero s (p + 1) hv hn).1 (cmZero s (p + 1) hv hn).2.1 ht hw hv hn hm cv ∧ w.grownBy w' (some b) := by
  have ht := tk_pk s p bad (by rw [hk]; omega)
  rw [hk] at ht
  obtain ⟨ht, rfl, _⟩ := ht
  have Ht := hide ht
  have Hk := hide hk
  clear ht hk
  have hbl := At.lt hR
  have hR0 : ∀ o o', Rd ((w.alloc o).alloc o') b s p false ht hw hv hn hm cv := fun o o' => At.alloc (At.alloc hR o) o'
  unfold cmZero
  dsimp only
  generalize hxq : opnd s (p + 1) false hv hn = x
  have Hx := hide hxq
  clear hxq
  generalize hqq : nmb s x.1 x.2.1 = q
  have Hq := hide hqq
  clear hqq
  have hO0 : ∀ cs o, At ((w.alloc (.cells cs 74)).alloc o) w.heap.size 74 cs := fun cs o => At.alloc (At.new w _ cs) o
  have hC0 : ∀ o cs, At ((w.alloc o).alloc (.cells cs 74)) (w.heap.size + 1) 74 cs := fun o cs => by
    have := At.new (w.alloc o) 74 cs
    simpa using this
  go_enter Try.func69, Try.ntmps69
  go_wp2_with fail
  refine (peek_any (hR0 _ _) hs).mono ?_
  rintro e w' ⟨rfl, n, rfl⟩
  rw [unhide Hk]
  go_wp2_with fail
  refine (take_any (Rd.other (Rd.drewN (hR0 _ _) n) _ (by simp; omega)) hs _).mono ?_
  rintro e w2 ⟨rfl, hR2, hg2⟩
  rw [unhide Ht] at hR2
  have hC2 := At.grown (At.set (At.drewN (hC0 _ _) n) 0 _) hg2 (by simp; omega)
  have hO2 := At.grown (At.other (At.drewN (hO0 _ _) n) _ (by simp)) hg2 (by simp; omega)
  have hG2 := gb_trans (gb_set (gb_drewN (gb_alloc (gb_alloc (gb_refl w (some b)) _) _) n) _ (.inr (by simp))) hg2
  simp at hC2
  have hC2' := hide hC2
  have hO2' := hide hO2
  obtain ⟨d0, d1, d2, d3, d4, d5, d6, d7, d8, d9, d10, df⟩ := At.elv hC2
  clear hC2 hO2
  go_wp2_with fail
  refine (takeOperand_any hR2 hs h0 h1 h2 h3).mono ?_
  rintro e w3 ⟨rfl, hR3, hg3⟩
  rw [unhide Hx] at hR3 ⊢
  have hC3 := At.grown (unhide hC2') hg3 (by simp; omega)
  have hO3 := At.grown (unhide hO2') hg3 (by simp; omega)
  have hG3 := gb_trans hG2 hg3
  clear d0 d1 d2 d3 d4 d5 d6 d7 d8 d9 d10 df
  have hC3' := hide hC3
  have hO3' := hide hO3
  obtain ⟨d0, d1, d2, d3, d4, d5, d6, d7, d8, d9, d10, df⟩ := At.elv hC3
  clear hC3 hO3
  go_wp2_with fail
  refine (takeNumber_any (Rd.other (Rd.other hR3 _ (by simp; omega)) _ (by simp; omega)) hs).mono ?_
  rintro e w4 ⟨rfl, hR4, hg4⟩
  rw [unhide Hq] at hR4 ⊢
  have hC4 := At.grown (At.set (At.set (unhide hC3') 2 _) 3 _) hg4 (by simp; omega)
  have hO4 := At.grown (At.other (At.other (unhide hO3') _ (by simp)) _ (by simp)) hg4 (by simp; omega)
  have hG4 := gb_trans (gb_set (gb_set hG3 _ (.inr (by simp))) _ (.inr (by simp))) hg4
  simp at hC4
  clear d0 d1 d2 d3 d4 d5 d6 d7 d8 d9 d10 df
  obtain ⟨d0, d1, d2, d3, d4, d5, d6, d7, d8, d9, d10, df⟩ := At.elv hC4
  obtain ⟨e0, e1, e2, e3, e4, e5, e6, e7, e8, e9, e10, ef⟩ := At.elv hO4
  clear hC4 hO4
  go_wp2_with fail
  refine bodyPost_ret (v := .agg (⟨122, 0, x.2.2.1, x.2.2.2, 0, false, 0, 0, q.2.2, 0, 0⟩ : Cm).cells) (by simp [results, Try.results69, go_sem, Cm.cells, e0, e1, e2, e3, e4, e5, e6, e7, e8, e9, e10]) rfl ⟨rfl, ?_, ?_⟩
  · exact Rd.elv (Rd.other hR4 _ (by simp; omega)) _ (by omega) _ _ _ _ _ _ _ _ _ _ _
  · exact gb_elv (gb_set hG4 _ (.inr (by simp))) _ (by simp) _ _ _ _ _ _ _ _ _ _ _

/-- behind the first byte: jump -/
def cmJump (s : ByteArray) (p : Nat) (_hv _hn : Int) : Nat × Bool × Cm :=
  let q := nmb s p false
  (q.1, q.2.1, ⟨106, 0, false, 0, 0, false, 0, q.2.2, 0, 0, 0⟩)

set_option maxHeartbeats 2000000 in
theorem takeCommand_jump (hR : Rd w b s p bad ht hw hv hn hm cv) (hs : s.size ≤ maxLen) (_h0 : 0 ≤ hn) (_h1 : hn ≤ 8) (_h2 : 1 ≤ hv) (_h3 : hv ≤ 256) (hk : pk s p bad = 106) :
    Calls Try.prog 69 #[.pointer (some ⟨b, 0, none⟩)] w fun e w' => e = .returned (.agg (cmJump s (p + 1) hv hn).2.2.cells) ∧ Rd w' b s (cmJump s (p + 1) hv hn).1 (cmJump s (p + 1) hv hn).2.1 ht hw hv hn hm cv ∧ w.grownBy w' (some b) := by
  have ht := tk_pk s p bad (by rw [hk]; omega)
  rw [hk] at ht
  obtain ⟨ht, rfl, _⟩ := ht
  have Ht := hide ht
  have Hk := hide hk
  clear ht hk
  have hbl := At.lt hR
  have hR0 : ∀ o o', Rd ((w.alloc o).alloc o') b s p false ht hw hv hn hm cv := fun o o' => At.alloc (At.alloc hR o) o'
  unfold cmJump
  dsimp only
  generalize hqq : nmb s (p + 1) false = q
  have Hq := hide hqq
  clear hqq
  have hO0 : ∀ cs o, At ((w.alloc (.cells cs 74)).alloc o) w.heap.size 74 cs := fun cs o => At.alloc (At.new w _ cs) o
  have hC0 : ∀ o cs, At ((w.alloc o).alloc (.cells cs 74)) (w.heap.size + 1) 74 cs := fun o cs => by
    have := At.new (w.alloc o) 74 cs
    simpa using this
  go_enter Try.func69, Try.ntmps69
  go_wp2_with fail
  refine (peek_any (hR0 _ _) hs).mono ?_
  rintro e w' ⟨rfl, n, rfl⟩
  rw [unhide Hk]
  go_wp2_with fail
  refine (take_any (Rd.other (Rd.drewN (hR0 _ _) n) _ (by simp; omega)) hs _).mono ?_
  rintro e w2 ⟨rfl, hR2, hg2⟩
  rw [unhide Ht] at hR2
  have hC2 := At.grown (At.set (At.drewN (hC0 _ _) n) 0 _) hg2 (by simp; omega)
  have hO2 := At.grown (At.other (At.drewN (hO0 _ _) n) _ (by simp)) hg2 (by simp; omega)
  have hG2 := gb_trans (gb_set (gb_drewN (gb_alloc (gb_alloc (gb_refl w (some b)) _) _) n) _ (.inr (by simp))) hg2
  simp at hC2
  have hC2' := hide hC2
  have hO2' := hide hO2
  obtain ⟨d0, d1, d2, d3, d4, d5, d6, d7, d8, d9, d10, df⟩ := At.elv hC2
  clear hC2 hO2
  go_wp2_with fail
  refine (takeNumber_any hR2 hs).mono ?_
  rintro e w3 ⟨rfl, hR3, hg3⟩
  rw [unhide Hq] at hR3 ⊢
  have hC3 := At.grown (unhide hC2') hg3 (by simp; omega)
  have hO3 := At.grown (unhide hO2') hg3 (by simp; omega)
  have hG3 := gb_trans hG2 hg3
  clear d0 d1 d2 d3 d4 d5 d6 d7 d8 d9 d10 df
  obtain ⟨d0, d1, d2, d3, d4, d5, d6, d7, d8, d9, d10, df⟩ := At.elv hC3
  obtain ⟨e0, e1, e2, e3, e4, e5, e6, e7, e8, e9, e10, ef⟩ := At.elv hO3
  clear hC3 hO3
  go_wp2_with fail
  refine bodyPost_ret (v := .agg (⟨106, 0, false, 0, 0, false, 0, q.2.2, 0, 0, 0⟩ : Cm).cells) (by simp [results, Try.results69, go_sem, Cm.cells, e0, e1, e2, e3, e4, e5, e6, e7, e8, e9, e10]) rfl ⟨rfl, ?_, ?_⟩
  · exact Rd.elv (Rd.other hR3 _ (by simp; omega)) _ (by omega) _ _ _ _ _ _ _ _ _ _ _
  · exact gb_elv (gb_set hG3 _ (.inr (by simp))) _ (by simp) _ _ _ _ _ _ _ _ _ _ _

/-- behind the first byte: end -/
def cmEnd (_s : ByteArray) (p : Nat) (_hv _hn : Int) : Nat × Bool × Cm :=
  (p, false, ⟨104, 0, false, 0, 0, false, 0, 0, 0, 0, 0⟩)

set_option maxHeartbeats 2000000 in
theorem takeCommand_end (hR : Rd w b s p bad ht hw hv hn hm cv) (hs : s.size ≤ maxLen) (_h0 : 0 ≤ hn) (_h1 : hn ≤ 8) (_h2 : 1 ≤ hv) (_h3 : hv ≤ 256) (hk : pk s p bad = 104) :
    Calls Try.prog 69 #[.pointer (some ⟨b, 0, none⟩)] w fun e w' => e = .returned (.agg (cmEnd s (p + 1) hv hn).2.2.cells) ∧ Rd w' b s (cmEnd s (p + 1) hv hn).1 (cmEnd s (p + 1) hv hn).2.1 ht hw hv hn hm cv ∧ w.grownBy w' (some b) := by
  have ht := tk_pk s p bad (by rw [hk]; omega)
  rw [hk] at ht
  obtain ⟨ht, rfl, _⟩ := ht
  have Ht := hide ht
  have Hk := hide hk
  clear ht hk
  have hbl := At.lt hR
  have hR0 : ∀ o o', Rd ((w.alloc o).alloc o') b s p false ht hw hv hn hm cv := fun o o' => At.alloc (At.alloc hR o) o'
  unfold cmEnd
  dsimp only
  have hO0 : ∀ cs o, At ((w.alloc (.cells cs 74)).alloc o) w.heap.size 74 cs := fun cs o => At.alloc (At.new w _ cs) o
  have hC0 : ∀ o cs, At ((w.alloc o).alloc (.cells cs 74)) (w.heap.size + 1) 74 cs := fun o cs => by
    have := At.new (w.alloc o) 74 cs
    simpa using this
  go_enter Try.func69, Try.ntmps69
  go_wp2_with fail
  refine (peek_any (hR0 _ _) hs).mono ?_
  rintro e w' ⟨rfl, n, rfl⟩
  rw [unhide Hk]
  go_wp2_with fail
  refine (take_any (Rd.other (Rd.drewN (hR0 _ _) n) _ (by simp; omega)) hs _).mono ?_
  rintro e w2 ⟨rfl, hR2, hg2⟩
  rw [unhide Ht] at hR2
  have hC2 := At.grown (At.set (At.drewN (hC0 _ _) n) 0 _) hg2 (by simp; omega)
  have hO2 := At.grown (At.other (At.drewN (hO0 _ _) n) _ (by simp)) hg2 (by simp; omega)
  have hG2 := gb_trans (gb_set (gb_drewN (gb_alloc (gb_alloc (gb_refl w (some b)) _) _) n) _ (.inr (by simp))) hg2
  simp at hC2
  obtain ⟨d0, d1, d2, d3, d4, d5, d6, d7, d8, d9, d10, df⟩ := At.elv hC2
  obtain ⟨e0, e1, e2, e3, e4, e5, e6, e7, e8, e9, e10, ef⟩ := At.elv hO2
  clear hC2 hO2
  go_wp2_with fail
  refine bodyPost_ret (v := .agg (⟨104, 0, false, 0, 0, false, 0, 0, 0, 0, 0⟩ : Cm).cells) (by simp [results, Try.results69, go_sem, Cm.cells, e0, e1, e2, e3, e4, e5, e6, e7, e8, e9, e10]) rfl ⟨rfl, ?_, ?_⟩
  · exact Rd.elv hR2 _ (by omega) _ _ _ _ _ _ _ _ _ _ _
  · exact gb_elv hG2 _ (by simp) _ _ _ _ _ _ _ _ _ _ _

end
end Go.Proofs.Ytnkbfdbbcaffmab
/-
  The machine in memory; see, value, Divides.
-/
namespace Go.Proofs.Ytnkbfdbbcaffmab
open Go.RowKit

theorem Try.infoByte : (Try.prog.info? 5).map (fun i => (i.zero, i.size, i.bytes)) = some (some (.int .u8 0), 1, 1) := by kernel_rfl

def bytesV (sn : List Int) : List Value := sn.map fun c => .int .u8 c
def intsV (σ : List Int) : Array Value := (σ.map fun c => Value.int .i64 c).toArray

/-- The machine in block b, its state in block gs. -/
def Mac (w : World) (b gs : Nat) (W V n m view : Int) (σ : List Int) (sv : Value) (steps : ByteArray × Value) (tr : Bool) : Prop :=
  At w b 97 #[.string steps.1, .int .i64 W, .int .i64 V, .int .i64 n, .int .i64 m, .int .i64 view, .slice (some ⟨gs, 0, none⟩) σ.length σ.length, sv, steps.2, .bool tr] ∧ At w gs 3 (intsV σ) ∧ gs < b

/-- What is seen so far, in a row of its own. -/
def Sn (w : World) (b : Nat) (sv : Value) (sn : List Int) : Prop := w.ownsRow (b + 1) 5 1 sv sn.length (bytesV sn)

/-- What a method of the machine may turn: its own block, the state's, and rows of bytes from gs on. -/
structure Fr (gs b : Nat) (w w' : World) : Prop where
  below : Below gs w w'
  keep : ∀ k cs t f, w.heap[k]? = some (.cells cs t f) → t ≠ 5 → k ≠ gs → k ≠ b → w'.heap[k]? = some (.cells cs t f)

section
variable {w w1 w2 : World} {b gs : Nat} {W V n m view : Int} {σ : List Int} {sv : Value} {sn : List Int} {steps : ByteArray × Value} {tr : Bool}
theorem Fr.refl (gs b : Nat) (w : World) : Fr gs b w w := ⟨Below.refl _ _, fun _ _ _ _ h _ _ _ => h⟩
theorem Fr.trans (h : Fr gs b w w1) (k : Fr gs b w1 w2) : Fr gs b w w2 := ⟨h.below.trans k.below, fun i cs t f a b' c d => k.keep i cs t f (h.keep i cs t f a b' c d) b' c d⟩
theorem Fr.drewN (h : Fr gs b w w1) (j : Nat) : Fr gs b w (w1.drewN j) := ⟨below_drewN h.below j, h.keep⟩
theorem Fr.alloc (h : Fr gs b w w1) (hg : gs ≤ w1.heap.size) (o : Obj) : Fr gs b w (w1.alloc o) := ⟨h.below.alloc hg o, fun i cs t f a b' c d => by
  have hk := h.keep i cs t f a b' c d
  have hl : i < w1.heap.size := (Array.getElem?_eq_some_iff.1 hk).1
  rw [Below.heap_alloc _ _ _ hl]; exact hk⟩
theorem Fr.set (h : Fr gs b w w1) {a : Addr} (v : Value) (hg : gs ≤ a.block) (ha : a.block = gs ∨ a.block = b ∨ w.heap.size ≤ a.block) : Fr gs b w (w1.setCell a v) := ⟨h.below.setCell hg v, fun i cs t f x b' c d => by
  have hk := h.keep i cs t f x b' c d
  have hl : i < w.heap.size := (Array.getElem?_eq_some_iff.1 x).1
  rw [Below.heap_setCell _ _ _ _ (by rcases ha with ha | ha | ha <;> omega)]; exact hk⟩
theorem Fr.at_ (h : Fr gs b w w1) {k : Nat} {t : TypeId} {cs : Array Value} (hA : At w k t cs) (ht : t ≠ 5) (h1 : k ≠ gs) (h2 : k ≠ b) : At w1 k t cs := h.keep k cs t _ hA ht h1 h2

theorem Mac.drewN (h : Mac w b gs W V n m view σ sv steps tr) (j : Nat) : Mac (w.drewN j) b gs W V n m view σ sv steps tr := h
theorem Mac.alloc (h : Mac w b gs W V n m view σ sv steps tr) (o : Obj) : Mac (w.alloc o) b gs W V n m view σ sv steps tr := ⟨h.1.alloc o, h.2.1.alloc o, h.2.2⟩
theorem Mac.other (h : Mac w b gs W V n m view σ sv steps tr) {a : Addr} (v : Value) (h1 : a.block ≠ b) (h2 : a.block ≠ gs) : Mac (w.setCell a v) b gs W V n m view σ sv steps tr := ⟨h.1.other v h1, h.2.1.other v h2, h.2.2⟩
theorem At.mten {c : Nat} {t : TypeId} {v0 v1 v2 v3 v4 v5 v6 v7 v8 v9 : Value} (h : At w c t #[v0, v1, v2, v3, v4, v5, v6, v7, v8, v9]) :
    w.cell? ⟨c, 1, none⟩ = some v1 ∧ w.cell? ⟨c, 2, none⟩ = some v2 ∧ w.cell? ⟨c, 3, none⟩ = some v3 ∧ w.cell? ⟨c, 4, none⟩ = some v4 ∧ w.cell? ⟨c, 5, none⟩ = some v5 ∧ w.cell? ⟨c, 6, none⟩ = some v6 ∧ w.cell? ⟨c, 7, none⟩ = some v7 ∧ w.cell? ⟨c, 8, none⟩ = some v8 ∧ w.cell? ⟨c, 9, none⟩ = some v9 ∧ w.cell? ⟨c, 0, none⟩ = some v0 ∧ (∀ j, w.frozen? ⟨c, j, none⟩ = false) := by
  refine ⟨?_, ?_, ?_, ?_, ?_, ?_, ?_, ?_, ?_, ?_, fun j => h.frozen j⟩ <;> (rw [h.cell]; rfl)
theorem Mac.nine (h : Mac w b gs W V n m view σ sv steps tr) :
    w.cell? ⟨b, 1, none⟩ = some (.int .i64 W) ∧ w.cell? ⟨b, 2, none⟩ = some (.int .i64 V) ∧ w.cell? ⟨b, 3, none⟩ = some (.int .i64 n) ∧ w.cell? ⟨b, 4, none⟩ = some (.int .i64 m) ∧ w.cell? ⟨b, 5, none⟩ = some (.int .i64 view) ∧ w.cell? ⟨b, 6, none⟩ = some (.slice (some ⟨gs, 0, none⟩) σ.length σ.length) ∧ w.cell? ⟨b, 7, none⟩ = some sv ∧ w.cell? ⟨b, 8, none⟩ = some steps.2 ∧ w.cell? ⟨b, 9, none⟩ = some (.bool tr) ∧ w.cell? ⟨b, 0, none⟩ = some (.string steps.1) ∧ (∀ j, w.frozen? ⟨b, j, none⟩ = false) := At.mten h.1
theorem Mac.cellS (h : Mac w b gs W V n m view σ sv steps tr) (i : Nat) (hi : i < σ.length) : w.cell? ⟨gs, i, none⟩ = some (.int .i64 (σ.getD i 0)) := by
  rw [h.2.1.cell i]
  simp [intsV, List.getD, hi]
theorem Mac.frozenS (h : Mac w b gs W V n m view σ sv steps tr) (i : Nat) : w.frozen? ⟨gs, i, none⟩ = false := h.2.1.frozen i
theorem Mac.setS (h : Mac w b gs W V n m view σ sv steps tr) (i : Nat) (v : Int) : Mac (w.setCell ⟨gs, i, none⟩ (.int .i64 v)) b gs W V n m view (σ.set i v) sv steps tr := by
  refine ⟨?_, ?_, h.2.2⟩
  · rw [List.length_set]; exact h.1.other _ (by show gs ≠ b; have := h.2.2; omega)
  · have := h.2.1.set i (.int .i64 v)
    have e : (intsV σ).setIfInBounds i (.int .i64 v) = intsV (σ.set i v) := by simp [intsV, List.map_set]
    rw [e] at this; exact this
theorem Mac.setSeen (h : Mac w b gs W V n m view σ sv steps tr) (v : Value) : Mac (w.setCell ⟨b, 7, none⟩ v) b gs W V n m view σ v steps tr := by
  refine ⟨?_, h.2.1.other _ (by show b ≠ gs; have := h.2.2; omega), h.2.2⟩
  have := h.1.set 7 v; simpa using this
theorem Mac.setPath (h : Mac w b gs W V n m view σ sv steps tr) (v : Value) : Mac (w.setCell ⟨b, 8, none⟩ v) b gs W V n m view σ sv (steps.1, v) tr := by
  refine ⟨?_, h.2.1.other _ (by show b ≠ gs; have := h.2.2; omega), h.2.2⟩
  have := h.1.set 8 v; simpa using this
theorem Mac.setTrap (h : Mac w b gs W V n m view σ sv steps tr) : Mac (w.setCell ⟨b, 9, none⟩ (.bool true)) b gs W V n m view σ sv steps true := by
  refine ⟨?_, h.2.1.other _ (by show b ≠ gs; have := h.2.2; omega), h.2.2⟩
  have := h.1.set 9 (.bool true); simpa using this
theorem Sn.drewN (h : Sn w b sv sn) (j : Nat) : Sn (w.drewN j) b sv sn := h
theorem Sn.alloc (h : Sn w b sv sn) (o : Obj) : Sn (w.alloc o) b sv sn := World.ownsRow.alloc h o
theorem Sn.set (h : Sn w b sv sn) {a : Addr} (v : Value) (ha : a.block ≤ b) : Sn (w.setCell a v) b sv sn := ownsRow_setCell_below h (Nat.lt_succ_of_le ha) v
theorem Sn.shape (h : Sn w b sv sn) : ∃ ao cap, sv = .slice ao sn.length cap := by
  rcases h.2 with ⟨h', h0⟩ | ⟨g, cap, cur, h', hb, _⟩
  · exact ⟨none, 0, by rw [h', h0]⟩
  · exact ⟨_, cap, h'⟩
/-- A block of another type than bytes is none of the row's. -/
theorem Sn.setOther (h : Sn w b sv sn) {k : Nat} {t : TypeId} {cs : Array Value} (hA : At w k t cs) (ht : t ≠ 5) (j : Nat) (v : Value) : Sn (w.setCell ⟨k, j, none⟩ v) b sv sn := by
  obtain ⟨h1, h2⟩ := h
  refine ⟨h1, ?_⟩
  rcases h2 with h2 | ⟨g, cap, cur, e1, e2, e3, e4⟩
  · exact .inl h2
  · refine .inr ⟨g, cap, cur, e1, e2, ?_, e4⟩
    rw [Below.heap_setCell _ _ _ _ (by
      intro e
      simp at e
      subst e
      unfold At at hA
      rw [hA] at e3
      simp at e3
      exact ht e3.2)]
    exact e3

theorem sn_post {ao : Option Addr} {cap : Nat} (hM : Mac w b gs W V n m view σ (.slice ao sn.length cap) steps tr) (hS : Sn w b (.slice ao sn.length cap) sn) (c : Int) (o : Obj) {v' : Value} {w' : World}
    (h1 : w'.ownsRow (b + 1) 5 1 v' (sn.length + 1) (bytesV sn ++ [.int .u8 c])) (h2 : (w.alloc o).grownBy w' (Value.slice ao sn.length cap).ownBlock) :
    Mac w' b gs W V n m view σ (.slice ao sn.length cap) steps tr ∧ Sn w' b v' (sn ++ [c]) ∧ Fr gs b w w' ∧ ∃ g' cap', v' = .slice (some ⟨g', 0, none⟩) (sn.length + 1) cap' := by
  have hb := hM.1.lt
  have hg := hM.2.2
  have hown : ∀ k, (Value.slice ao sn.length cap).ownBlock = some k → b + 1 ≤ k ∧ k < w.heap.size := World.ownsRow.lt hS
  have ne1 : some b ≠ (Value.slice ao sn.length cap).ownBlock := fun e => by have := hown b e.symm; omega
  have ne2 : some gs ≠ (Value.slice ao sn.length cap).ownBlock := fun e => by have := hown gs e.symm; omega
  refine ⟨⟨(hM.1.alloc o).grown h2 ne1, (hM.2.1.alloc o).grown h2 ne2, hg⟩, ?_, ⟨?_, ?_⟩, ?_⟩
  · unfold Sn
    rw [List.length_append]
    have e : bytesV (sn ++ [c]) = bytesV sn ++ [.int .u8 c] := by simp [bytesV]
    rw [e]; exact h1
  · refine ((Below.refl gs w).alloc (by omega) o).trans ?_
    exact ⟨h2.os, h2.tape, h2.output, h2.size, fun k hk => h2.block k (by simp; omega) (fun e => by have := hown k e.symm; omega)⟩
  · intro k cs t f hk ht _ _
    have hl : k < w.heap.size := (Array.getElem?_eq_some_iff.1 hk).1
    rw [h2.block k (by simp; omega) (fun e => by
      rcases hS.2 with ⟨e0, _⟩ | ⟨g, cap', cur, e1, _, e3, _⟩
      · simp at e0; rw [e0.1] at e; cases e
      · rw [e1] at e
        simp [Value.ownBlock] at e
        subst e
        rw [hk] at e3
        simp at e3
        exact ht e3.2.1), Below.heap_alloc _ _ _ hl]
    exact hk
  · rcases h1.2 with ⟨_, h3⟩ | ⟨g', cap', cur, h4, _⟩
    · omega
    · exact ⟨g', cap', h4⟩

set_option maxHeartbeats 1000000 in
theorem see_any (hM : Mac w b gs W V n m view σ sv steps tr) (hS : Sn w b sv sn) (hl : sn.length ≤ 100000) (c : Int) :
    Calls Try.prog 113 #[.pointer (some ⟨b, 0, none⟩), .int .u8 c] w fun e w' => e = .returned (.tuple #[]) ∧ ∃ sv', Mac w' b gs W V n m view σ sv' steps tr ∧ Sn w' b sv' (sn ++ [c]) ∧ Fr gs b w w' := by
  obtain ⟨i0, hi0, hz0, hz1, hz2⟩ := info_parts Try.infoByte
  obtain ⟨ao, cap, rfl⟩ := hS.shape
  obtain ⟨m0, m1, m2, m3, m4, m5, m6, m7, m8, mt, mf⟩ := hM.nine
  have hbl : b < w.heap.size := hM.1.lt
  go_enter Try.func113, Try.ntmps113
  go_wp2_with (at_builtin; refine wpList_append_own _ rfl (.tmp 8) (.tmp 10) 51 rfl (b + 1) 5 i0 (.int .u8 0) 1 1 Try.underlying51 hi0 hz0 hz1 hz2 rfl (by decide) (.slice ao sn.length cap) sn.length (bytesV sn) rfl ?_ ⟨w.heap.size, 0, none⟩ 1 1 [.int .u8 c] rfl rfl ?_ ?_ ?_ ?_ ?_ ?_)
  · exact World.ownsRow.alloc hS _
  · exact cell_one_new _ _ _
  · simp [Value.oneCell']
  · unfold maxLen; omega
  · omega
  · simp; omega
  · intro v' w' h1 h2 _
    obtain ⟨hM', hS', hF, g', cap', rfl⟩ := sn_post hM hS c _ h1 h2
    clear m0 m1 m2 m3 m4 m5 m6 m7 m8 mt mf h1 h2
    obtain ⟨m0, m1, m2, m3, m4, m5, m6, m7, m8, mt, mf⟩ := hM'.nine
    go_wp2_with fail
    go_end0
    exact ⟨rfl, _, hM'.setSeen _, hS'.set _ (Nat.le_refl _), hF.set _ (Nat.le_of_lt hM.2.2) (.inr (.inl rfl))⟩

set_option maxHeartbeats 1000000 in
theorem mvalue_any (hM : Mac w b gs W V n m view σ sv steps tr) (nm : Bool) (x : Nat) (hx : nm = true → x < σ.length) :
    Calls Try.prog 108 #[.pointer (some ⟨b, 0, none⟩), .agg #[.bool nm, .int .i64 x]] w fun e w' => e = .returned (.int .i64 (if nm then σ.getD x 0 else x)) ∧ Fr gs b w w' ∧ w.grownBy w' none := by
  obtain ⟨m0, m1, m2, m3, m4, m5, m6, m7, m8, mt, mf⟩ := hM.nine
  have hbl : b < w.heap.size := hM.1.lt
  have hgl := hM.2.2
  cases nm with
  | false =>
    go_enter Try.func108, Try.ntmps108
    go_wp2_with fail
    go_ret
    exact ⟨rfl, (Fr.refl _ _ _).alloc (by omega) _, gb_alloc (gb_refl _ _) _⟩
  | true =>
    have hx' := hx rfl
    have c := hM.cellS x hx'
    have hgs := hM.2.1.lt
    go_enter Try.func108, Try.ntmps108
    go_wp2_with fail
    go_quiet (fail)
    go_wp2_with fail
    go_ret
    exact ⟨rfl, ((Fr.refl _ _ _).alloc (by omega) _).drewN _, gb_drewN (gb_alloc (gb_refl _ _) _) _⟩

def isDiv (c : Int) : Bool := c == 47 || c == 37

set_option maxHeartbeats 400000 in
theorem divides_any (c : Int) (w : World) :
    Calls Try.prog 109 #[.int .u8 c] w fun e w' => e = .returned (.bool (isDiv c)) ∧ w' = w := by
  generalize hr : isDiv c = r
  have Hr := hide hr
  clear hr
  cases h1 : (c == 47) with
  | true =>
    go_enter Try.func109, Try.ntmps109
    go_wp2_with fail
    go_ret
    exact ⟨ret_bool (by rw [← unhide Hr, isDiv, h1]; rfl), rfl⟩
  | false =>
    go_enter Try.func109, Try.ntmps109
    go_wp2_with fail
    go_ret
    exact ⟨ret_bool (by rw [← unhide Hr, isDiv, h1]; rfl), rfl⟩
end
end Go.Proofs.Ytnkbfdbbcaffmab
