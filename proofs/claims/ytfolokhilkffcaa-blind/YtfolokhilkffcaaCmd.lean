/-
  takeCommand, kind by kind.
-/
import Derived.Test.YtfolokhilkffcaaChars
namespace Go.Proofs.Ytfolokhilkffcaa
open Go.RowKit

/-- A command, as it is held. -/
structure Cm where
  kind : Int
  var : Int
  xn : Bool
  xv : Int
  op : Int
  yn : Bool
  yv : Int
  yes : Int
  no : Int

def Cm.cells (c : Cm) : Array Value := #[.int .u8 c.kind, .int .i64 c.var, .bool c.xn, .int .i64 c.xv, .int .u8 c.op, .bool c.yn, .int .i64 c.yv, .int .i64 c.yes, .int .i64 c.no]

section
variable {w : World} {b : Nat} {s : ByteArray} {p : Nat} {bad : Bool} {hw hv hn hm : Int} {cv : Value}

theorem Rd.other (h : Rd w b s p bad hw hv hn hm cv) {a : Addr} (v : Value) (ha : a.block ≠ b) : Rd (w.setCell a v) b s p bad hw hv hn hm cv := At.other h v ha
theorem Rd.alloc (h : Rd w b s p bad hw hv hn hm cv) (o : Obj) : Rd (w.alloc o) b s p bad hw hv hn hm cv := At.alloc h o
theorem At.nine {c : Nat} {t : TypeId} {v0 v1 v2 v3 v4 v5 v6 v7 v8 : Value} (h : At w c t #[v0, v1, v2, v3, v4, v5, v6, v7, v8]) :
    w.cell? ⟨c, 0, none⟩ = some v0 ∧ w.cell? ⟨c, 1, none⟩ = some v1 ∧ w.cell? ⟨c, 2, none⟩ = some v2 ∧ w.cell? ⟨c, 3, none⟩ = some v3 ∧ w.cell? ⟨c, 4, none⟩ = some v4 ∧ w.cell? ⟨c, 5, none⟩ = some v5 ∧ w.cell? ⟨c, 6, none⟩ = some v6 ∧ w.cell? ⟨c, 7, none⟩ = some v7 ∧ w.cell? ⟨c, 8, none⟩ = some v8 ∧ (∀ j, w.frozen? ⟨c, j, none⟩ = false) := by
  refine ⟨?_, ?_, ?_, ?_, ?_, ?_, ?_, ?_, ?_, fun j => h.frozen j⟩ <;> (rw [h.cell]; rfl)
theorem At.set9 {c : Nat} {t : TypeId} {v0 v1 v2 v3 v4 v5 v6 v7 v8 : Value} (h : At w c t #[v0, v1, v2, v3, v4, v5, v6, v7, v8]) (j : Nat) (v : Value) :
    At (w.setCell ⟨c, j, none⟩ v) c t (#[v0, v1, v2, v3, v4, v5, v6, v7, v8].setIfInBounds j v) := h.set j v
/-- All nine cells of a block written over: the other blocks are as they were. -/
theorem gb_nine {w1 w2 : World} {row : Option Nat} (h : w1.grownBy w2 row) (c : Nat) (hc : w1.heap.size ≤ c) (v0 v1 v2 v3 v4 v5 v6 v7 v8 : Value) :
    w1.grownBy (((((((((w2.setCell ⟨c, 0, none⟩ v0).setCell ⟨c, 1, none⟩ v1).setCell ⟨c, 2, none⟩ v2).setCell ⟨c, 3, none⟩ v3).setCell ⟨c, 4, none⟩ v4).setCell ⟨c, 5, none⟩ v5).setCell ⟨c, 6, none⟩ v6).setCell ⟨c, 7, none⟩ v7).setCell ⟨c, 8, none⟩ v8) row :=
  gb_set (gb_set (gb_set (gb_set (gb_set (gb_set (gb_set (gb_set (gb_set h _ (.inr hc)) _ (.inr hc)) _ (.inr hc)) _ (.inr hc)) _ (.inr hc)) _ (.inr hc)) _ (.inr hc)) _ (.inr hc)) _ (.inr hc)
theorem Rd.nine (h : Rd w b s p bad hw hv hn hm cv) (c : Nat) (hc : c ≠ b) (v0 v1 v2 v3 v4 v5 v6 v7 v8 : Value) :
    Rd (((((((((w.setCell ⟨c, 0, none⟩ v0).setCell ⟨c, 1, none⟩ v1).setCell ⟨c, 2, none⟩ v2).setCell ⟨c, 3, none⟩ v3).setCell ⟨c, 4, none⟩ v4).setCell ⟨c, 5, none⟩ v5).setCell ⟨c, 6, none⟩ v6).setCell ⟨c, 7, none⟩ v7).setCell ⟨c, 8, none⟩ v8) b s p bad hw hv hn hm cv :=
  ((((((((h.other _ hc).other _ hc).other _ hc).other _ hc).other _ hc).other _ hc).other _ hc).other _ hc).other _ hc

/-- behind the first byte: test -/
def cmTest (s : ByteArray) (p : Nat) (hv hn k : Int) : Nat × Bool × Cm :=
  let x := opnd s p false hv hn
  (x.1, x.2.1, ⟨k, 0, x.2.2.1, x.2.2.2, 0, false, 0, 0, 0⟩)

set_option maxHeartbeats 2000000 in
theorem takeCommand_test (hR : Rd w b s p bad hw hv hn hm cv) (hs : s.size ≤ maxLen) (h0 : 0 ≤ hn) (h1 : hn ≤ 8) (h2 : 1 ≤ hv) (h3 : hv ≤ 256) (k : Int) (hk : pk s p bad = k) (hkk : k = 63 ∨ k = 33) :
    Calls Try.prog 50 #[.pointer (some ⟨b, 0, none⟩)] w fun e w' => e = .returned (.agg (cmTest s (p + 1) hv hn k).2.2.cells) ∧ Rd w' b s (cmTest s (p + 1) hv hn k).1 (cmTest s (p + 1) hv hn k).2.1 hw hv hn hm cv ∧ w.grownBy w' (some b) := by
  have ht := tk_pk s p bad (by rw [hk]; omega)
  rw [hk] at ht
  obtain ⟨ht, rfl, _⟩ := ht
  have Ht := hide ht
  have Hk := hide hk
  clear ht hk
  have hbl := At.lt hR
  have hR0 : ∀ o o', Rd ((w.alloc o).alloc o') b s p false hw hv hn hm cv := fun o o' => At.alloc (At.alloc hR o) o'
  unfold cmTest
  dsimp only
  generalize hxq : opnd s (p + 1) false hv hn = x
  have Hx := hide hxq
  clear hxq
  have hO0 : ∀ cs o, At ((w.alloc (.cells cs 74)).alloc o) w.heap.size 74 cs := fun cs o => At.alloc (At.new w _ cs) o
  have hC0 : ∀ o cs, At ((w.alloc o).alloc (.cells cs 74)) (w.heap.size + 1) 74 cs := fun o cs => by
    have := At.new (w.alloc o) 74 cs
    simpa using this
  rcases hkk with rfl | rfl
  all_goals
    go_enter Try.func50, Try.ntmps50
    go_wp2_with fail
    refine (peek_any (hR0 _ _) hs).mono ?_
    rintro e w' ⟨rfl, n, rfl⟩
    rw [unhide Hk]
    go_wp2_with fail
    refine (take_any (Rd.other (Rd.drewN (hR0 _ _) n) _ (by simp; omega)) hs _).mono ?_
    rintro e w2 ⟨rfl, hR2, hg2⟩
    rw [unhide Ht] at hR2
    have hC2 := At.grown (At.set (At.drewN (hC0 _ _) n) 0 _) hg2 (by simp; omega)
    have hO2 := At.grown (At.other (At.drewN (hO0 _ _) n) _ (by simp)) hg2 (by simp; omega)
    have hG2 := gb_trans (gb_set (gb_drewN (gb_alloc (gb_alloc (gb_refl w (some b)) _) _) n) _ (.inr (by simp))) hg2
    simp at hC2
    have hC2' := hide hC2
    have hO2' := hide hO2
    obtain ⟨d0, d1, d2, d3, d4, d5, d6, d7, d8, df⟩ := At.nine hC2
    clear hC2 hO2
    go_wp2_with fail
    refine (takeOperand_any hR2 hs h0 h1 h2 h3).mono ?_
    rintro e w3 ⟨rfl, hR3, hg3⟩
    rw [unhide Hx] at hR3 ⊢
    have hC3 := At.grown (unhide hC2') hg3 (by simp; omega)
    have hO3 := At.grown (unhide hO2') hg3 (by simp; omega)
    have hG3 := gb_trans hG2 hg3
    clear d0 d1 d2 d3 d4 d5 d6 d7 d8 df
    obtain ⟨d0, d1, d2, d3, d4, d5, d6, d7, d8, df⟩ := At.nine hC3
    obtain ⟨e0, e1, e2, e3, e4, e5, e6, e7, e8, ef⟩ := At.nine hO3
    clear hC3 hO3
    go_wp2_with fail
    refine bodyPost_ret (v := .agg (⟨_, 0, x.2.2.1, x.2.2.2, 0, false, 0, 0, 0⟩ : Cm).cells) (by simp [results, Try.results50, go_sem, Cm.cells, e0, e1, e2, e3, e4, e5, e6, e7, e8]) rfl ⟨rfl, ?_, ?_⟩
    · exact Rd.nine (Rd.other (Rd.other hR3 _ (by simp; omega)) _ (by simp; omega)) _ (by omega) _ _ _ _ _ _ _ _ _
    · exact gb_nine (gb_set (gb_set hG3 _ (.inr (by simp))) _ (.inr (by simp))) _ (by simp) _ _ _ _ _ _ _ _ _

/-- behind the first byte: load -/
def cmLoad (s : ByteArray) (p : Nat) (hv hn : Int) : Nat × Bool × Cm :=
  let v := tb s p false 97 (97 + hn - 1)
  let x := opnd s v.1 v.2.1 hv hn
  (x.1, x.2.1, ⟨108, v.2.2, x.2.2.1, x.2.2.2, 0, false, 0, 0, 0⟩)

set_option maxHeartbeats 2000000 in
theorem takeCommand_load (hR : Rd w b s p bad hw hv hn hm cv) (hs : s.size ≤ maxLen) (h0 : 0 ≤ hn) (h1 : hn ≤ 8) (h2 : 1 ≤ hv) (h3 : hv ≤ 256) (hk : pk s p bad = 108) :
    Calls Try.prog 50 #[.pointer (some ⟨b, 0, none⟩)] w fun e w' => e = .returned (.agg (cmLoad s (p + 1) hv hn).2.2.cells) ∧ Rd w' b s (cmLoad s (p + 1) hv hn).1 (cmLoad s (p + 1) hv hn).2.1 hw hv hn hm cv ∧ w.grownBy w' (some b) := by
  have ht := tk_pk s p bad (by rw [hk]; omega)
  rw [hk] at ht
  obtain ⟨ht, rfl, _⟩ := ht
  have Ht := hide ht
  have Hk := hide hk
  clear ht hk
  have hbl := At.lt hR
  have hR0 : ∀ o o', Rd ((w.alloc o).alloc o') b s p false hw hv hn hm cv := fun o o' => At.alloc (At.alloc hR o) o'
  unfold cmLoad
  dsimp only
  generalize hvq : tb s (p + 1) false 97 (97 + hn - 1) = v
  have Hv := hide hvq
  clear hvq
  generalize hxq : opnd s v.1 v.2.1 hv hn = x
  have Hx := hide hxq
  clear hxq
  have hO0 : ∀ cs o, At ((w.alloc (.cells cs 74)).alloc o) w.heap.size 74 cs := fun cs o => At.alloc (At.new w _ cs) o
  have hC0 : ∀ o cs, At ((w.alloc o).alloc (.cells cs 74)) (w.heap.size + 1) 74 cs := fun o cs => by
    have := At.new (w.alloc o) 74 cs
    simpa using this
  go_enter Try.func50, Try.ntmps50
  go_wp2_with fail
  refine (peek_any (hR0 _ _) hs).mono ?_
  rintro e w' ⟨rfl, n, rfl⟩
  rw [unhide Hk]
  go_wp2_with fail
  refine (take_any (Rd.other (Rd.drewN (hR0 _ _) n) _ (by simp; omega)) hs _).mono ?_
  rintro e w2 ⟨rfl, hR2, hg2⟩
  rw [unhide Ht] at hR2
  have hC2 := At.grown (At.set (At.drewN (hC0 _ _) n) 0 _) hg2 (by simp; omega)
  have hO2 := At.grown (At.other (At.drewN (hO0 _ _) n) _ (by simp)) hg2 (by simp; omega)
  have hG2 := gb_trans (gb_set (gb_drewN (gb_alloc (gb_alloc (gb_refl w (some b)) _) _) n) _ (.inr (by simp))) hg2
  simp at hC2
  have hC2' := hide hC2
  have hO2' := hide hO2
  obtain ⟨d0, d1, d2, d3, d4, d5, d6, d7, d8, df⟩ := At.nine hC2
  clear hC2 hO2
  go_wp2_with fail
  refine (takeVariable_any hR2 hs h0 h1).mono ?_
  rintro e w3 ⟨rfl, hR3, hg3⟩
  rw [unhide Hv] at hR3 ⊢
  have hC3 := At.grown (unhide hC2') hg3 (by simp; omega)
  have hO3 := At.grown (unhide hO2') hg3 (by simp; omega)
  have hG3 := gb_trans hG2 hg3
  clear d0 d1 d2 d3 d4 d5 d6 d7 d8 df
  have hC3' := hide hC3
  have hO3' := hide hO3
  obtain ⟨d0, d1, d2, d3, d4, d5, d6, d7, d8, df⟩ := At.nine hC3
  clear hC3 hO3
  go_wp2_with fail
  refine (takeOperand_any (Rd.other hR3 _ (by simp; omega)) hs h0 h1 h2 h3).mono ?_
  rintro e w4 ⟨rfl, hR4, hg4⟩
  rw [unhide Hx] at hR4 ⊢
  have hC4 := At.grown (At.set (unhide hC3') 1 _) hg4 (by simp; omega)
  have hO4 := At.grown (At.other (unhide hO3') _ (by simp)) hg4 (by simp; omega)
  have hG4 := gb_trans (gb_set hG3 _ (.inr (by simp))) hg4
  simp at hC4
  clear d0 d1 d2 d3 d4 d5 d6 d7 d8 df
  obtain ⟨d0, d1, d2, d3, d4, d5, d6, d7, d8, df⟩ := At.nine hC4
  obtain ⟨e0, e1, e2, e3, e4, e5, e6, e7, e8, ef⟩ := At.nine hO4
  clear hC4 hO4
  go_wp2_with fail
  refine bodyPost_ret (v := .agg (⟨108, v.2.2, x.2.2.1, x.2.2.2, 0, false, 0, 0, 0⟩ : Cm).cells) (by simp [results, Try.results50, go_sem, Cm.cells, e0, e1, e2, e3, e4, e5, e6, e7, e8]) rfl ⟨rfl, ?_, ?_⟩
  · exact Rd.nine (Rd.other (Rd.other hR4 _ (by simp; omega)) _ (by simp; omega)) _ (by omega) _ _ _ _ _ _ _ _ _
  · exact gb_nine (gb_set (gb_set hG4 _ (.inr (by simp))) _ (.inr (by simp))) _ (by simp) _ _ _ _ _ _ _ _ _

/-- behind the first byte: store -/
def cmStore (s : ByteArray) (p : Nat) (hv hn : Int) : Nat × Bool × Cm :=
  let x := opnd s p false hv hn
  let y := opnd s x.1 x.2.1 hv hn
  (y.1, y.2.1, ⟨115, 0, x.2.2.1, x.2.2.2, 0, y.2.2.1, y.2.2.2, 0, 0⟩)

set_option maxHeartbeats 2000000 in
theorem takeCommand_store (hR : Rd w b s p bad hw hv hn hm cv) (hs : s.size ≤ maxLen) (h0 : 0 ≤ hn) (h1 : hn ≤ 8) (h2 : 1 ≤ hv) (h3 : hv ≤ 256) (hk : pk s p bad = 115) :
    Calls Try.prog 50 #[.pointer (some ⟨b, 0, none⟩)] w fun e w' => e = .returned (.agg (cmStore s (p + 1) hv hn).2.2.cells) ∧ Rd w' b s (cmStore s (p + 1) hv hn).1 (cmStore s (p + 1) hv hn).2.1 hw hv hn hm cv ∧ w.grownBy w' (some b) := by
  have ht := tk_pk s p bad (by rw [hk]; omega)
  rw [hk] at ht
  obtain ⟨ht, rfl, _⟩ := ht
  have Ht := hide ht
  have Hk := hide hk
  clear ht hk
  have hbl := At.lt hR
  have hR0 : ∀ o o', Rd ((w.alloc o).alloc o') b s p false hw hv hn hm cv := fun o o' => At.alloc (At.alloc hR o) o'
  unfold cmStore
  dsimp only
  generalize hxq : opnd s (p + 1) false hv hn = x
  have Hx := hide hxq
  clear hxq
  generalize hyq : opnd s x.1 x.2.1 hv hn = y
  have Hy := hide hyq
  clear hyq
  have hO0 : ∀ cs o, At ((w.alloc (.cells cs 74)).alloc o) w.heap.size 74 cs := fun cs o => At.alloc (At.new w _ cs) o
  have hC0 : ∀ o cs, At ((w.alloc o).alloc (.cells cs 74)) (w.heap.size + 1) 74 cs := fun o cs => by
    have := At.new (w.alloc o) 74 cs
    simpa using this
  go_enter Try.func50, Try.ntmps50
  go_wp2_with fail
  refine (peek_any (hR0 _ _) hs).mono ?_
  rintro e w' ⟨rfl, n, rfl⟩
  rw [unhide Hk]
  go_wp2_with fail
  refine (take_any (Rd.other (Rd.drewN (hR0 _ _) n) _ (by simp; omega)) hs _).mono ?_
  rintro e w2 ⟨rfl, hR2, hg2⟩
  rw [unhide Ht] at hR2
  have hC2 := At.grown (At.set (At.drewN (hC0 _ _) n) 0 _) hg2 (by simp; omega)
  have hO2 := At.grown (At.other (At.drewN (hO0 _ _) n) _ (by simp)) hg2 (by simp; omega)
  have hG2 := gb_trans (gb_set (gb_drewN (gb_alloc (gb_alloc (gb_refl w (some b)) _) _) n) _ (.inr (by simp))) hg2
  simp at hC2
  have hC2' := hide hC2
  have hO2' := hide hO2
  obtain ⟨d0, d1, d2, d3, d4, d5, d6, d7, d8, df⟩ := At.nine hC2
  clear hC2 hO2
  go_wp2_with fail
  refine (takeOperand_any hR2 hs h0 h1 h2 h3).mono ?_
  rintro e w3 ⟨rfl, hR3, hg3⟩
  rw [unhide Hx] at hR3 ⊢
  have hC3 := At.grown (unhide hC2') hg3 (by simp; omega)
  have hO3 := At.grown (unhide hO2') hg3 (by simp; omega)
  have hG3 := gb_trans hG2 hg3
  clear d0 d1 d2 d3 d4 d5 d6 d7 d8 df
  have hC3' := hide hC3
  have hO3' := hide hO3
  obtain ⟨d0, d1, d2, d3, d4, d5, d6, d7, d8, df⟩ := At.nine hC3
  clear hC3 hO3
  go_wp2_with fail
  refine (takeOperand_any (Rd.other (Rd.other hR3 _ (by simp; omega)) _ (by simp; omega)) hs h0 h1 h2 h3).mono ?_
  rintro e w4 ⟨rfl, hR4, hg4⟩
  rw [unhide Hy] at hR4 ⊢
  have hC4 := At.grown (At.set (At.set (unhide hC3') 2 _) 3 _) hg4 (by simp; omega)
  have hO4 := At.grown (At.other (At.other (unhide hO3') _ (by simp)) _ (by simp)) hg4 (by simp; omega)
  have hG4 := gb_trans (gb_set (gb_set hG3 _ (.inr (by simp))) _ (.inr (by simp))) hg4
  simp at hC4
  clear d0 d1 d2 d3 d4 d5 d6 d7 d8 df
  obtain ⟨d0, d1, d2, d3, d4, d5, d6, d7, d8, df⟩ := At.nine hC4
  obtain ⟨e0, e1, e2, e3, e4, e5, e6, e7, e8, ef⟩ := At.nine hO4
  clear hC4 hO4
  go_wp2_with fail
  refine bodyPost_ret (v := .agg (⟨115, 0, x.2.2.1, x.2.2.2, 0, y.2.2.1, y.2.2.2, 0, 0⟩ : Cm).cells) (by simp [results, Try.results50, go_sem, Cm.cells, e0, e1, e2, e3, e4, e5, e6, e7, e8]) rfl ⟨rfl, ?_, ?_⟩
  · exact Rd.nine (Rd.other (Rd.other hR4 _ (by simp; omega)) _ (by simp; omega)) _ (by omega) _ _ _ _ _ _ _ _ _
  · exact gb_nine (gb_set (gb_set hG4 _ (.inr (by simp))) _ (.inr (by simp))) _ (by simp) _ _ _ _ _ _ _ _ _

/-- behind the first byte: set -/
def cmSet (s : ByteArray) (p : Nat) (hv hn : Int) : Nat × Bool × Cm :=
  let v := tb s p false 97 (97 + hn - 1)
  let x := opnd s v.1 v.2.1 hv hn
  let o := opn s x.1 x.2.1
  let y := opnd s o.1 o.2.1 hv hn
  (y.1, y.2.1, ⟨61, v.2.2, x.2.2.1, x.2.2.2, o.2.2, y.2.2.1, y.2.2.2, 0, 0⟩)

set_option maxHeartbeats 2000000 in
theorem takeCommand_set (hR : Rd w b s p bad hw hv hn hm cv) (hs : s.size ≤ maxLen) (h0 : 0 ≤ hn) (h1 : hn ≤ 8) (h2 : 1 ≤ hv) (h3 : hv ≤ 256) (hk : pk s p bad = 61) :
    Calls Try.prog 50 #[.pointer (some ⟨b, 0, none⟩)] w fun e w' => e = .returned (.agg (cmSet s (p + 1) hv hn).2.2.cells) ∧ Rd w' b s (cmSet s (p + 1) hv hn).1 (cmSet s (p + 1) hv hn).2.1 hw hv hn hm cv ∧ w.grownBy w' (some b) := by
  have ht := tk_pk s p bad (by rw [hk]; omega)
  rw [hk] at ht
  obtain ⟨ht, rfl, _⟩ := ht
  have Ht := hide ht
  have Hk := hide hk
  clear ht hk
  have hbl := At.lt hR
  have hR0 : ∀ o o', Rd ((w.alloc o).alloc o') b s p false hw hv hn hm cv := fun o o' => At.alloc (At.alloc hR o) o'
  unfold cmSet
  dsimp only
  generalize hvq : tb s (p + 1) false 97 (97 + hn - 1) = v
  have Hv := hide hvq
  clear hvq
  generalize hxq : opnd s v.1 v.2.1 hv hn = x
  have Hx := hide hxq
  clear hxq
  generalize hoq : opn s x.1 x.2.1 = o
  have Ho := hide hoq
  clear hoq
  generalize hyq : opnd s o.1 o.2.1 hv hn = y
  have Hy := hide hyq
  clear hyq
  have hO0 : ∀ cs o, At ((w.alloc (.cells cs 74)).alloc o) w.heap.size 74 cs := fun cs o => At.alloc (At.new w _ cs) o
  have hC0 : ∀ o cs, At ((w.alloc o).alloc (.cells cs 74)) (w.heap.size + 1) 74 cs := fun o cs => by
    have := At.new (w.alloc o) 74 cs
    simpa using this
  go_enter Try.func50, Try.ntmps50
  go_wp2_with fail
  refine (peek_any (hR0 _ _) hs).mono ?_
  rintro e w' ⟨rfl, n, rfl⟩
  rw [unhide Hk]
  go_wp2_with fail
  refine (take_any (Rd.other (Rd.drewN (hR0 _ _) n) _ (by simp; omega)) hs _).mono ?_
  rintro e w2 ⟨rfl, hR2, hg2⟩
  rw [unhide Ht] at hR2
  have hC2 := At.grown (At.set (At.drewN (hC0 _ _) n) 0 _) hg2 (by simp; omega)
  have hO2 := At.grown (At.other (At.drewN (hO0 _ _) n) _ (by simp)) hg2 (by simp; omega)
  have hG2 := gb_trans (gb_set (gb_drewN (gb_alloc (gb_alloc (gb_refl w (some b)) _) _) n) _ (.inr (by simp))) hg2
  simp at hC2
  have hC2' := hide hC2
  have hO2' := hide hO2
  obtain ⟨d0, d1, d2, d3, d4, d5, d6, d7, d8, df⟩ := At.nine hC2
  clear hC2 hO2
  go_wp2_with fail
  refine (takeVariable_any hR2 hs h0 h1).mono ?_
  rintro e w3 ⟨rfl, hR3, hg3⟩
  rw [unhide Hv] at hR3 ⊢
  have hC3 := At.grown (unhide hC2') hg3 (by simp; omega)
  have hO3 := At.grown (unhide hO2') hg3 (by simp; omega)
  have hG3 := gb_trans hG2 hg3
  clear d0 d1 d2 d3 d4 d5 d6 d7 d8 df
  have hC3' := hide hC3
  have hO3' := hide hO3
  obtain ⟨d0, d1, d2, d3, d4, d5, d6, d7, d8, df⟩ := At.nine hC3
  clear hC3 hO3
  go_wp2_with fail
  refine (takeOperand_any (Rd.other hR3 _ (by simp; omega)) hs h0 h1 h2 h3).mono ?_
  rintro e w4 ⟨rfl, hR4, hg4⟩
  rw [unhide Hx] at hR4 ⊢
  have hC4 := At.grown (At.set (unhide hC3') 1 _) hg4 (by simp; omega)
  have hO4 := At.grown (At.other (unhide hO3') _ (by simp)) hg4 (by simp; omega)
  have hG4 := gb_trans (gb_set hG3 _ (.inr (by simp))) hg4
  simp at hC4
  clear d0 d1 d2 d3 d4 d5 d6 d7 d8 df
  have hC4' := hide hC4
  have hO4' := hide hO4
  obtain ⟨d0, d1, d2, d3, d4, d5, d6, d7, d8, df⟩ := At.nine hC4
  clear hC4 hO4
  go_wp2_with fail
  refine (takeOperation_any (Rd.other (Rd.other hR4 _ (by simp; omega)) _ (by simp; omega)) hs).mono ?_
  rintro e w5 ⟨rfl, hR5, hg5⟩
  rw [unhide Ho] at hR5 ⊢
  have hC5 := At.grown (At.set (At.set (unhide hC4') 2 _) 3 _) hg5 (by simp; omega)
  have hO5 := At.grown (At.other (At.other (unhide hO4') _ (by simp)) _ (by simp)) hg5 (by simp; omega)
  have hG5 := gb_trans (gb_set (gb_set hG4 _ (.inr (by simp))) _ (.inr (by simp))) hg5
  simp at hC5
  clear d0 d1 d2 d3 d4 d5 d6 d7 d8 df
  have hC5' := hide hC5
  have hO5' := hide hO5
  obtain ⟨d0, d1, d2, d3, d4, d5, d6, d7, d8, df⟩ := At.nine hC5
  clear hC5 hO5
  go_wp2_with fail
  refine (takeOperand_any (Rd.other hR5 _ (by simp; omega)) hs h0 h1 h2 h3).mono ?_
  rintro e w6 ⟨rfl, hR6, hg6⟩
  rw [unhide Hy] at hR6 ⊢
  have hC6 := At.grown (At.set (unhide hC5') 4 _) hg6 (by simp; omega)
  have hO6 := At.grown (At.other (unhide hO5') _ (by simp)) hg6 (by simp; omega)
  have hG6 := gb_trans (gb_set hG5 _ (.inr (by simp))) hg6
  simp at hC6
  clear d0 d1 d2 d3 d4 d5 d6 d7 d8 df
  obtain ⟨d0, d1, d2, d3, d4, d5, d6, d7, d8, df⟩ := At.nine hC6
  obtain ⟨e0, e1, e2, e3, e4, e5, e6, e7, e8, ef⟩ := At.nine hO6
  clear hC6 hO6
  go_wp2_with fail
  refine bodyPost_ret (v := .agg (⟨61, v.2.2, x.2.2.1, x.2.2.2, o.2.2, y.2.2.1, y.2.2.2, 0, 0⟩ : Cm).cells) (by simp [results, Try.results50, go_sem, Cm.cells, e0, e1, e2, e3, e4, e5, e6, e7, e8]) rfl ⟨rfl, ?_, ?_⟩
  · exact Rd.nine (Rd.other (Rd.other hR6 _ (by simp; omega)) _ (by simp; omega)) _ (by omega) _ _ _ _ _ _ _ _ _
  · exact gb_nine (gb_set (gb_set hG6 _ (.inr (by simp))) _ (.inr (by simp))) _ (by simp) _ _ _ _ _ _ _ _ _

end
end Go.Proofs.Ytfolokhilkffcaa
