import Derived.WalkKit
import Derived.WalkSpells
import Derived.WalkLawsBesides
import Derived.Deep.Draws
import Derived.Test.YtnkbfdbbcaffmabRows
import Derived.Deep.QuietTactic
import Derived.BigQuiet
/-
  Small laws of worlds: a block that holds just these cells ('At'); the frame 'grownBy' (some b): nothing but block b has turned.
-/
namespace Go.Proofs.Ytnkbfdbbcaffmab
open Go.RowKit

/-- Block b holds just these cells, none of them frozen. -/
def At (w : World) (b : Nat) (t : TypeId) (cs : Array Value) : Prop := w.heap[b]? = some (.cells cs t (0, 0))

section
variable {w w' : World} {b : Nat} {t : TypeId} {cs : Array Value}

theorem At.cell (h : At w b t cs) (j : Nat) : w.cell? ⟨b, j, none⟩ = cs[j]? := by
  unfold At at h; simp [World.cell?, h]
theorem At.frozen (h : At w b t cs) (j : Nat) : w.frozen? ⟨b, j, none⟩ = false := by
  unfold At at h; simp [World.frozen?, h]
theorem At.lt (h : At w b t cs) : b < w.heap.size := by
  unfold At at h
  exact (Array.getElem?_eq_some_iff.1 h).1
theorem At.set (h : At w b t cs) (j : Nat) (v : Value) : At (w.setCell ⟨b, j, none⟩ v) b t (cs.setIfInBounds j v) := by
  unfold At at *
  simp [World.setCell, Array.getElem?_modify, h]
theorem At.other (h : At w b t cs) {a : Addr} (v : Value) (ha : a.block ≠ b) : At (w.setCell a v) b t cs := by
  unfold At at *
  rw [Below.heap_setCell _ _ _ _ (by omega)]; exact h
theorem At.drewN (h : At w b t cs) (n : Nat) : At (w.drewN n) b t cs := h
theorem At.drew (h : At w b t cs) : At w.drew b t cs := h
theorem At.alloc (h : At w b t cs) (o : Obj) : At (w.alloc o) b t cs := by
  have hl := h.lt
  unfold At at *
  rw [Below.heap_alloc _ _ _ hl]; exact h
theorem At.grown (h : At w b t cs) {row : Option Nat} (hg : w.grownBy w' row) (hr : some b ≠ row) : At w' b t cs := by
  have hl := h.lt
  unfold At at *
  rw [hg.block b hl hr]; exact h
theorem At.new (w : World) (t : TypeId) (cs : Array Value) : At (w.alloc (.cells cs t)) w.heap.size t cs := by
  unfold At
  show (w.heap.push _)[w.heap.size]? = _
  simp
end

section
variable {w w1 w2 w3 : World} {row : Option Nat}
theorem gb_refl (w : World) (row : Option Nat) : w.grownBy w row := ⟨rfl, rfl, rfl, Nat.le_refl _, fun _ _ _ => rfl⟩
theorem gb_trans (h : w1.grownBy w2 row) (k : w2.grownBy w3 row) : w1.grownBy w3 row :=
  ⟨k.os.trans h.os, k.tape.trans h.tape, k.output.trans h.output, Nat.le_trans h.size k.size, fun i hi hr => (k.block i (Nat.lt_of_lt_of_le hi h.size) hr).trans (h.block i hi hr)⟩
theorem gb_drewN (h : w1.grownBy w2 row) (n : Nat) : w1.grownBy (w2.drewN n) row := ⟨h.os, h.tape, h.output, h.size, h.block⟩
theorem gb_drew (h : w1.grownBy w2 row) : w1.grownBy w2.drew row := ⟨h.os, h.tape, h.output, h.size, h.block⟩
theorem gb_alloc (h : w1.grownBy w2 row) (o : Obj) : w1.grownBy (w2.alloc o) row :=
  gb_trans h ⟨rfl, rfl, rfl, by simp, fun _ hk _ => Below.heap_alloc _ _ _ hk⟩
theorem gb_set (h : w1.grownBy w2 row) {a : Addr} (v : Value) (ha : some a.block = row ∨ w1.heap.size ≤ a.block) : w1.grownBy (w2.setCell a v) row :=
  ⟨h.os, h.tape, h.output, by simpa [World.setCell] using h.size, fun k hk hr => by
    rw [Below.heap_setCell _ _ _ _ (by rcases ha with ha | ha
                                       · intro e; subst e; exact hr ha
                                       · omega)]
    exact h.block k hk hr⟩
theorem gb_none (h : w1.grownBy w2 none) (row : Option Nat) : w1.grownBy w2 row := ⟨h.os, h.tape, h.output, h.size, fun k hk _ => h.block k hk (by simp)⟩
theorem gb_below {b : Nat} (h : w1.grownBy w2 (some b)) (hb : b ≤ w1.heap.size) : Below b w1 w2 :=
  ⟨h.os, h.tape, h.output, h.size, fun k hk => h.block k (by omega) (by intro e; cases e; omega)⟩
end
end Go.Proofs.Ytnkbfdbbcaffmab
/-
  The reader's smallest methods: peek, take, takeBetween; isCommand, isOperation.
-/
namespace Go.Proofs.Ytnkbfdbbcaffmab
open Go.RowKit

theorem hide {p : Prop} (h : p) : Hid p := h
theorem unhide {p : Prop} (h : Hid p) : p := h

/-- The reader in block b. -/
def Rd (w : World) (b : Nat) (s : ByteArray) (p : Nat) (bad : Bool) (ht : ByteArray) (hw hv hn hm : Int) (cv : Value) : Prop :=
  At w b 67 #[.string s, .int .i64 p, .bool bad, .string ht, .int .i64 hw, .int .i64 hv, .int .i64 hn, .int .i64 hm, cv]

/-- The next byte, as the reader sees it. -/
def pk (s : ByteArray) (p : Nat) (bad : Bool) : Int := if bad then 0 else if h : p < s.size then (s[p].toNat : Int) else 0

theorem pk_bad (s : ByteArray) (p : Nat) : pk s p true = 0 := by simp [pk]
theorem pk_end (s : ByteArray) (p : Nat) (h : ¬ p < s.size) : pk s p false = 0 := by simp [pk, h]
theorem pk_at (s : ByteArray) (p : Nat) (h : p < s.size) : pk s p false = (s[p].toNat : Int) := by simp [pk, h]
theorem pk_range (s : ByteArray) (p : Nat) (bad : Bool) : 0 ≤ pk s p bad ∧ pk s p bad ≤ 255 := by
  unfold pk
  split
  · omega
  · split
    · have := s[p].toNat_lt; omega
    · omega

section
variable {w : World} {b : Nat} {s : ByteArray} {p : Nat} {bad : Bool} {ht : ByteArray} {hw hv hn hm : Int} {cv : Value}

set_option maxHeartbeats 400000 in
theorem peek_any (hR : Rd w b s p bad ht hw hv hn hm cv) (_hs : s.size ≤ maxLen) :
    Calls Try.prog 55 #[.pointer (some ⟨b, 0, none⟩)] w fun e w' => e = .returned (.int .u8 (pk s p bad)) ∧ ∃ n, w' = w.drewN n := by
  have c0 := hR.cell 0
  have c1 := hR.cell 1
  have c2 := hR.cell 2
  simp at c0 c1 c2
  unfold maxLen at _hs
  cases bad with
  | true =>
    rw [pk_bad]
    go_enter Try.func55, Try.ntmps55
    go_wp2
    go_quiet (fail)
    go_wp2
    go_ret
    exact ⟨rfl, _, rfl⟩
  | false =>
    by_cases hp : p < s.size
    · rw [pk_at s p hp]
      have hd : decide ((s.size : Int) ≤ (p : Int)) = false := by simp; omega
      go_enter Try.func55, Try.ntmps55
      go_wp2
      go_quiet (fail)
      go_wp2
      go_quiet (fail)
      go_wp2
      go_ret
      exact ⟨rfl, _, World.drewN_drewN _ _ _⟩
    · rw [pk_end s p hp]
      have hd : decide ((s.size : Int) ≤ (p : Int)) = true := by simp; omega
      go_enter Try.func55, Try.ntmps55
      go_wp2
      go_quiet (fail)
      go_wp2
      go_ret
      exact ⟨rfl, _, rfl⟩

/-- What 'take' makes of the place and of the mark. -/
def tk (s : ByteArray) (p : Nat) (bad : Bool) (c : Int) : Nat × Bool := if bad then (p, true) else if pk s p false = c ∧ p < s.size then (p + 1, false) else (p, true)

theorem tk_bad (s : ByteArray) (p : Nat) (c : Int) : tk s p true c = (p, true) := by simp [tk]
theorem tk_yes (s : ByteArray) (p : Nat) (h : p < s.size) (c : Int) (hc : (s[p].toNat : Int) = c) : tk s p false c = (p + 1, false) := by simp [tk, pk_at s p h, h, hc]
theorem tk_no (s : ByteArray) (p : Nat) (h : p < s.size) (c : Int) (hc : (s[p].toNat : Int) ≠ c) : tk s p false c = (p, true) := by simp [tk, pk_at s p h, hc]
theorem tk_end (s : ByteArray) (p : Nat) (h : ¬ p < s.size) (c : Int) : tk s p false c = (p, true) := by simp [tk, h]

theorem Rd.setBad (h : Rd w b s p bad ht hw hv hn hm cv) : Rd (w.setCell ⟨b, 2, none⟩ (.bool true)) b s p true ht hw hv hn hm cv := by
  have := At.set h 2 (.bool true); simpa [Rd] using this
theorem Rd.setAt (h : Rd w b s p bad ht hw hv hn hm cv) (q : Nat) : Rd (w.setCell ⟨b, 1, none⟩ (.int .i64 q)) b s q bad ht hw hv hn hm cv := by
  have := At.set h 1 (.int .i64 q); simpa [Rd] using this
theorem Rd.drewN (h : Rd w b s p bad ht hw hv hn hm cv) (n : Nat) : Rd (w.drewN n) b s p bad ht hw hv hn hm cv := h

set_option maxHeartbeats 400000 in
theorem take_any (hR : Rd w b s p bad ht hw hv hn hm cv) (hs : s.size ≤ maxLen) (c : Int) :
    Calls Try.prog 53 #[.pointer (some ⟨b, 0, none⟩), .int .u8 c] w fun e w' => e = .returned (.tuple #[]) ∧ Rd w' b s (tk s p bad c).1 (tk s p bad c).2 ht hw hv hn hm cv ∧ w.grownBy w' (some b) := by
  have c0 := hR.cell 0
  have c1 := hR.cell 1
  have c2 := hR.cell 2
  have f1 := hR.frozen 1
  have f2 := hR.frozen 2
  simp at c0 c1 c2
  unfold maxLen at hs
  cases bad with
  | true =>
    rw [tk_bad]
    go_enter Try.func53, Try.ntmps53
    go_wp2
    refine bodyPost_ret (results_none rfl _ _ _) rfl ?_
    exact ⟨rfl, hR, gb_refl _ _⟩
  | false =>
    by_cases hp : p < s.size
    · have hd : decide ((s.size : Int) ≤ (p : Int)) = false := by simp; omega
      have hb := s[p].toNat_lt
      by_cases hc : (s[p].toNat : Int) = c
      · rw [tk_yes s p hp c hc]
        have hd2 : ((s[p].toNat : Int) != c) = false := by simp [hc]
        have H : Hid ((s[p].toNat : Int) = c) := hc
        clear hc
        go_enter Try.func53, Try.ntmps53
        go_wp2
        go_quiet (fail)
        go_wp2
        go_end0
        refine ⟨rfl, ?_, ?_⟩
        · exact Rd.setAt (Rd.drewN hR _) (p + 1)
        · exact gb_set (gb_drewN (gb_refl _ _) _) _ (.inl rfl)
      · rw [tk_no s p hp c hc]
        have hd2 : ((s[p].toNat : Int) != c) = true := by simp [hc]
        clear hc
        go_enter Try.func53, Try.ntmps53
        go_wp2
        go_quiet (fail)
        go_wp2
        refine bodyPost_ret (results_none rfl _ _ _) rfl ?_
        refine ⟨rfl, ?_, ?_⟩
        · exact Rd.setBad (Rd.drewN hR _)
        · exact gb_set (gb_drewN (gb_refl _ _) _) _ (.inl rfl)
    · rw [tk_end s p hp c]
      have hd : decide ((s.size : Int) ≤ (p : Int)) = true := by simp; omega
      go_enter Try.func53, Try.ntmps53
      go_wp2
      go_quiet (fail)
      go_wp2
      refine bodyPost_ret (results_none rfl _ _ _) rfl ?_
      refine ⟨rfl, ?_, ?_⟩
      · exact Rd.setBad (Rd.drewN hR _)
      · exact gb_set (gb_drewN (gb_refl _ _) _) _ (.inl rfl)

/-- What 'takeBetween' makes of place and mark, and what it tells. -/
def tb (s : ByteArray) (p : Nat) (bad : Bool) (lo hi : Int) : Nat × Bool × Int :=
  if lo ≤ pk s p bad ∧ pk s p bad ≤ hi then ((tk s p bad (pk s p bad)).1, (tk s p bad (pk s p bad)).2, pk s p bad - lo) else (p, true, 0)

set_option maxHeartbeats 400000 in
theorem takeBetween_any (hR : Rd w b s p bad ht hw hv hn hm cv) (hs : s.size ≤ maxLen) (lo hi : Int) (h0 : 0 ≤ lo) (h1 : lo ≤ 255) (_h2 : 0 ≤ hi) (_h3 : hi ≤ 255) :
    Calls Try.prog 51 #[.pointer (some ⟨b, 0, none⟩), .int .u8 lo, .int .u8 hi] w fun e w' => e = .returned (.int .i64 (tb s p bad lo hi).2.2) ∧ Rd w' b s (tb s p bad lo hi).1 (tb s p bad lo hi).2.1 ht hw hv hn hm cv ∧ w.grownBy w' (some b) := by
  have hr := pk_range s p bad
  generalize hk : pk s p bad = k at *
  have Hk := hide hk
  clear hk
  obtain ⟨hr1, hr2⟩ := hr
  by_cases hlo : lo ≤ k
  · by_cases hhi : k ≤ hi
    · have ht : tb s p bad lo hi = ((tk s p bad k).1, (tk s p bad k).2, k - lo) := by unfold tb; rw [unhide Hk, if_pos ⟨hlo, hhi⟩]
      rw [ht]; clear ht
      generalize hq : tk s p bad k = q
      have Hq := hide hq
      clear hq
      go_enter Try.func51, Try.ntmps51
      go_wp2_with fail
      refine (peek_any hR hs).mono ?_
      rintro e w' ⟨rfl, n, rfl⟩
      rw [unhide Hk]
      go_wp2_with fail
      refine (take_any (Rd.drewN hR n) hs k).mono ?_
      rintro e w2 ⟨rfl, hR2, hg⟩
      rw [unhide Hq] at hR2
      go_wp2_with fail
      go_ret
      exact ⟨rfl, hR2, gb_trans (gb_drewN (gb_refl _ _) _) hg⟩
    · have ht : tb s p bad lo hi = (p, true, 0) := by unfold tb; rw [unhide Hk, if_neg (by omega)]
      rw [ht]; clear ht
      have f2 := hR.frozen 2
      have c2 := hR.cell 2
      simp at c2
      go_enter Try.func51, Try.ntmps51
      go_wp2_with fail
      refine (peek_any hR hs).mono ?_
      rintro e w' ⟨rfl, n, rfl⟩
      rw [unhide Hk]
      go_wp2_with fail
      go_ret
      exact ⟨rfl, Rd.setBad (Rd.drewN hR _), gb_set (gb_drewN (gb_refl _ _) _) _ (.inl rfl)⟩
  · have ht : tb s p bad lo hi = (p, true, 0) := by unfold tb; rw [unhide Hk, if_neg (by omega)]
    rw [ht]; clear ht
    have f2 := hR.frozen 2
    have c2 := hR.cell 2
    simp at c2
    go_enter Try.func51, Try.ntmps51
    go_wp2_with fail
    refine (peek_any hR hs).mono ?_
    rintro e w' ⟨rfl, n, rfl⟩
    rw [unhide Hk]
    go_wp2_with fail
    go_ret
    exact ⟨rfl, Rd.setBad (Rd.drewN hR _), gb_set (gb_drewN (gb_refl _ _) _) _ (.inl rfl)⟩
end
end Go.Proofs.Ytnkbfdbbcaffmab
