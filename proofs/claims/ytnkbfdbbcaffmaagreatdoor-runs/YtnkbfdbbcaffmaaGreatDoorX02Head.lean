import Derived.Test.YtnkbfdbbcaffmaaGreatDoorX01Chars
import Derived.Deep.RegionHeld3
import Derived.BigRegion
/-
  readHead.
-/
namespace Go.Proofs.YtnkbfdbbcaffmaaGreatDoor
open Go.RowKit

/-- 2 to the power k. -/
def pw : Nat → Int
  | 0 => 1
  | k + 1 => pw k * 2
theorem pw_bd (k : Nat) (h : k ≤ 8) : 1 ≤ pw k ∧ pw k ≤ 256 := by
  have : ∀ k, k < 9 → 1 ≤ pw k ∧ pw k ≤ 256 := by decide
  exact this k (by omega)
theorem pw_bd7 (k : Nat) (h : k < 8) : pw k ≤ 128 := by
  have : ∀ k, k < 8 → pw k ≤ 128 := by decide
  exact this k h

/-- What readHead makes of the place and the mark: place, mark, width, variables, words. -/
def hdr (s : ByteArray) : Nat × Bool × Nat × Nat × Nat :=
  let t := tb s 0 false 49 56
  let n := cnt s t.2.1 8 t.1
  let u := tk s (t.1 + n) (t.2.1 || n == 0) 47
  let m := cnt s u.2 16 u.1
  let v := tk s (u.1 + m) u.2 58
  (v.1, v.2, 1 + t.2.2.toNat, n, m)

/-- A place that only goes forward, inside the text, and stands still where the mark is set. -/
def Fwd (s : ByteArray) (p : Nat) (bad : Bool) (q : Nat) (bad' : Bool) : Prop := p ≤ q ∧ q ≤ s.size ∧ (bad = true → q = p ∧ bad' = true)

theorem Fwd.trans {s : ByteArray} {p q r : Nat} {a b c : Bool} (h : Fwd s p a q b) (k : Fwd s q b r c) : Fwd s p a r c :=
  ⟨Nat.le_trans h.1 k.1, k.2.1, fun e => by
    obtain ⟨h1, h2⟩ := h.2.2 e
    obtain ⟨h3, h4⟩ := k.2.2 h2
    exact ⟨h3.trans h1, h4⟩⟩
theorem Fwd.refl {s : ByteArray} {p : Nat} {a : Bool} (h : p ≤ s.size) : Fwd s p a p a := ⟨Nat.le_refl _, h, fun e => ⟨rfl, e⟩⟩

theorem tk_fwd (s : ByteArray) (p : Nat) (bad : Bool) (c : Int) (h : p ≤ s.size) : Fwd s p bad (tk s p bad c).1 (tk s p bad c).2 := by
  unfold tk
  cases bad with
  | true => simp [Fwd, h]
  | false =>
    simp only [Bool.false_eq_true, if_false]
    split
    · exact ⟨by simp, by simp; omega, by simp⟩
    · exact ⟨by simp, by simpa using h, by simp⟩

theorem tb_fwd (s : ByteArray) (p : Nat) (bad : Bool) (lo hi : Int) (h : p ≤ s.size) : Fwd s p bad (tb s p bad lo hi).1 (tb s p bad lo hi).2.1 := by
  unfold tb
  split
  · exact tk_fwd s p bad _ h
  · exact ⟨Nat.le_refl _, h, fun _ => ⟨rfl, rfl⟩⟩

theorem cnt_fwd (s : ByteArray) (bad : Bool) : ∀ f p, p ≤ s.size → p + cnt s bad f p ≤ s.size ∧ (bad = true → cnt s bad f p = 0)
  | 0, p, h => ⟨by simpa [cnt] using h, fun _ => rfl⟩
  | f + 1, p, h => by
    unfold cnt
    split
    · rename_i hk
      have hp := tk_pk s p bad (by omega)
      have := cnt_fwd s bad f (p + 1) hp.2.2
      exact ⟨by omega, fun e => by rw [hp.2.1] at e; cases e⟩
    · exact ⟨by omega, fun _ => rfl⟩
theorem hdr_le (s : ByteArray) : (hdr s).1 ≤ s.size := by
  unfold hdr
  dsimp only
  have h1 := tb_fwd s 0 false 49 56 (Nat.zero_le _)
  have h2 := cnt_fwd s (tb s 0 false 49 56).2.1 8 _ h1.2.1
  have h3 := tk_fwd s _ ((tb s 0 false 49 56).2.1 || cnt s (tb s 0 false 49 56).2.1 8 (tb s 0 false 49 56).1 == 0) 47 h2.1
  have h4 := cnt_fwd s (tk s ((tb s 0 false 49 56).1 + cnt s (tb s 0 false 49 56).2.1 8 (tb s 0 false 49 56).1) ((tb s 0 false 49 56).2.1 || cnt s (tb s 0 false 49 56).2.1 8 (tb s 0 false 49 56).1 == 0) 47).2 16 _ h3.2.1
  exact (tk_fwd s _ _ 58 h4.1).2.1

section
variable {w : World} {b : Nat} {s : ByteArray} {p : Nat} {bad : Bool} {ht : ByteArray} {hw hv hn hm : Int} {cv : Value}
theorem Rd.setW (h : Rd w b s p bad ht hw hv hn hm cv) (q : Int) : Rd (w.setCell ⟨b, 4, none⟩ (.int .i64 q)) b s p bad ht q hv hn hm cv := by
  have := At.set h 4 (.int .i64 q); simpa [Rd] using this
theorem Rd.setV (h : Rd w b s p bad ht hw hv hn hm cv) (q : Int) : Rd (w.setCell ⟨b, 5, none⟩ (.int .i64 q)) b s p bad ht hw q hn hm cv := by
  have := At.set h 5 (.int .i64 q); simpa [Rd] using this
theorem Rd.setN (h : Rd w b s p bad ht hw hv hn hm cv) (q : Int) : Rd (w.setCell ⟨b, 6, none⟩ (.int .i64 q)) b s p bad ht hw hv q hm cv := by
  have := At.set h 6 (.int .i64 q); simpa [Rd] using this
theorem Rd.setM (h : Rd w b s p bad ht hw hv hn hm cv) (q : Int) : Rd (w.setCell ⟨b, 7, none⟩ (.int .i64 q)) b s p bad ht hw hv hn q cv := by
  have := At.set h 7 (.int .i64 q); simpa [Rd] using this
theorem Rd.setT (h : Rd w b s p bad ht hw hv hn hm cv) (q : ByteArray) : Rd (w.setCell ⟨b, 3, none⟩ (.string q)) b s p bad q hw hv hn hm cv := by
  have := At.set h 3 (.string q); simpa [Rd] using this
theorem Rd.setC (h : Rd w b s p bad ht hw hv hn hm cv) (q : Value) : Rd (w.setCell ⟨b, 8, none⟩ q) b s p bad ht hw hv hn hm q := by
  have := At.set h 8 q; simpa [Rd] using this

theorem tb_wid (s : ByteArray) (p : Nat) (bad : Bool) : 0 ≤ (tb s p bad 49 56).2.2 ∧ (tb s p bad 49 56).2.2 ≤ 7 := by
  unfold tb
  split
  · dsimp only; omega
  · dsimp only; omega

theorem text_two (h : Rd w b s p bad ht hw hv hn hm cv) (q : ByteArray) : (w.setCell ⟨b, 3, none⟩ (.string q)).drew.cell? ⟨b, 0, none⟩ = some (.string s) ∧ (w.setCell ⟨b, 3, none⟩ (.string q)).drew.cell? ⟨b, 1, none⟩ = some (.int .i64 p) := by
  have hR := Rd.setT h q
  have z0 := hR.cell 0
  have z1 := hR.cell 1
  simp at z0 z1
  rw [World.cell?_drew, World.cell?_drew]
  exact ⟨z0, z1⟩

set_option maxHeartbeats 2000000 in
theorem readHead_any (hR : Rd w b s 0 false ht hw hv hn hm cv) (hs : s.size ≤ maxLen) :
    Calls Tryz.prog 47 #[.pointer (some ⟨b, 0, none⟩)] w fun e w' => e = .returned (.tuple #[]) ∧ Rd w' b s (hdr s).1 (hdr s).2.1 (s.extract 0 (hdr s).1) (hdr s).2.2.1 (pw (hdr s).2.2.1) (hdr s).2.2.2.1 (hdr s).2.2.2.2 cv ∧ w.grownBy w' (some b) := by
  have hle := hdr_le s
  unfold hdr at hle ⊢
  dsimp only at hle ⊢
  have hb := tb_wid s 0 false
  generalize hq : tb s 0 false 49 56 = t at *
  have Ht := hide hq
  clear hq
  obtain ⟨p1, b1, z⟩ := t
  dsimp only at *
  obtain ⟨hz1, hz2⟩ := hb
  obtain ⟨W, hW⟩ : ∃ W : Nat, W = 1 + z.toNat := ⟨_, rfl⟩
  have hzW : 1 + z = (W : Int) := by omega
  have hW8 : W ≤ 8 := by omega
  rw [← hW]
  have HzW := hide hzW
  clear hW hzW
  have hnle := cnt_le s b1 8 p1
  generalize hq : cnt s b1 8 p1 = n at *
  have Hn := hide hq
  clear hq
  generalize hq : tk s (p1 + n) (b1 || n == 0) 47 = u at *
  have Hu := hide hq
  clear hq
  obtain ⟨p3, b3⟩ := u
  dsimp only
  have hmle := cnt_le s b3 16 p3
  generalize hq : cnt s b3 16 p3 = m at *
  have Hm := hide hq
  clear hq
  generalize hq : tk s (p3 + m) b3 58 = v at *
  have Hv := hide hq
  clear hq
  go_enter Tryz.func47, Tryz.ntmps47
  go_wp2_with fail
  refine (takeBetween_any hR hs 49 56 (by omega) (by omega) (by omega) (by omega)).mono ?_
  rintro e w1 ⟨rfl, hR1, hg1⟩
  rw [unhide Ht] at hR1 ⊢
  dsimp only at *
  have f3 := fun j => hR1.frozen j
  have c3 := hR1.cell 4
  have c4 := hR1.cell 5
  simp at c3 c4
  go_wp2_with fail
  rw [unhide HzW]
  have hR1' := Rd.setV (Rd.setW hR1 W) 1
  have hg1' := gb_set (gb_set hg1 (a := ⟨b, 4, none⟩) (.int .i64 W) (.inl rfl)) (a := ⟨b, 5, none⟩) (.int .i64 1) (.inl rfl)
  clear c3 c4 f3
  generalize (w1.setCell ⟨b, 4, none⟩ (.int .i64 W)).setCell ⟨b, 5, none⟩ (.int .i64 1) = wA at *
  go_loopw [2] (fun i wr => ∃ k : Nat, i = .int .i64 k ∧ k ≤ W ∧ Rd wr b s p1 b1 ht W (pw k) hn hm cv ∧ w.grownBy wr (some b)) (fun i _ => W - (intOf i).toNat)
  case atStart => exact ⟨0, rfl, Nat.zero_le _, hR1', hg1'⟩
  case round =>
    obtain ⟨k, rfl, hk, hRk, hgk⟩ := hrel
    have c3 := hRk.cell 4
    have c4 := hRk.cell 5
    have f4 := fun j => hRk.frozen j
    simp at c3 c4
    by_cases hlt : k < W
    · have hp := pw_bd k (by omega)
      have hp7 := pw_bd7 k (by omega)
      have e : pw (k + 1) = pw k * 2 := rfl
      have He := hide e
      clear e
      generalize pw k = v at *
      go_wp2_with fail
      go_roundw
      case rel => exact ⟨k + 1, by go_num, by omega, by rw [unhide He]; exact Rd.setV hRk _, gb_set hgk _ (.inl rfl)⟩
      case measure => simp [intOf]; omega
    · obtain rfl : k = W := by omega
      go_wp2_with fail
      refine (takeLetters_any hRk hs 8 (by omega)).mono ?_
      rintro e w2 ⟨rfl, hR2, hg2⟩
      rw [unhide Hn] at hR2 ⊢
      have c5 := hR2.cell 6
      have c2 := hR2.cell 2
      have f2 := fun j => hR2.frozen j
      simp at c5 c2
      clear c3 c4 f4
      by_cases hn0 : n = 0
      · subst hn0
        go_wp2_with fail
        refine (take_any (Rd.setBad (Rd.setN hR2 0)) hs 47).mono ?_
        rintro e w3 ⟨rfl, hR3, hg3⟩
        rw [show tk s (p1 + 0) true 47 = (p3, b3) from by have := unhide Hu; simpa using this] at hR3
        dsimp only at hR3
        clear c5 c2 f2
        go_wp2_with fail
        refine (takeLetters_any hR3 hs 16 (by omega)).mono ?_
        rintro e w4 ⟨rfl, hR4, hg4⟩
        rw [unhide Hm] at hR4 ⊢
        have c6 := hR4.cell 7
        have f6 := hR4.frozen 7
        simp at c6
        go_wp2_with fail
        refine (take_any (Rd.setM hR4 m) hs 58).mono ?_
        rintro e w5 ⟨rfl, hR5, hg5⟩
        rw [unhide Hv] at hR5
        have z0 := hR5.cell 0
        have z1 := hR5.cell 1
        have z3 := hR5.cell 3
        have zf := fun j => hR5.frozen j
        simp at z0 z1 z3
        clear c6 f6
        have zle : (v.1 : Int) ≤ (s.size : Int) := by omega
        have zs0 := And.intro z0 z1
        have zs1 := text_two hR5 (s.extract 0 v.1)
        go_wp2_with fail
        go_region_held3 (fun w' => w'.cell? ⟨b, 0, none⟩ = some (.string s) ∧ w'.cell? ⟨b, 1, none⟩ = some (.int .i64 v.1)) (first | assumption | go_keep) (fail)
        go_wp2_with fail
        go_end0
        exact ⟨rfl, Rd.drewN (Rd.setT hR5 _) 1, gb_drewN (gb_set (gb_trans (gb_set (gb_trans (gb_trans (gb_set (gb_set (gb_trans hgk hg2) _ (.inl rfl)) _ (.inl rfl)) hg3) hg4) _ (.inl rfl)) hg5) _ (.inl rfl)) 1⟩
      · have hn1 : ((n : Int) == 0) = false := by simp; omega
        have hn2 : (n == 0) = false := by simp; omega
        have Hn2 := hide hn2
        clear hn2
        go_wp2_with fail
        refine (take_any (Rd.setN hR2 n) hs 47).mono ?_
        rintro e w3 ⟨rfl, hR3, hg3⟩
        rw [show tk s (p1 + n) b1 47 = (p3, b3) from by have := unhide Hu; rw [unhide Hn2, Bool.or_false] at this; exact this] at hR3
        dsimp only at hR3
        clear c5 c2 f2
        go_wp2_with fail
        refine (takeLetters_any hR3 hs 16 (by omega)).mono ?_
        rintro e w4 ⟨rfl, hR4, hg4⟩
        rw [unhide Hm] at hR4 ⊢
        have c6 := hR4.cell 7
        have f6 := hR4.frozen 7
        simp at c6
        go_wp2_with fail
        refine (take_any (Rd.setM hR4 m) hs 58).mono ?_
        rintro e w5 ⟨rfl, hR5, hg5⟩
        rw [unhide Hv] at hR5
        have z0 := hR5.cell 0
        have z1 := hR5.cell 1
        have z3 := hR5.cell 3
        have zf := fun j => hR5.frozen j
        simp at z0 z1 z3
        clear c6 f6
        have zle : (v.1 : Int) ≤ (s.size : Int) := by omega
        have zs0 := And.intro z0 z1
        have zs1 := text_two hR5 (s.extract 0 v.1)
        go_wp2_with fail
        go_region_held3 (fun w' => w'.cell? ⟨b, 0, none⟩ = some (.string s) ∧ w'.cell? ⟨b, 1, none⟩ = some (.int .i64 v.1)) (first | assumption | go_keep) (fail)
        go_wp2_with fail
        go_end0
        exact ⟨rfl, Rd.drewN (Rd.setT hR5 _) 1, gb_drewN (gb_set (gb_trans (gb_set (gb_trans (gb_trans (gb_set (gb_trans hgk hg2) _ (.inl rfl)) hg3) hg4) _ (.inl rfl)) hg5) _ (.inl rfl)) 1⟩
end
end Go.Proofs.YtnkbfdbbcaffmaaGreatDoor
/-
  The commands' row; redirect.
-/
namespace Go.Proofs.YtnkbfdbbcaffmaaGreatDoor
open Go.RowKit

def flat (cs : List Cm) : List Value := cs.flatMap fun c => c.cells.toList

theorem flat_length : ∀ cs : List Cm, (flat cs).length = cs.length * 11
  | [] => rfl
  | c :: cs => by
    have := flat_length cs
    simp only [flat, List.flatMap_cons, List.length_append, List.length_cons] at *
    rw [this]; simp [Cm.cells]; omega

theorem flat_get : ∀ (cs : List Cm) (i : Nat) (c : Cm) (j : Nat), cs[i]? = some c → j < 11 → (flat cs)[i * 11 + j]? = c.cells.toList[j]?
  | [], i, c, j, h, _ => by simp at h
  | d :: cs, 0, c, j, h, hj => by
    simp at h; subst h
    have hl : d.cells.toList.length = 11 := rfl
    simp only [flat, List.flatMap_cons]
    rw [List.getElem?_append_left (by rw [hl]; omega)]; congr 1; omega
  | d :: cs, i + 1, c, j, h, hj => by
    simp at h
    have := flat_get cs i c j h hj
    have hl : d.cells.toList.length = 11 := rfl
    simp only [flat, List.flatMap_cons] at *
    rw [List.getElem?_append_right (by rw [hl]; omega), hl, show (i + 1) * 11 + j - 11 = i * 11 + j from by omega]
    exact this

theorem flat_set : ∀ (cs : List Cm) (i : Nat) (c c' : Cm) (j : Nat) (v : Value), cs[i]? = some c → j < 11 → c'.cells.toList = c.cells.toList.set j v → (flat cs).set (i * 11 + j) v = flat (cs.set i c')
  | [], i, c, c', j, v, h, _, _ => by simp at h
  | d :: cs, 0, c, c', j, v, h, hj, he => by
    simp at h; subst h
    have hl : d.cells.toList.length = 11 := rfl
    simp only [flat, List.flatMap_cons, List.set_cons_zero]
    rw [List.set_append_left _ _ (by rw [hl]; omega), he, show 0 * 11 + j = j from by omega]
  | d :: cs, i + 1, c, c', j, v, h, hj, he => by
    simp at h
    have := flat_set cs i c c' j v h hj he
    have hl : d.cells.toList.length = 11 := rfl
    simp only [flat, List.flatMap_cons, List.set_cons_succ] at *
    rw [List.set_append_right _ _ (by rw [hl]; omega), hl, show (i + 1) * 11 + j - 11 = i * 11 + j from by omega, this]

def red (old now : Int) (c : Cm) : Cm := { c with yes := if c.yes = old then now else c.yes, no := if c.no = old then now else c.no }
/-- What redirect has made of the commands from lo to hi - 1. -/
def rdr (cs : List Cm) (lo hi : Nat) (old now : Int) : List Cm := cs.mapIdx fun i c => if lo ≤ i ∧ i < hi then red old now c else c

theorem rdr_length (cs : List Cm) (lo hi : Nat) (old now : Int) : (rdr cs lo hi old now).length = cs.length := by simp [rdr]
theorem rdr_get (cs : List Cm) (lo hi : Nat) (old now : Int) (i : Nat) : (rdr cs lo hi old now)[i]? = (cs[i]?).map fun c => if lo ≤ i ∧ i < hi then red old now c else c := by simp [rdr]
theorem rdr_start (cs : List Cm) (lo : Nat) (old now : Int) : rdr cs lo lo old now = cs := by
  apply List.ext_getElem?
  intro i
  rw [rdr_get]
  cases cs[i]? with
  | none => rfl
  | some c => simp; intro h1 h2; omega
theorem rdr_step (cs : List Cm) (lo hi : Nat) (old now : Int) (c : Cm) (h : cs[hi]? = some c) (hlo : lo ≤ hi) : (rdr cs lo hi old now).set hi (red old now c) = rdr cs lo (hi + 1) old now := by
  apply List.ext_getElem?
  intro i
  rw [List.getElem?_set, rdr_get, rdr_get, rdr_length]
  by_cases e : hi = i
  · subst e
    have hl : hi < cs.length := by
      have := List.getElem?_eq_some_iff.1 h; exact this.1
    rw [if_pos rfl, if_pos hl, h]; simp [hlo]
  · rw [if_neg e]
    cases cs[i]? with
    | none => rfl
    | some d =>
      simp only [Option.map_some, Option.some.injEq]
      by_cases h1 : lo ≤ i ∧ i < hi
      · rw [if_pos h1, if_pos (by omega)]
      · rw [if_neg h1, if_neg (by omega)]

/-- The commands lie in a row of their own behind the reader. -/
def Own (w : World) (b : Nat) (cv : Value) (cs : List Cm) : Prop := w.ownsRow (b + 1) 118 11 cv cs.length (flat cs)

section
variable {w w' : World} {b : Nat} {s : ByteArray} {p : Nat} {bad : Bool} {ht : ByteArray} {hw hv hn hm : Int} {cv : Value} {cs : List Cm} {g cap n : Nat}

theorem Own.form (h : Own w b cv cs) (hne : cs ≠ []) : ∃ g cap, cv = .slice (some ⟨g, 0, none⟩) cs.length cap ∧ b < g := by
  rcases h.2 with ⟨_, h0⟩ | ⟨g, cap, cur, h', hb, _⟩
  · exact absurd (List.eq_nil_of_length_eq_zero h0) hne
  · exact ⟨g, cap, h', by omega⟩

theorem Own.len (h : Own w b (.slice (some ⟨g, 0, none⟩) n cap) cs) : n = cs.length := by
  rcases h.2 with ⟨h0, _⟩ | ⟨g, cap, cur, h', hb, _⟩
  · cases h0
  · cases h'; rfl

theorem Own.at_ (h : Own w b (.slice (some ⟨g, 0, none⟩) n cap) cs) {i : Nat} {c : Cm} (hi : cs[i]? = some c) (j : Nat) (hj : j < 11) : w.cell? ⟨g, i * 11 + j, none⟩ = c.cells.toList[j]? := by
  have hl : i < cs.length := (List.getElem?_eq_some_iff.1 hi).1
  obtain rfl := h.len
  rw [World.ownsRow.cellAt h (i * 11 + j) (by omega)]
  exact flat_get cs i c j hi hj
theorem Own.fz (h : Own w b (.slice (some ⟨g, 0, none⟩) n cap) cs) (j : Nat) : w.frozen? ⟨g, j, none⟩ = false := by
  obtain rfl := h.len
  exact World.ownsRow.frozenAt h j
theorem Own.put (h : Own w b (.slice (some ⟨g, 0, none⟩) n cap) cs) {i : Nat} {c c' : Cm} {j : Nat} {v : Value} (hi : cs[i]? = some c) (hj : j < 11) (he : c'.cells.toList = c.cells.toList.set j v) :
    Own (w.setCell ⟨g, i * 11 + j, none⟩ v) b (.slice (some ⟨g, 0, none⟩) n cap) (cs.set i c') := by
  obtain rfl := h.len
  have := (World.ownsRow.stored h (i * 11 + j) v).1
  rw [flat_set cs i c c' j v hi hj he] at this
  unfold Own
  rw [List.length_set]
  exact this

theorem red_same (old now : Int) (c : Cm) (h1 : c.yes ≠ old) (h2 : c.no ≠ old) : red old now c = c := by
  unfold red; rw [if_neg h1, if_neg h2]
theorem set_same (L : List Cm) (i : Nat) (c : Cm) (h : L[i]? = some c) : L.set i c = L := by
  apply List.ext_getElem?
  intro j
  rw [List.getElem?_set]
  by_cases e : i = j
  · subst e
    have hl : i < L.length := (List.getElem?_eq_some_iff.1 h).1
    rw [if_pos rfl, if_pos hl, h]
  · rw [if_neg e]

set_option maxHeartbeats 2000000 in
theorem redirect_any (hR : Rd w b s p bad ht hw hv hn hm cv) (hO : Own w b cv cs) (lo hi : Nat) (now : Nat) (hlo : lo < hi) (hhi : hi ≤ cs.length) (hcl : cs.length ≤ 1000) :
    Calls Tryz.prog 142 #[.pointer (some ⟨b, 0, none⟩), .int .i64 lo, .int .i64 hi, .int .i64 now] w fun e w' => e = .returned (.tuple #[]) ∧ Rd w' b s p bad ht hw hv hn hm cv ∧ Own w' b cv (rdr cs lo hi hi now) ∧ Below b w w' := by
  obtain ⟨g, cap, rfl, hg⟩ := hO.form (by rintro rfl; simp at hhi; omega)
  go_enter Tryz.func142, Tryz.ntmps142
  go_wp2_with fail
  go_loopw [8] (fun i wr => ∃ k : Nat, i = .int .i64 k ∧ lo ≤ k ∧ k ≤ hi ∧ Rd wr b s p bad ht hw hv hn hm (.slice (some ⟨g, 0, none⟩) cs.length cap) ∧ Own wr b (.slice (some ⟨g, 0, none⟩) cs.length cap) (rdr cs lo k hi now) ∧ Below b w wr) (fun i _ => hi - (intOf i).toNat)
  case atStart => exact ⟨lo, rfl, Nat.le_refl _, Nat.le_of_lt hlo, hR, by rw [rdr_start]; exact hO, Below.refl _ _⟩
  case round =>
    obtain ⟨k, rfl, hk1, hk2, hRk, hOk, hBk⟩ := hrel
    by_cases hlt : k < hi
    · obtain ⟨c, hc⟩ : ∃ c, cs[k]? = some c := ⟨_, List.getElem?_eq_getElem (by omega)⟩
      have hc' : (rdr cs lo k hi now)[k]? = some c := by rw [rdr_get, hc]; simp
      have hst := rdr_step cs lo k hi now c hc hk1
      have c7 := hRk.cell 8
      simp at c7
      have y := hOk.at_ hc' 7 (by omega)
      have z := hOk.at_ hc' 8 (by omega)
      have fz := fun j => hOk.fz j
      simp [Cm.cells] at y z
      have Hst := hide hst
      have Hc' := hide hc'
      clear hst hc' hc
      have hne : ∀ a : Addr, a.block = g → a.block ≠ b := by intro a ha; omega
      by_cases q1 : c.yes = hi
      · have q1' : (c.yes == (hi : Int)) = true := by simpa using q1
        have hO1 : Own (wr.setCell ⟨g, k * 11 + 7, none⟩ (.int .i64 now)) b (.slice (some ⟨g, 0, none⟩) cs.length cap) ((rdr cs lo k hi now).set k { c with yes := now }) := hOk.put (unhide Hc') (by omega) rfl
        have Q1 := hide q1
        clear q1
        by_cases q2 : c.no = hi
        · have q2' : (c.no == (hi : Int)) = true := by simpa using q2
          have hlen : k < (rdr cs lo k hi now).length := by rw [rdr_length]; omega
          have hO2 := hO1.put (i := k) (c := { c with yes := now }) (c' := { c with yes := now, no := now }) (j := 8) (v := .int .i64 now) (by rw [List.getElem?_set, if_pos rfl, if_pos hlen]) (by omega) rfl
          rw [List.set_set] at hO2
          have e : red hi now c = { c with yes := now, no := now } := by unfold red; rw [if_pos (unhide Q1), if_pos q2]
          rw [← e, unhide Hst] at hO2
          clear q2 e
          go_wp2_with fail
          go_roundw
          case rel => exact ⟨k + 1, by go_num, by omega, by omega, (hRk.other _ (hne _ rfl)).other _ (hne _ rfl), hO2, (hBk.setCell (Nat.le_of_lt hg) _).setCell (Nat.le_of_lt hg) _⟩
          case measure => simp [intOf]; omega
        · have q2' : (c.no == (hi : Int)) = false := by simpa using q2
          have e : red hi now c = { c with yes := now } := by unfold red; rw [if_pos (unhide Q1), if_neg q2]
          rw [← e, unhide Hst] at hO1
          clear q2 e
          go_wp2_with fail
          go_roundw
          case rel => exact ⟨k + 1, by go_num, by omega, by omega, hRk.other _ (hne _ rfl), hO1, hBk.setCell (Nat.le_of_lt hg) _⟩
          case measure => simp [intOf]; omega
      · have q1' : (c.yes == (hi : Int)) = false := by simpa using q1
        have Q1 := hide q1
        clear q1
        by_cases q2 : c.no = hi
        · have q2' : (c.no == (hi : Int)) = true := by simpa using q2
          have hO1 : Own (wr.setCell ⟨g, k * 11 + 8, none⟩ (.int .i64 now)) b (.slice (some ⟨g, 0, none⟩) cs.length cap) ((rdr cs lo k hi now).set k { c with no := now }) := hOk.put (unhide Hc') (by omega) rfl
          have e : red hi now c = { c with no := now } := by unfold red; rw [if_neg (unhide Q1), if_pos q2]
          rw [← e, unhide Hst] at hO1
          clear q2 e
          go_wp2_with fail
          go_roundw
          case rel => exact ⟨k + 1, by go_num, by omega, by omega, hRk.other _ (hne _ rfl), hO1, hBk.setCell (Nat.le_of_lt hg) _⟩
          case measure => simp [intOf]; omega
        · have q2' : (c.no == (hi : Int)) = false := by simpa using q2
          have hO1 : Own wr b (.slice (some ⟨g, 0, none⟩) cs.length cap) (rdr cs lo (k + 1) hi now) := by
            rw [← unhide Hst, red_same _ _ _ (unhide Q1) q2, set_same _ _ _ (unhide Hc')]; exact hOk
          clear q2
          go_wp2_with fail
          go_roundw
          case rel => exact ⟨k + 1, by go_num, by omega, by omega, hRk, hO1, hBk⟩
          case measure => simp [intOf]; omega
    · obtain rfl : k = hi := by omega
      go_wp2_with fail
      go_end0
      exact ⟨rfl, hRk, hOk, hBk⟩
end
end Go.Proofs.YtnkbfdbbcaffmaaGreatDoor
