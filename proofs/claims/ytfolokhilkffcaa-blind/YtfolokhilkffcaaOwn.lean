/-
  The commands' row; redirect.
-/
import Derived.Test.YtfolokhilkffcaaCmd
namespace Go.Proofs.Ytfolokhilkffcaa
open Go.RowKit

def flat (cs : List Cm) : List Value := cs.flatMap fun c => c.cells.toList

theorem flat_length : ∀ cs : List Cm, (flat cs).length = cs.length * 9
  | [] => rfl
  | c :: cs => by
    have := flat_length cs
    simp only [flat, List.flatMap_cons, List.length_append, List.length_cons] at *
    rw [this]; simp [Cm.cells]; omega

theorem flat_get : ∀ (cs : List Cm) (i : Nat) (c : Cm) (j : Nat), cs[i]? = some c → j < 9 → (flat cs)[i * 9 + j]? = c.cells.toList[j]?
  | [], i, c, j, h, _ => by simp at h
  | d :: cs, 0, c, j, h, hj => by
    simp at h; subst h
    have hl : d.cells.toList.length = 9 := rfl
    simp only [flat, List.flatMap_cons]
    rw [List.getElem?_append_left (by rw [hl]; omega)]; congr 1; omega
  | d :: cs, i + 1, c, j, h, hj => by
    simp at h
    have := flat_get cs i c j h hj
    have hl : d.cells.toList.length = 9 := rfl
    simp only [flat, List.flatMap_cons] at *
    rw [List.getElem?_append_right (by rw [hl]; omega), hl, show (i + 1) * 9 + j - 9 = i * 9 + j from by omega]
    exact this

theorem flat_set : ∀ (cs : List Cm) (i : Nat) (c c' : Cm) (j : Nat) (v : Value), cs[i]? = some c → j < 9 → c'.cells.toList = c.cells.toList.set j v → (flat cs).set (i * 9 + j) v = flat (cs.set i c')
  | [], i, c, c', j, v, h, _, _ => by simp at h
  | d :: cs, 0, c, c', j, v, h, hj, he => by
    simp at h; subst h
    have hl : d.cells.toList.length = 9 := rfl
    simp only [flat, List.flatMap_cons, List.set_cons_zero]
    rw [List.set_append_left _ _ (by rw [hl]; omega), he, show 0 * 9 + j = j from by omega]
  | d :: cs, i + 1, c, c', j, v, h, hj, he => by
    simp at h
    have := flat_set cs i c c' j v h hj he
    have hl : d.cells.toList.length = 9 := rfl
    simp only [flat, List.flatMap_cons, List.set_cons_succ] at *
    rw [List.set_append_right _ _ (by rw [hl]; omega), hl, show (i + 1) * 9 + j - 9 = i * 9 + j from by omega, this]

def red (old now : Int) (c : Cm) : Cm := { c with yes := if c.yes = old then now else c.yes, no := if c.no = old then now else c.no }
/-- What redirect has made of the commands from lo to hi - 1. -/
def rdr (cs : List Cm) (lo hi : Nat) (old now : Int) : List Cm := cs.mapIdx fun i c => if lo ≤ i ∧ i < hi then red old now c else c

theorem rdr_length (cs : List Cm) (lo hi : Nat) (old now : Int) : (rdr cs lo hi old now).length = cs.length := by simp [rdr]
theorem rdr_get (cs : List Cm) (lo hi : Nat) (old now : Int) (i : Nat) : (rdr cs lo hi old now)[i]? = (cs[i]?).map fun c => if lo ≤ i ∧ i < hi then red old now c else c := by simp [rdr]
theorem rdr_start (cs : List Cm) (lo : Nat) (old now : Int) : rdr cs lo lo old now = cs := by
  apply List.ext_getElem?
  intro i
  rw [rdr_get]
  cases cs[i]? with
  | none => rfl
  | some c => simp; intro h1 h2; omega
theorem rdr_step (cs : List Cm) (lo hi : Nat) (old now : Int) (c : Cm) (h : cs[hi]? = some c) (hlo : lo ≤ hi) : (rdr cs lo hi old now).set hi (red old now c) = rdr cs lo (hi + 1) old now := by
  apply List.ext_getElem?
  intro i
  rw [List.getElem?_set, rdr_get, rdr_get, rdr_length]
  by_cases e : hi = i
  · subst e
    have hl : hi < cs.length := by
      have := List.getElem?_eq_some_iff.1 h; exact this.1
    rw [if_pos rfl, if_pos hl, h]; simp [hlo]
  · rw [if_neg e]
    cases cs[i]? with
    | none => rfl
    | some d =>
      simp only [Option.map_some, Option.some.injEq]
      by_cases h1 : lo ≤ i ∧ i < hi
      · rw [if_pos h1, if_pos (by omega)]
      · rw [if_neg h1, if_neg (by omega)]

/-- The commands lie in a row of their own behind the reader. -/
def Own (w : World) (b : Nat) (cv : Value) (cs : List Cm) : Prop := w.ownsRow (b + 1) 74 9 cv cs.length (flat cs)

section
variable {w w' : World} {b : Nat} {s : ByteArray} {p : Nat} {bad : Bool} {hw hv hn hm : Int} {cv : Value} {cs : List Cm} {g cap n : Nat}

theorem Own.form (h : Own w b cv cs) (hne : cs ≠ []) : ∃ g cap, cv = .slice (some ⟨g, 0, none⟩) cs.length cap ∧ b < g := by
  rcases h.2 with ⟨_, h0⟩ | ⟨g, cap, cur, h', hb, _⟩
  · exact absurd (List.eq_nil_of_length_eq_zero h0) hne
  · exact ⟨g, cap, h', by omega⟩

theorem Own.len (h : Own w b (.slice (some ⟨g, 0, none⟩) n cap) cs) : n = cs.length := by
  rcases h.2 with ⟨h0, _⟩ | ⟨g, cap, cur, h', hb, _⟩
  · cases h0
  · cases h'; rfl

theorem Own.at_ (h : Own w b (.slice (some ⟨g, 0, none⟩) n cap) cs) {i : Nat} {c : Cm} (hi : cs[i]? = some c) (j : Nat) (hj : j < 9) : w.cell? ⟨g, i * 9 + j, none⟩ = c.cells.toList[j]? := by
  have hl : i < cs.length := (List.getElem?_eq_some_iff.1 hi).1
  obtain rfl := h.len
  rw [World.ownsRow.cellAt h (i * 9 + j) (by omega)]
  exact flat_get cs i c j hi hj
theorem Own.fz (h : Own w b (.slice (some ⟨g, 0, none⟩) n cap) cs) (j : Nat) : w.frozen? ⟨g, j, none⟩ = false := by
  obtain rfl := h.len
  exact World.ownsRow.frozenAt h j
theorem Own.put (h : Own w b (.slice (some ⟨g, 0, none⟩) n cap) cs) {i : Nat} {c c' : Cm} {j : Nat} {v : Value} (hi : cs[i]? = some c) (hj : j < 9) (he : c'.cells.toList = c.cells.toList.set j v) :
    Own (w.setCell ⟨g, i * 9 + j, none⟩ v) b (.slice (some ⟨g, 0, none⟩) n cap) (cs.set i c') := by
  obtain rfl := h.len
  have := (World.ownsRow.stored h (i * 9 + j) v).1
  rw [flat_set cs i c c' j v hi hj he] at this
  unfold Own
  rw [List.length_set]
  exact this

theorem red_same (old now : Int) (c : Cm) (h1 : c.yes ≠ old) (h2 : c.no ≠ old) : red old now c = c := by
  unfold red; rw [if_neg h1, if_neg h2]
theorem set_same (L : List Cm) (i : Nat) (c : Cm) (h : L[i]? = some c) : L.set i c = L := by
  apply List.ext_getElem?
  intro j
  rw [List.getElem?_set]
  by_cases e : i = j
  · subst e
    have hl : i < L.length := (List.getElem?_eq_some_iff.1 h).1
    rw [if_pos rfl, if_pos hl, h]
  · rw [if_neg e]

set_option maxHeartbeats 2000000 in
theorem redirect_any (hR : Rd w b s p bad hw hv hn hm cv) (hO : Own w b cv cs) (lo hi : Nat) (now : Nat) (hlo : lo < hi) (hhi : hi ≤ cs.length) (hcl : cs.length ≤ 1000) :
    Calls Try.prog 63 #[.pointer (some ⟨b, 0, none⟩), .int .i64 lo, .int .i64 hi, .int .i64 now] w fun e w' => e = .returned (.tuple #[]) ∧ Rd w' b s p bad hw hv hn hm cv ∧ Own w' b cv (rdr cs lo hi hi now) ∧ Below b w w' := by
  obtain ⟨g, cap, rfl, hg⟩ := hO.form (by rintro rfl; simp at hhi; omega)
  go_enter Try.func63, Try.ntmps63
  go_wp2_with fail
  go_loopw [8] (fun i wr => ∃ k : Nat, i = .int .i64 k ∧ lo ≤ k ∧ k ≤ hi ∧ Rd wr b s p bad hw hv hn hm (.slice (some ⟨g, 0, none⟩) cs.length cap) ∧ Own wr b (.slice (some ⟨g, 0, none⟩) cs.length cap) (rdr cs lo k hi now) ∧ Below b w wr) (fun i _ => hi - (intOf i).toNat)
  case atStart => exact ⟨lo, rfl, Nat.le_refl _, Nat.le_of_lt hlo, hR, by rw [rdr_start]; exact hO, Below.refl _ _⟩
  case round =>
    obtain ⟨k, rfl, hk1, hk2, hRk, hOk, hBk⟩ := hrel
    by_cases hlt : k < hi
    · obtain ⟨c, hc⟩ : ∃ c, cs[k]? = some c := ⟨_, List.getElem?_eq_getElem (by omega)⟩
      have hc' : (rdr cs lo k hi now)[k]? = some c := by rw [rdr_get, hc]; simp
      have hst := rdr_step cs lo k hi now c hc hk1
      have c7 := hRk.cell 7
      simp at c7
      have y := hOk.at_ hc' 7 (by omega)
      have z := hOk.at_ hc' 8 (by omega)
      have fz := fun j => hOk.fz j
      simp [Cm.cells] at y z
      have Hst := hide hst
      have Hc' := hide hc'
      clear hst hc' hc
      have hne : ∀ a : Addr, a.block = g → a.block ≠ b := by intro a ha; omega
      by_cases q1 : c.yes = hi
      · have q1' : (c.yes == (hi : Int)) = true := by simpa using q1
        have hO1 : Own (wr.setCell ⟨g, k * 9 + 7, none⟩ (.int .i64 now)) b (.slice (some ⟨g, 0, none⟩) cs.length cap) ((rdr cs lo k hi now).set k { c with yes := now }) := hOk.put (unhide Hc') (by omega) rfl
        have Q1 := hide q1
        clear q1
        by_cases q2 : c.no = hi
        · have q2' : (c.no == (hi : Int)) = true := by simpa using q2
          have hlen : k < (rdr cs lo k hi now).length := by rw [rdr_length]; omega
          have hO2 := hO1.put (i := k) (c := { c with yes := now }) (c' := { c with yes := now, no := now }) (j := 8) (v := .int .i64 now) (by rw [List.getElem?_set, if_pos rfl, if_pos hlen]) (by omega) rfl
          rw [List.set_set] at hO2
          have e : red hi now c = { c with yes := now, no := now } := by unfold red; rw [if_pos (unhide Q1), if_pos q2]
          rw [← e, unhide Hst] at hO2
          clear q2 e
          go_wp2_with fail
          go_roundw
          case rel => exact ⟨k + 1, by go_num, by omega, by omega, (hRk.other _ (hne _ rfl)).other _ (hne _ rfl), hO2, (hBk.setCell (Nat.le_of_lt hg) _).setCell (Nat.le_of_lt hg) _⟩
          case measure => simp [intOf]; omega
        · have q2' : (c.no == (hi : Int)) = false := by simpa using q2
          have e : red hi now c = { c with yes := now } := by unfold red; rw [if_pos (unhide Q1), if_neg q2]
          rw [← e, unhide Hst] at hO1
          clear q2 e
          go_wp2_with fail
          go_roundw
          case rel => exact ⟨k + 1, by go_num, by omega, by omega, hRk.other _ (hne _ rfl), hO1, hBk.setCell (Nat.le_of_lt hg) _⟩
          case measure => simp [intOf]; omega
      · have q1' : (c.yes == (hi : Int)) = false := by simpa using q1
        have Q1 := hide q1
        clear q1
        by_cases q2 : c.no = hi
        · have q2' : (c.no == (hi : Int)) = true := by simpa using q2
          have hO1 : Own (wr.setCell ⟨g, k * 9 + 8, none⟩ (.int .i64 now)) b (.slice (some ⟨g, 0, none⟩) cs.length cap) ((rdr cs lo k hi now).set k { c with no := now }) := hOk.put (unhide Hc') (by omega) rfl
          have e : red hi now c = { c with no := now } := by unfold red; rw [if_neg (unhide Q1), if_pos q2]
          rw [← e, unhide Hst] at hO1
          clear q2 e
          go_wp2_with fail
          go_roundw
          case rel => exact ⟨k + 1, by go_num, by omega, by omega, hRk.other _ (hne _ rfl), hO1, hBk.setCell (Nat.le_of_lt hg) _⟩
          case measure => simp [intOf]; omega
        · have q2' : (c.no == (hi : Int)) = false := by simpa using q2
          have hO1 : Own wr b (.slice (some ⟨g, 0, none⟩) cs.length cap) (rdr cs lo (k + 1) hi now) := by
            rw [← unhide Hst, red_same _ _ _ (unhide Q1) q2, set_same _ _ _ (unhide Hc')]; exact hOk
          clear q2
          go_wp2_with fail
          go_roundw
          case rel => exact ⟨k + 1, by go_num, by omega, by omega, hRk, hO1, hBk⟩
          case measure => simp [intOf]; omega
    · obtain rfl : k = hi := by omega
      go_wp2_with fail
      go_end0
      exact ⟨rfl, hRk, hOk, hBk⟩
end
end Go.Proofs.Ytfolokhilkffcaa
