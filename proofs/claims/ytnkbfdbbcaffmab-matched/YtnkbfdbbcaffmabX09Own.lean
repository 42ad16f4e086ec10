import Derived.Test.YtnkbfdbbcaffmabX03Cmd
import Derived.Test.YtnkbfdbbcaffmabX04Mach2
/-
  The commands' row; redirect.
-/
namespace Go.Proofs.Ytnkbfdbbcaffmab
open Go.RowKit

def flat (cs : List Cm) : List Value := cs.flatMap fun c => c.cells.toList

theorem flat_length : ∀ cs : List Cm, (flat cs).length = cs.length * 11
  | [] => rfl
  | c :: cs => by
    have := flat_length cs
    simp only [flat, List.flatMap_cons, List.length_append, List.length_cons] at *
    rw [this]; simp [Cm.cells]; omega

theorem flat_get : ∀ (cs : List Cm) (i : Nat) (c : Cm) (j : Nat), cs[i]? = some c → j < 11 → (flat cs)[i * 11 + j]? = c.cells.toList[j]?
  | [], i, c, j, h, _ => by simp at h
  | d :: cs, 0, c, j, h, hj => by
    simp at h; subst h
    have hl : d.cells.toList.length = 11 := rfl
    simp only [flat, List.flatMap_cons]
    rw [List.getElem?_append_left (by rw [hl]; omega)]; congr 1; omega
  | d :: cs, i + 1, c, j, h, hj => by
    simp at h
    have := flat_get cs i c j h hj
    have hl : d.cells.toList.length = 11 := rfl
    simp only [flat, List.flatMap_cons] at *
    rw [List.getElem?_append_right (by rw [hl]; omega), hl, show (i + 1) * 11 + j - 11 = i * 11 + j from by omega]
    exact this

theorem flat_set : ∀ (cs : List Cm) (i : Nat) (c c' : Cm) (j : Nat) (v : Value), cs[i]? = some c → j < 11 → c'.cells.toList = c.cells.toList.set j v → (flat cs).set (i * 11 + j) v = flat (cs.set i c')
  | [], i, c, c', j, v, h, _, _ => by simp at h
  | d :: cs, 0, c, c', j, v, h, hj, he => by
    simp at h; subst h
    have hl : d.cells.toList.length = 11 := rfl
    simp only [flat, List.flatMap_cons, List.set_cons_zero]
    rw [List.set_append_left _ _ (by rw [hl]; omega), he, show 0 * 11 + j = j from by omega]
  | d :: cs, i + 1, c, c', j, v, h, hj, he => by
    simp at h
    have := flat_set cs i c c' j v h hj he
    have hl : d.cells.toList.length = 11 := rfl
    simp only [flat, List.flatMap_cons, List.set_cons_succ] at *
    rw [List.set_append_right _ _ (by rw [hl]; omega), hl, show (i + 1) * 11 + j - 11 = i * 11 + j from by omega, this]

def red (old now : Int) (c : Cm) : Cm := { c with yes := if c.yes = old then now else c.yes, no := if c.no = old then now else c.no }
/-- What redirect has made of the commands from lo to hi - 1. -/
def rdr (cs : List Cm) (lo hi : Nat) (old now : Int) : List Cm := cs.mapIdx fun i c => if lo ≤ i ∧ i < hi then red old now c else c

theorem rdr_length (cs : List Cm) (lo hi : Nat) (old now : Int) : (rdr cs lo hi old now).length = cs.length := by simp [rdr]
theorem rdr_get (cs : List Cm) (lo hi : Nat) (old now : Int) (i : Nat) : (rdr cs lo hi old now)[i]? = (cs[i]?).map fun c => if lo ≤ i ∧ i < hi then red old now c else c := by simp [rdr]
theorem rdr_start (cs : List Cm) (lo : Nat) (old now : Int) : rdr cs lo lo old now = cs := by
  apply List.ext_getElem?
  intro i
  rw [rdr_get]
  cases cs[i]? with
  | none => rfl
  | some c => simp; intro h1 h2; omega
theorem rdr_step (cs : List Cm) (lo hi : Nat) (old now : Int) (c : Cm) (h : cs[hi]? = some c) (hlo : lo ≤ hi) : (rdr cs lo hi old now).set hi (red old now c) = rdr cs lo (hi + 1) old now := by
  apply List.ext_getElem?
  intro i
  rw [List.getElem?_set, rdr_get, rdr_get, rdr_length]
  by_cases e : hi = i
  · subst e
    have hl : hi < cs.length := by
      have := List.getElem?_eq_some_iff.1 h; exact this.1
    rw [if_pos rfl, if_pos hl, h]; simp [hlo]
  · rw [if_neg e]
    cases cs[i]? with
    | none => rfl
    | some d =>
      simp only [Option.map_some, Option.some.injEq]
      by_cases h1 : lo ≤ i ∧ i < hi
      · rw [if_pos h1, if_pos (by omega)]
      · rw [if_neg h1, if_neg (by omega)]

/-- The commands lie in a row of their own behind the reader. -/
def Own (w : World) (b : Nat) (cv : Value) (cs : List Cm) : Prop := w.ownsRow (b + 1) 74 11 cv cs.length (flat cs)

section
variable {w w' : World} {b : Nat} {s : ByteArray} {p : Nat} {bad : Bool} {ht : ByteArray} {hw hv hn hm : Int} {cv : Value} {cs : List Cm} {g cap n : Nat}

theorem Own.form (h : Own w b cv cs) (hne : cs ≠ []) : ∃ g cap, cv = .slice (some ⟨g, 0, none⟩) cs.length cap ∧ b < g := by
  rcases h.2 with ⟨_, h0⟩ | ⟨g, cap, cur, h', hb, _⟩
  · exact absurd (List.eq_nil_of_length_eq_zero h0) hne
  · exact ⟨g, cap, h', by omega⟩

theorem Own.len (h : Own w b (.slice (some ⟨g, 0, none⟩) n cap) cs) : n = cs.length := by
  rcases h.2 with ⟨h0, _⟩ | ⟨g, cap, cur, h', hb, _⟩
  · cases h0
  · cases h'; rfl

theorem Own.at_ (h : Own w b (.slice (some ⟨g, 0, none⟩) n cap) cs) {i : Nat} {c : Cm} (hi : cs[i]? = some c) (j : Nat) (hj : j < 11) : w.cell? ⟨g, i * 11 + j, none⟩ = c.cells.toList[j]? := by
  have hl : i < cs.length := (List.getElem?_eq_some_iff.1 hi).1
  obtain rfl := h.len
  rw [World.ownsRow.cellAt h (i * 11 + j) (by omega)]
  exact flat_get cs i c j hi hj
theorem Own.fz (h : Own w b (.slice (some ⟨g, 0, none⟩) n cap) cs) (j : Nat) : w.frozen? ⟨g, j, none⟩ = false := by
  obtain rfl := h.len
  exact World.ownsRow.frozenAt h j
theorem Own.put (h : Own w b (.slice (some ⟨g, 0, none⟩) n cap) cs) {i : Nat} {c c' : Cm} {j : Nat} {v : Value} (hi : cs[i]? = some c) (hj : j < 11) (he : c'.cells.toList = c.cells.toList.set j v) :
    Own (w.setCell ⟨g, i * 11 + j, none⟩ v) b (.slice (some ⟨g, 0, none⟩) n cap) (cs.set i c') := by
  obtain rfl := h.len
  have := (World.ownsRow.stored h (i * 11 + j) v).1
  rw [flat_set cs i c c' j v hi hj he] at this
  unfold Own
  rw [List.length_set]
  exact this

theorem red_same (old now : Int) (c : Cm) (h1 : c.yes ≠ old) (h2 : c.no ≠ old) : red old now c = c := by
  unfold red; rw [if_neg h1, if_neg h2]
theorem set_same (L : List Cm) (i : Nat) (c : Cm) (h : L[i]? = some c) : L.set i c = L := by
  apply List.ext_getElem?
  intro j
  rw [List.getElem?_set]
  by_cases e : i = j
  · subst e
    have hl : i < L.length := (List.getElem?_eq_some_iff.1 h).1
    rw [if_pos rfl, if_pos hl, h]
  · rw [if_neg e]

set_option maxHeartbeats 2000000 in
theorem redirect_any (hR : Rd w b s p bad ht hw hv hn hm cv) (hO : Own w b cv cs) (lo hi : Nat) (now : Nat) (hlo : lo < hi) (hhi : hi ≤ cs.length) (hcl : cs.length ≤ 1000) :
    Calls Try.prog 88 #[.pointer (some ⟨b, 0, none⟩), .int .i64 lo, .int .i64 hi, .int .i64 now] w fun e w' => e = .returned (.tuple #[]) ∧ Rd w' b s p bad ht hw hv hn hm cv ∧ Own w' b cv (rdr cs lo hi hi now) ∧ Below b w w' := by
  obtain ⟨g, cap, rfl, hg⟩ := hO.form (by rintro rfl; simp at hhi; omega)
  go_enter Try.func88, Try.ntmps88
  go_wp2_with fail
  go_loopw [8] (fun i wr => ∃ k : Nat, i = .int .i64 k ∧ lo ≤ k ∧ k ≤ hi ∧ Rd wr b s p bad ht hw hv hn hm (.slice (some ⟨g, 0, none⟩) cs.length cap) ∧ Own wr b (.slice (some ⟨g, 0, none⟩) cs.length cap) (rdr cs lo k hi now) ∧ Below b w wr) (fun i _ => hi - (intOf i).toNat)
  case atStart => exact ⟨lo, rfl, Nat.le_refl _, Nat.le_of_lt hlo, hR, by rw [rdr_start]; exact hO, Below.refl _ _⟩
  case round =>
    obtain ⟨k, rfl, hk1, hk2, hRk, hOk, hBk⟩ := hrel
    by_cases hlt : k < hi
    · obtain ⟨c, hc⟩ : ∃ c, cs[k]? = some c := ⟨_, List.getElem?_eq_getElem (by omega)⟩
      have hc' : (rdr cs lo k hi now)[k]? = some c := by rw [rdr_get, hc]; simp
      have hst := rdr_step cs lo k hi now c hc hk1
      have c7 := hRk.cell 8
      simp at c7
      have y := hOk.at_ hc' 7 (by omega)
      have z := hOk.at_ hc' 8 (by omega)
      have fz := fun j => hOk.fz j
      simp [Cm.cells] at y z
      have Hst := hide hst
      have Hc' := hide hc'
      clear hst hc' hc
      have hne : ∀ a : Addr, a.block = g → a.block ≠ b := by intro a ha; omega
      by_cases q1 : c.yes = hi
      · have q1' : (c.yes == (hi : Int)) = true := by simpa using q1
        have hO1 : Own (wr.setCell ⟨g, k * 11 + 7, none⟩ (.int .i64 now)) b (.slice (some ⟨g, 0, none⟩) cs.length cap) ((rdr cs lo k hi now).set k { c with yes := now }) := hOk.put (unhide Hc') (by omega) rfl
        have Q1 := hide q1
        clear q1
        by_cases q2 : c.no = hi
        · have q2' : (c.no == (hi : Int)) = true := by simpa using q2
          have hlen : k < (rdr cs lo k hi now).length := by rw [rdr_length]; omega
          have hO2 := hO1.put (i := k) (c := { c with yes := now }) (c' := { c with yes := now, no := now }) (j := 8) (v := .int .i64 now) (by rw [List.getElem?_set, if_pos rfl, if_pos hlen]) (by omega) rfl
          rw [List.set_set] at hO2
          have e : red hi now c = { c with yes := now, no := now } := by unfold red; rw [if_pos (unhide Q1), if_pos q2]
          rw [← e, unhide Hst] at hO2
          clear q2 e
          go_wp2_with fail
          go_roundw
          case rel => exact ⟨k + 1, by go_num, by omega, by omega, (hRk.other _ (hne _ rfl)).other _ (hne _ rfl), hO2, (hBk.setCell (Nat.le_of_lt hg) _).setCell (Nat.le_of_lt hg) _⟩
          case measure => simp [intOf]; omega
        · have q2' : (c.no == (hi : Int)) = false := by simpa using q2
          have e : red hi now c = { c with yes := now } := by unfold red; rw [if_pos (unhide Q1), if_neg q2]
          rw [← e, unhide Hst] at hO1
          clear q2 e
          go_wp2_with fail
          go_roundw
          case rel => exact ⟨k + 1, by go_num, by omega, by omega, hRk.other _ (hne _ rfl), hO1, hBk.setCell (Nat.le_of_lt hg) _⟩
          case measure => simp [intOf]; omega
      · have q1' : (c.yes == (hi : Int)) = false := by simpa using q1
        have Q1 := hide q1
        clear q1
        by_cases q2 : c.no = hi
        · have q2' : (c.no == (hi : Int)) = true := by simpa using q2
          have hO1 : Own (wr.setCell ⟨g, k * 11 + 8, none⟩ (.int .i64 now)) b (.slice (some ⟨g, 0, none⟩) cs.length cap) ((rdr cs lo k hi now).set k { c with no := now }) := hOk.put (unhide Hc') (by omega) rfl
          have e : red hi now c = { c with no := now } := by unfold red; rw [if_neg (unhide Q1), if_pos q2]
          rw [← e, unhide Hst] at hO1
          clear q2 e
          go_wp2_with fail
          go_roundw
          case rel => exact ⟨k + 1, by go_num, by omega, by omega, hRk.other _ (hne _ rfl), hO1, hBk.setCell (Nat.le_of_lt hg) _⟩
          case measure => simp [intOf]; omega
        · have q2' : (c.no == (hi : Int)) = false := by simpa using q2
          have hO1 : Own wr b (.slice (some ⟨g, 0, none⟩) cs.length cap) (rdr cs lo (k + 1) hi now) := by
            rw [← unhide Hst, red_same _ _ _ (unhide Q1) q2, set_same _ _ _ (unhide Hc')]; exact hOk
          clear q2
          go_wp2_with fail
          go_roundw
          case rel => exact ⟨k + 1, by go_num, by omega, by omega, hRk, hO1, hBk⟩
          case measure => simp [intOf]; omega
    · obtain rfl : k = hi := by omega
      go_wp2_with fail
      go_end0
      exact ⟨rfl, hRk, hOk, hBk⟩
end
end Go.Proofs.Ytnkbfdbbcaffmab
/-
  The reader as a plain function, and what it keeps.
-/
namespace Go.Proofs.Ytnkbfdbbcaffmab
open Go.RowKit

/-- What takeCommand makes of the place, where a byte stands that a command begins with. -/
def tcmd (s : ByteArray) (p : Nat) (hv hn k : Int) : Nat × Bool × Cm :=
  if k = 61 then cmSet s (p + 1) hv hn else if k = 108 then cmLoad s (p + 1) hv hn else if k = 115 then cmStore s (p + 1) hv hn else cmTest s (p + 1) hv hn k

theorem tcmd_kind (s : ByteArray) (p : Nat) (hv hn k : Int) : (tcmd s p hv hn k).2.2.kind = k := by
  unfold tcmd
  split
  · simp [cmSet, *]
  · split
    · simp [cmLoad, *]
    · split
      · simp [cmStore, *]
      · simp [cmTest]

/-- The place, the mark and the commands. -/
structure PS where
  p : Nat
  bad : Bool
  cs : List Cm

theorem opnd_fwd (s : ByteArray) (p : Nat) (bad : Bool) (hv hn : Int) (h : p ≤ s.size) : Fwd s p bad (opnd s p bad hv hn).1 (opnd s p bad hv hn).2.1 := by
  unfold opnd
  split
  · exact tb_fwd s p bad _ _ h
  · exact tb_fwd s p bad _ _ h

theorem opn_fwd (s : ByteArray) (p : Nat) (bad : Bool) (h : p ≤ s.size) : Fwd s p bad (opn s p bad).1 (opn s p bad).2.1 := by
  unfold opn
  split
  · exact tk_fwd s p bad _ h
  · exact ⟨Nat.le_refl _, h, fun _ => ⟨rfl, rfl⟩⟩

theorem tcmd_fwd (s : ByteArray) (p : Nat) (hv hn k : Int) (h : p < s.size) : Fwd s (p + 1) false (tcmd s p hv hn k).1 (tcmd s p hv hn k).2.1 := by
  unfold tcmd
  split
  · unfold cmSet; dsimp only
    have h1 := tb_fwd s (p + 1) false 97 (97 + hn - 1) h
    have h2 := opnd_fwd s _ (tb s (p + 1) false 97 (97 + hn - 1)).2.1 hv hn h1.2.1
    have h3 := opn_fwd s _ (opnd s (tb s (p + 1) false 97 (97 + hn - 1)).1 (tb s (p + 1) false 97 (97 + hn - 1)).2.1 hv hn).2.1 h2.2.1
    exact h1.trans (h2.trans (h3.trans (opnd_fwd s _ _ hv hn h3.2.1)))
  · split
    · unfold cmLoad; dsimp only
      have h1 := tb_fwd s (p + 1) false 97 (97 + hn - 1) h
      have h2 := opnd_fwd s _ (tb s (p + 1) false 97 (97 + hn - 1)).2.1 hv hn h1.2.1
      exact h1.trans h2
    · split
      · unfold cmStore; dsimp only
        have h1 := opnd_fwd s (p + 1) false hv hn h
        have h2 := opnd_fwd s _ (opnd s (p + 1) false hv hn).2.1 hv hn h1.2.1
        exact h1.trans h2
      · unfold cmTest; dsimp only
        exact opnd_fwd s (p + 1) false hv hn h

theorem isCmd_pk {s : ByteArray} {p : Nat} {bad : Bool} (h : isCmd (pk s p bad) = true) : bad = false ∧ p < s.size := by
  have := tk_pk s p bad (by intro e; rw [e] at h; simp [isCmd] at h)
  exact this.2

def setNo (cs : List Cm) (i : Nat) (v : Int) : List Cm := match cs[i]? with
  | some c => cs.set i { c with no := v }
  | none => cs

theorem setNo_length (cs : List Cm) (i : Nat) (v : Int) : (setNo cs i v).length = cs.length := by
  unfold setNo; split <;> simp

def setBr (cs : List Cm) (i : Nat) (v e : Int) : List Cm := match cs[i]? with
  | some c => cs.set i { c with no := v, sec := v, beh := e }
  | none => cs

theorem setBr_length (cs : List Cm) (i : Nat) (v e : Int) : (setBr cs i v e).length = cs.length := by
  unfold setBr; split <;> simp

def blk (rdb : PS → PS) (s : ByteArray) (st : PS) : PS :=
  let st1 := rdb ⟨(tk s st.p st.bad 40).1, (tk s st.p st.bad 40).2, st.cs⟩
  ⟨(tk s st1.p st1.bad 41).1, (tk s st1.p st1.bad 41).2, st1.cs⟩

/-- A command's own row, as readCommand first lays it. -/
def cs1 (s : ByteArray) (hv hn : Int) (st : PS) : List Cm :=
  st.cs ++ [{ (tcmd s st.p hv hn (pk s st.p st.bad)).2.2 with yes := st.cs.length + 1, no := st.cs.length + 1 }]

/-- The place behind a command's own bytes. -/
def ps1 (s : ByteArray) (hv hn : Int) (st : PS) : PS :=
  ⟨(tcmd s st.p hv hn (pk s st.p st.bad)).1, (tcmd s st.p hv hn (pk s st.p st.bad)).2.1, cs1 s hv hn st⟩

def brn (at_ : Nat) (a c : PS) : PS := ⟨c.p, c.bad, setBr (rdr c.cs at_ a.cs.length a.cs.length c.cs.length) at_ a.cs.length c.cs.length⟩
def lop (at_ : Nat) (a : PS) : PS := ⟨a.p, a.bad, setNo (rdr a.cs at_ a.cs.length a.cs.length at_) at_ a.cs.length⟩

def cmdStep (rdb : PS → PS) (s : ByteArray) (hv hn : Int) (st : PS) : PS :=
  if pk s st.p st.bad = 63 then brn st.cs.length (blk rdb s (ps1 s hv hn st)) (blk rdb s (blk rdb s (ps1 s hv hn st)))
  else if pk s st.p st.bad = 33 then lop st.cs.length (blk rdb s (ps1 s hv hn st))
  else ps1 s hv hn st

def rdB (s : ByteArray) (hv hn : Int) : Nat → PS → PS
  | 0, st => st
  | f + 1, st => if isCmd (pk s st.p st.bad) = true then rdB s hv hn f (cmdStep (rdB s hv hn f) s hv hn st) else st

/-- How much is left. -/
def lft (s : ByteArray) (st : PS) : Nat := if st.bad then 0 else s.size - st.p

def Inv (s : ByteArray) (st : PS) : Prop := st.cs.length ≤ st.p ∧ st.p ≤ s.size

/-- From st to st' the reader goes forward and only adds commands. -/
def Nxt (s : ByteArray) (st st' : PS) : Prop := Fwd s st.p st.bad st'.p st'.bad ∧ st.cs.length ≤ st'.cs.length ∧ Inv s st'

theorem Nxt.lft {s : ByteArray} {st st' : PS} (h : Nxt s st st') : lft s st' ≤ lft s st := by
  obtain ⟨⟨h1, h2, h3⟩, _, _⟩ := h
  unfold Proofs.Ytnkbfdbbcaffmab.lft
  cases hb : st.bad with
  | true => rw [(h3 hb).2]; simp
  | false => split <;> simp <;> omega
theorem Nxt.trans {s : ByteArray} {a b c : PS} (h : Nxt s a b) (k : Nxt s b c) : Nxt s a c := ⟨h.1.trans k.1, Nat.le_trans h.2.1 k.2.1, k.2.2⟩
theorem Nxt.refl {s : ByteArray} {a : PS} (h : Inv s a) : Nxt s a a := ⟨Fwd.refl h.2, Nat.le_refl _, h⟩

theorem nxt_tk {s : ByteArray} {st : PS} (h : Inv s st) (c : Int) : Nxt s st ⟨(tk s st.p st.bad c).1, (tk s st.p st.bad c).2, st.cs⟩ := by
  have := tk_fwd s st.p st.bad c h.2
  exact ⟨this, Nat.le_refl _, Nat.le_trans h.1 this.1, this.2.1⟩

theorem blk_nxt {s : ByteArray} {rdb : PS → PS} {N : Nat} (hr : ∀ st, Inv s st → lft s st ≤ N → Nxt s st (rdb st)) {st : PS} (h : Inv s st) (hl : lft s st ≤ N) : Nxt s st (blk rdb s st) := by
  unfold blk
  have h1 := nxt_tk h 40
  have h2 := hr _ h1.2.2 (Nat.le_trans h1.lft hl)
  have h3 := nxt_tk h2.2.2 41
  exact h1.trans (h2.trans h3)

theorem ps1_nxt {s : ByteArray} {hv hn : Int} {st : PS} (h : Inv s st) (hc : isCmd (pk s st.p st.bad) = true) : Inv s (ps1 s hv hn st) ∧ st.p + 1 ≤ (ps1 s hv hn st).p ∧ (ps1 s hv hn st).cs.length = st.cs.length + 1 ∧ lft s (ps1 s hv hn st) + 1 ≤ lft s st := by
  obtain ⟨hb, hp⟩ := isCmd_pk hc
  have h1 := tcmd_fwd s st.p hv hn (pk s st.p st.bad) hp
  have hl : (ps1 s hv hn st).cs.length = st.cs.length + 1 := by simp [ps1, cs1]
  refine ⟨⟨?_, h1.2.1⟩, h1.1, hl, ?_⟩
  · rw [hl]; exact Nat.le_trans (by have := h.1; omega) h1.1
  · have h2 := h1.1
    have h3 : (ps1 s hv hn st).p = (tcmd s st.p hv hn (pk s st.p st.bad)).1 := rfl
    unfold lft
    rw [hb, h3]
    split <;> simp <;> omega

theorem step_nxt {s : ByteArray} {hv hn : Int} {rdb : PS → PS} {N : Nat} (hr : ∀ st, Inv s st → lft s st ≤ N → Nxt s st (rdb st)) {st : PS} (h : Inv s st) (hl : lft s st ≤ N + 1) (hc : isCmd (pk s st.p st.bad) = true) :
    Nxt s st (cmdStep rdb s hv hn st) ∧ lft s (cmdStep rdb s hv hn st) + 1 ≤ lft s st := by
  obtain ⟨h1, h2, h3, h4⟩ := ps1_nxt (hv := hv) (hn := hn) h hc
  obtain ⟨hb, hp⟩ := isCmd_pk hc
  have h5 : Nxt s st (ps1 s hv hn st) := ⟨⟨by omega, h1.2, fun e => by rw [hb] at e; cases e⟩, by omega, h1⟩
  unfold cmdStep
  split
  · have a := blk_nxt hr h1 (by omega)
    have c := blk_nxt hr a.2.2 (by have := a.lft; omega)
    have ac := a.trans c
    have hlen : (brn st.cs.length (blk rdb s (ps1 s hv hn st)) (blk rdb s (blk rdb s (ps1 s hv hn st)))).cs.length = (blk rdb s (blk rdb s (ps1 s hv hn st))).cs.length := by simp [brn, setBr_length, rdr_length]
    have k : Nxt s (ps1 s hv hn st) (brn st.cs.length (blk rdb s (ps1 s hv hn st)) (blk rdb s (blk rdb s (ps1 s hv hn st)))) :=
      ⟨ac.1, by rw [hlen]; exact ac.2.1, by rw [Inv, hlen]; exact ac.2.2⟩
    exact ⟨h5.trans k, by have := k.lft; omega⟩
  · split
    · have a := blk_nxt hr h1 (by omega)
      have hlen : (lop st.cs.length (blk rdb s (ps1 s hv hn st))).cs.length = (blk rdb s (ps1 s hv hn st)).cs.length := by simp [lop, setNo_length, rdr_length]
      have k : Nxt s (ps1 s hv hn st) (lop st.cs.length (blk rdb s (ps1 s hv hn st))) :=
        ⟨a.1, by rw [hlen]; exact a.2.1, by rw [Inv, hlen]; exact a.2.2⟩
      exact ⟨h5.trans k, by have := k.lft; omega⟩
    · exact ⟨h5, h4⟩

theorem rdB_nxt (s : ByteArray) (hv hn : Int) : ∀ f st, Inv s st → lft s st ≤ f → Nxt s st (rdB s hv hn f st)
  | 0, st, h, _ => Nxt.refl h
  | f + 1, st, h, hl => by
    unfold rdB
    split
    · rename_i hc
      obtain ⟨a, b⟩ := step_nxt (hv := hv) (hn := hn) (rdb := rdB s hv hn f) (N := f) (fun st h hl => rdB_nxt s hv hn f st h hl) h hl hc
      exact a.trans (rdB_nxt s hv hn f _ a.2.2 (by omega))
    · exact Nxt.refl h
end Go.Proofs.Ytnkbfdbbcaffmab
