/-
  The reader as a plain function, and what it keeps.
-/
import Derived.Test.YtfolokhilkffcaaHead
import Derived.Test.YtfolokhilkffcaaOwn
namespace Go.Proofs.Ytfolokhilkffcaa
open Go.RowKit

/-- What takeCommand makes of the place, where a byte stands that a command begins with. -/
def tcmd (s : ByteArray) (p : Nat) (hv hn k : Int) : Nat × Bool × Cm :=
  if k = 61 then cmSet s (p + 1) hv hn else if k = 108 then cmLoad s (p + 1) hv hn else if k = 115 then cmStore s (p + 1) hv hn else cmTest s (p + 1) hv hn k

theorem tcmd_kind (s : ByteArray) (p : Nat) (hv hn k : Int) : (tcmd s p hv hn k).2.2.kind = k := by
  unfold tcmd
  split
  · simp [cmSet, *]
  · split
    · simp [cmLoad, *]
    · split
      · simp [cmStore, *]
      · simp [cmTest]

/-- The place, the mark and the commands. -/
structure PS where
  p : Nat
  bad : Bool
  cs : List Cm

/-- A place that only goes forward, inside the text, and stands still where the mark is set. -/
def Fwd (s : ByteArray) (p : Nat) (bad : Bool) (q : Nat) (bad' : Bool) : Prop := p ≤ q ∧ q ≤ s.size ∧ (bad = true → q = p ∧ bad' = true)

theorem Fwd.trans {s : ByteArray} {p q r : Nat} {a b c : Bool} (h : Fwd s p a q b) (k : Fwd s q b r c) : Fwd s p a r c :=
  ⟨Nat.le_trans h.1 k.1, k.2.1, fun e => by
    obtain ⟨h1, h2⟩ := h.2.2 e
    obtain ⟨h3, h4⟩ := k.2.2 h2
    exact ⟨h3.trans h1, h4⟩⟩
theorem Fwd.refl {s : ByteArray} {p : Nat} {a : Bool} (h : p ≤ s.size) : Fwd s p a p a := ⟨Nat.le_refl _, h, fun e => ⟨rfl, e⟩⟩

theorem tk_fwd (s : ByteArray) (p : Nat) (bad : Bool) (c : Int) (h : p ≤ s.size) : Fwd s p bad (tk s p bad c).1 (tk s p bad c).2 := by
  unfold tk
  cases bad with
  | true => simp [Fwd, h]
  | false =>
    simp only [Bool.false_eq_true, if_false]
    split
    · exact ⟨by simp, by simp; omega, by simp⟩
    · exact ⟨by simp, by simpa using h, by simp⟩

theorem tb_fwd (s : ByteArray) (p : Nat) (bad : Bool) (lo hi : Int) (h : p ≤ s.size) : Fwd s p bad (tb s p bad lo hi).1 (tb s p bad lo hi).2.1 := by
  unfold tb
  split
  · exact tk_fwd s p bad _ h
  · exact ⟨Nat.le_refl _, h, fun _ => ⟨rfl, rfl⟩⟩

theorem opnd_fwd (s : ByteArray) (p : Nat) (bad : Bool) (hv hn : Int) (h : p ≤ s.size) : Fwd s p bad (opnd s p bad hv hn).1 (opnd s p bad hv hn).2.1 := by
  unfold opnd
  split
  · exact tb_fwd s p bad _ _ h
  · exact tb_fwd s p bad _ _ h

theorem opn_fwd (s : ByteArray) (p : Nat) (bad : Bool) (h : p ≤ s.size) : Fwd s p bad (opn s p bad).1 (opn s p bad).2.1 := by
  unfold opn
  split
  · exact tk_fwd s p bad _ h
  · exact ⟨Nat.le_refl _, h, fun _ => ⟨rfl, rfl⟩⟩

theorem tcmd_fwd (s : ByteArray) (p : Nat) (hv hn k : Int) (h : p < s.size) : Fwd s (p + 1) false (tcmd s p hv hn k).1 (tcmd s p hv hn k).2.1 := by
  unfold tcmd
  split
  · unfold cmSet; dsimp only
    have h1 := tb_fwd s (p + 1) false 97 (97 + hn - 1) h
    have h2 := opnd_fwd s _ (tb s (p + 1) false 97 (97 + hn - 1)).2.1 hv hn h1.2.1
    have h3 := opn_fwd s _ (opnd s (tb s (p + 1) false 97 (97 + hn - 1)).1 (tb s (p + 1) false 97 (97 + hn - 1)).2.1 hv hn).2.1 h2.2.1
    exact h1.trans (h2.trans (h3.trans (opnd_fwd s _ _ hv hn h3.2.1)))
  · split
    · unfold cmLoad; dsimp only
      have h1 := tb_fwd s (p + 1) false 97 (97 + hn - 1) h
      have h2 := opnd_fwd s _ (tb s (p + 1) false 97 (97 + hn - 1)).2.1 hv hn h1.2.1
      exact h1.trans h2
    · split
      · unfold cmStore; dsimp only
        have h1 := opnd_fwd s (p + 1) false hv hn h
        have h2 := opnd_fwd s _ (opnd s (p + 1) false hv hn).2.1 hv hn h1.2.1
        exact h1.trans h2
      · unfold cmTest; dsimp only
        exact opnd_fwd s (p + 1) false hv hn h

theorem isCmd_pk {s : ByteArray} {p : Nat} {bad : Bool} (h : isCmd (pk s p bad) = true) : bad = false ∧ p < s.size := by
  have := tk_pk s p bad (by intro e; rw [e] at h; simp [isCmd] at h)
  exact this.2

def setNo (cs : List Cm) (i : Nat) (v : Int) : List Cm := match cs[i]? with
  | some c => cs.set i { c with no := v }
  | none => cs

theorem setNo_length (cs : List Cm) (i : Nat) (v : Int) : (setNo cs i v).length = cs.length := by
  unfold setNo; split <;> simp

def blk (rdb : PS → PS) (s : ByteArray) (st : PS) : PS :=
  let st1 := rdb ⟨(tk s st.p st.bad 40).1, (tk s st.p st.bad 40).2, st.cs⟩
  ⟨(tk s st1.p st1.bad 41).1, (tk s st1.p st1.bad 41).2, st1.cs⟩

/-- A command's own row, as readCommand first lays it. -/
def cs1 (s : ByteArray) (hv hn : Int) (st : PS) : List Cm :=
  st.cs ++ [{ (tcmd s st.p hv hn (pk s st.p st.bad)).2.2 with yes := st.cs.length + 1, no := st.cs.length + 1 }]

/-- The place behind a command's own bytes. -/
def ps1 (s : ByteArray) (hv hn : Int) (st : PS) : PS :=
  ⟨(tcmd s st.p hv hn (pk s st.p st.bad)).1, (tcmd s st.p hv hn (pk s st.p st.bad)).2.1, cs1 s hv hn st⟩

def brn (at_ : Nat) (a c : PS) : PS := ⟨c.p, c.bad, setNo (rdr c.cs at_ a.cs.length a.cs.length c.cs.length) at_ a.cs.length⟩
def lop (at_ : Nat) (a : PS) : PS := ⟨a.p, a.bad, setNo (rdr a.cs at_ a.cs.length a.cs.length at_) at_ a.cs.length⟩

def cmdStep (rdb : PS → PS) (s : ByteArray) (hv hn : Int) (st : PS) : PS :=
  if pk s st.p st.bad = 63 then brn st.cs.length (blk rdb s (ps1 s hv hn st)) (blk rdb s (blk rdb s (ps1 s hv hn st)))
  else if pk s st.p st.bad = 33 then lop st.cs.length (blk rdb s (ps1 s hv hn st))
  else ps1 s hv hn st

def rdB (s : ByteArray) (hv hn : Int) : Nat → PS → PS
  | 0, st => st
  | f + 1, st => if isCmd (pk s st.p st.bad) = true then rdB s hv hn f (cmdStep (rdB s hv hn f) s hv hn st) else st

/-- How much is left. -/
def lft (s : ByteArray) (st : PS) : Nat := if st.bad then 0 else s.size - st.p

def Inv (s : ByteArray) (st : PS) : Prop := st.cs.length ≤ st.p ∧ st.p ≤ s.size

/-- From st to st' the reader goes forward and only adds commands. -/
def Nxt (s : ByteArray) (st st' : PS) : Prop := Fwd s st.p st.bad st'.p st'.bad ∧ st.cs.length ≤ st'.cs.length ∧ Inv s st'

theorem Nxt.lft {s : ByteArray} {st st' : PS} (h : Nxt s st st') : lft s st' ≤ lft s st := by
  obtain ⟨⟨h1, h2, h3⟩, _, _⟩ := h
  unfold Proofs.Ytfolokhilkffcaa.lft
  cases hb : st.bad with
  | true => rw [(h3 hb).2]; simp
  | false => split <;> simp <;> omega
theorem Nxt.trans {s : ByteArray} {a b c : PS} (h : Nxt s a b) (k : Nxt s b c) : Nxt s a c := ⟨h.1.trans k.1, Nat.le_trans h.2.1 k.2.1, k.2.2⟩
theorem Nxt.refl {s : ByteArray} {a : PS} (h : Inv s a) : Nxt s a a := ⟨Fwd.refl h.2, Nat.le_refl _, h⟩

theorem nxt_tk {s : ByteArray} {st : PS} (h : Inv s st) (c : Int) : Nxt s st ⟨(tk s st.p st.bad c).1, (tk s st.p st.bad c).2, st.cs⟩ := by
  have := tk_fwd s st.p st.bad c h.2
  exact ⟨this, Nat.le_refl _, Nat.le_trans h.1 this.1, this.2.1⟩

theorem blk_nxt {s : ByteArray} {rdb : PS → PS} {N : Nat} (hr : ∀ st, Inv s st → lft s st ≤ N → Nxt s st (rdb st)) {st : PS} (h : Inv s st) (hl : lft s st ≤ N) : Nxt s st (blk rdb s st) := by
  unfold blk
  have h1 := nxt_tk h 40
  have h2 := hr _ h1.2.2 (Nat.le_trans h1.lft hl)
  have h3 := nxt_tk h2.2.2 41
  exact h1.trans (h2.trans h3)

theorem ps1_nxt {s : ByteArray} {hv hn : Int} {st : PS} (h : Inv s st) (hc : isCmd (pk s st.p st.bad) = true) : Inv s (ps1 s hv hn st) ∧ st.p + 1 ≤ (ps1 s hv hn st).p ∧ (ps1 s hv hn st).cs.length = st.cs.length + 1 ∧ lft s (ps1 s hv hn st) + 1 ≤ lft s st := by
  obtain ⟨hb, hp⟩ := isCmd_pk hc
  have h1 := tcmd_fwd s st.p hv hn (pk s st.p st.bad) hp
  have hl : (ps1 s hv hn st).cs.length = st.cs.length + 1 := by simp [ps1, cs1]
  refine ⟨⟨?_, h1.2.1⟩, h1.1, hl, ?_⟩
  · rw [hl]; exact Nat.le_trans (by have := h.1; omega) h1.1
  · have h2 := h1.1
    have h3 : (ps1 s hv hn st).p = (tcmd s st.p hv hn (pk s st.p st.bad)).1 := rfl
    unfold lft
    rw [hb, h3]
    split <;> simp <;> omega

theorem step_nxt {s : ByteArray} {hv hn : Int} {rdb : PS → PS} {N : Nat} (hr : ∀ st, Inv s st → lft s st ≤ N → Nxt s st (rdb st)) {st : PS} (h : Inv s st) (hl : lft s st ≤ N + 1) (hc : isCmd (pk s st.p st.bad) = true) :
    Nxt s st (cmdStep rdb s hv hn st) ∧ lft s (cmdStep rdb s hv hn st) + 1 ≤ lft s st := by
  obtain ⟨h1, h2, h3, h4⟩ := ps1_nxt (hv := hv) (hn := hn) h hc
  obtain ⟨hb, hp⟩ := isCmd_pk hc
  have h5 : Nxt s st (ps1 s hv hn st) := ⟨⟨by omega, h1.2, fun e => by rw [hb] at e; cases e⟩, by omega, h1⟩
  unfold cmdStep
  split
  · have a := blk_nxt hr h1 (by omega)
    have c := blk_nxt hr a.2.2 (by have := a.lft; omega)
    have ac := a.trans c
    have hlen : (brn st.cs.length (blk rdb s (ps1 s hv hn st)) (blk rdb s (blk rdb s (ps1 s hv hn st)))).cs.length = (blk rdb s (blk rdb s (ps1 s hv hn st))).cs.length := by simp [brn, setNo_length, rdr_length]
    have k : Nxt s (ps1 s hv hn st) (brn st.cs.length (blk rdb s (ps1 s hv hn st)) (blk rdb s (blk rdb s (ps1 s hv hn st)))) :=
      ⟨ac.1, by rw [hlen]; exact ac.2.1, by rw [Inv, hlen]; exact ac.2.2⟩
    exact ⟨h5.trans k, by have := k.lft; omega⟩
  · split
    · have a := blk_nxt hr h1 (by omega)
      have hlen : (lop st.cs.length (blk rdb s (ps1 s hv hn st))).cs.length = (blk rdb s (ps1 s hv hn st)).cs.length := by simp [lop, setNo_length, rdr_length]
      have k : Nxt s (ps1 s hv hn st) (lop st.cs.length (blk rdb s (ps1 s hv hn st))) :=
        ⟨a.1, by rw [hlen]; exact a.2.1, by rw [Inv, hlen]; exact a.2.2⟩
      exact ⟨h5.trans k, by have := k.lft; omega⟩
    · exact ⟨h5, h4⟩

theorem rdB_nxt (s : ByteArray) (hv hn : Int) : ∀ f st, Inv s st → lft s st ≤ f → Nxt s st (rdB s hv hn f st)
  | 0, st, h, _ => Nxt.refl h
  | f + 1, st, h, hl => by
    unfold rdB
    split
    · rename_i hc
      obtain ⟨a, b⟩ := step_nxt (hv := hv) (hn := hn) (rdb := rdB s hv hn f) (N := f) (fun st h hl => rdB_nxt s hv hn f st h hl) h hl hc
      exact a.trans (rdB_nxt s hv hn f _ a.2.2 (by omega))
    · exact Nxt.refl h
end Go.Proofs.Ytfolokhilkffcaa
