import Derived.Test.YtnkbfdbbcaffmaaGreatDoorX02Head
import Derived.Deep.RegionLaw
/-
  The reader as a plain function, and what it keeps.
-/
namespace Go.Proofs.YtnkbfdbbcaffmaaGreatDoor
open Go.RowKit

/-- What takeCommand makes of the place, where a byte stands that a command begins with. -/
def tcmd (s : ByteArray) (p : Nat) (hv hn k : Int) : Nat × Bool × Cm :=
  if k = 61 then cmSet s (p + 1) hv hn else if k = 108 then cmLoad s (p + 1) hv hn else if k = 115 then cmStore s (p + 1) hv hn else cmTest s (p + 1) hv hn k

theorem tcmd_kind (s : ByteArray) (p : Nat) (hv hn k : Int) : (tcmd s p hv hn k).2.2.kind = k := by
  unfold tcmd
  split
  · simp [cmSet, *]
  · split
    · simp [cmLoad, *]
    · split
      · simp [cmStore, *]
      · simp [cmTest]

/-- The place, the mark and the commands. -/
structure PS where
  p : Nat
  bad : Bool
  cs : List Cm

theorem opnd_fwd (s : ByteArray) (p : Nat) (bad : Bool) (hv hn : Int) (h : p ≤ s.size) : Fwd s p bad (opnd s p bad hv hn).1 (opnd s p bad hv hn).2.1 := by
  unfold opnd
  split
  · exact tb_fwd s p bad _ _ h
  · exact tb_fwd s p bad _ _ h

theorem opn_fwd (s : ByteArray) (p : Nat) (bad : Bool) (h : p ≤ s.size) : Fwd s p bad (opn s p bad).1 (opn s p bad).2.1 := by
  unfold opn
  split
  · exact tk_fwd s p bad _ h
  · exact ⟨Nat.le_refl _, h, fun _ => ⟨rfl, rfl⟩⟩

theorem tcmd_fwd (s : ByteArray) (p : Nat) (hv hn k : Int) (h : p < s.size) : Fwd s (p + 1) false (tcmd s p hv hn k).1 (tcmd s p hv hn k).2.1 := by
  unfold tcmd
  split
  · unfold cmSet; dsimp only
    have h1 := tb_fwd s (p + 1) false 97 (97 + hn - 1) h
    have h2 := opnd_fwd s _ (tb s (p + 1) false 97 (97 + hn - 1)).2.1 hv hn h1.2.1
    have h3 := opn_fwd s _ (opnd s (tb s (p + 1) false 97 (97 + hn - 1)).1 (tb s (p + 1) false 97 (97 + hn - 1)).2.1 hv hn).2.1 h2.2.1
    exact h1.trans (h2.trans (h3.trans (opnd_fwd s _ _ hv hn h3.2.1)))
  · split
    · unfold cmLoad; dsimp only
      have h1 := tb_fwd s (p + 1) false 97 (97 + hn - 1) h
      have h2 := opnd_fwd s _ (tb s (p + 1) false 97 (97 + hn - 1)).2.1 hv hn h1.2.1
      exact h1.trans h2
    · split
      · unfold cmStore; dsimp only
        have h1 := opnd_fwd s (p + 1) false hv hn h
        have h2 := opnd_fwd s _ (opnd s (p + 1) false hv hn).2.1 hv hn h1.2.1
        exact h1.trans h2
      · unfold cmTest; dsimp only
        exact opnd_fwd s (p + 1) false hv hn h

theorem isCmd_pk {s : ByteArray} {p : Nat} {bad : Bool} (h : isCmd (pk s p bad) = true) : bad = false ∧ p < s.size := by
  have := tk_pk s p bad (by intro e; rw [e] at h; simp [isCmd] at h)
  exact this.2

def setNo (cs : List Cm) (i : Nat) (v : Int) : List Cm := match cs[i]? with
  | some c => cs.set i { c with no := v }
  | none => cs

theorem setNo_length (cs : List Cm) (i : Nat) (v : Int) : (setNo cs i v).length = cs.length := by
  unfold setNo; split <;> simp

def setBr (cs : List Cm) (i : Nat) (v e : Int) : List Cm := match cs[i]? with
  | some c => cs.set i { c with no := v, sec := v, beh := e }
  | none => cs

theorem setBr_length (cs : List Cm) (i : Nat) (v e : Int) : (setBr cs i v e).length = cs.length := by
  unfold setBr; split <;> simp

def blk (rdb : PS → PS) (s : ByteArray) (st : PS) : PS :=
  let st1 := rdb ⟨(tk s st.p st.bad 40).1, (tk s st.p st.bad 40).2, st.cs⟩
  ⟨(tk s st1.p st1.bad 41).1, (tk s st1.p st1.bad 41).2, st1.cs⟩

/-- A command's own row, as readCommand first lays it. -/
def cs1 (s : ByteArray) (hv hn : Int) (st : PS) : List Cm :=
  st.cs ++ [{ (tcmd s st.p hv hn (pk s st.p st.bad)).2.2 with yes := st.cs.length + 1, no := st.cs.length + 1 }]

/-- The place behind a command's own bytes. -/
def ps1 (s : ByteArray) (hv hn : Int) (st : PS) : PS :=
  ⟨(tcmd s st.p hv hn (pk s st.p st.bad)).1, (tcmd s st.p hv hn (pk s st.p st.bad)).2.1, cs1 s hv hn st⟩

def brn (at_ : Nat) (a c : PS) : PS := ⟨c.p, c.bad, setBr (rdr c.cs at_ a.cs.length a.cs.length c.cs.length) at_ a.cs.length c.cs.length⟩
def lop (at_ : Nat) (a : PS) : PS := ⟨a.p, a.bad, setNo (rdr a.cs at_ a.cs.length a.cs.length at_) at_ a.cs.length⟩

def cmdStep (rdb : PS → PS) (s : ByteArray) (hv hn : Int) (st : PS) : PS :=
  if pk s st.p st.bad = 63 then brn st.cs.length (blk rdb s (ps1 s hv hn st)) (blk rdb s (blk rdb s (ps1 s hv hn st)))
  else if pk s st.p st.bad = 33 then lop st.cs.length (blk rdb s (ps1 s hv hn st))
  else ps1 s hv hn st

def rdB (s : ByteArray) (hv hn : Int) : Nat → PS → PS
  | 0, st => st
  | f + 1, st => if isCmd (pk s st.p st.bad) = true then rdB s hv hn f (cmdStep (rdB s hv hn f) s hv hn st) else st

/-- How much is left. -/
def lft (s : ByteArray) (st : PS) : Nat := if st.bad then 0 else s.size - st.p

def Inv (s : ByteArray) (st : PS) : Prop := st.cs.length ≤ st.p ∧ st.p ≤ s.size

/-- From st to st' the reader goes forward and only adds commands. -/
def Nxt (s : ByteArray) (st st' : PS) : Prop := Fwd s st.p st.bad st'.p st'.bad ∧ st.cs.length ≤ st'.cs.length ∧ Inv s st'

theorem Nxt.lft {s : ByteArray} {st st' : PS} (h : Nxt s st st') : lft s st' ≤ lft s st := by
  obtain ⟨⟨h1, h2, h3⟩, _, _⟩ := h
  unfold Proofs.YtnkbfdbbcaffmaaGreatDoor.lft
  cases hb : st.bad with
  | true => rw [(h3 hb).2]; simp
  | false => split <;> simp <;> omega
theorem Nxt.trans {s : ByteArray} {a b c : PS} (h : Nxt s a b) (k : Nxt s b c) : Nxt s a c := ⟨h.1.trans k.1, Nat.le_trans h.2.1 k.2.1, k.2.2⟩
theorem Nxt.refl {s : ByteArray} {a : PS} (h : Inv s a) : Nxt s a a := ⟨Fwd.refl h.2, Nat.le_refl _, h⟩

theorem nxt_tk {s : ByteArray} {st : PS} (h : Inv s st) (c : Int) : Nxt s st ⟨(tk s st.p st.bad c).1, (tk s st.p st.bad c).2, st.cs⟩ := by
  have := tk_fwd s st.p st.bad c h.2
  exact ⟨this, Nat.le_refl _, Nat.le_trans h.1 this.1, this.2.1⟩

theorem blk_nxt {s : ByteArray} {rdb : PS → PS} {N : Nat} (hr : ∀ st, Inv s st → lft s st ≤ N → Nxt s st (rdb st)) {st : PS} (h : Inv s st) (hl : lft s st ≤ N) : Nxt s st (blk rdb s st) := by
  unfold blk
  have h1 := nxt_tk h 40
  have h2 := hr _ h1.2.2 (Nat.le_trans h1.lft hl)
  have h3 := nxt_tk h2.2.2 41
  exact h1.trans (h2.trans h3)

theorem ps1_nxt {s : ByteArray} {hv hn : Int} {st : PS} (h : Inv s st) (hc : isCmd (pk s st.p st.bad) = true) : Inv s (ps1 s hv hn st) ∧ st.p + 1 ≤ (ps1 s hv hn st).p ∧ (ps1 s hv hn st).cs.length = st.cs.length + 1 ∧ lft s (ps1 s hv hn st) + 1 ≤ lft s st := by
  obtain ⟨hb, hp⟩ := isCmd_pk hc
  have h1 := tcmd_fwd s st.p hv hn (pk s st.p st.bad) hp
  have hl : (ps1 s hv hn st).cs.length = st.cs.length + 1 := by simp [ps1, cs1]
  refine ⟨⟨?_, h1.2.1⟩, h1.1, hl, ?_⟩
  · rw [hl]; exact Nat.le_trans (by have := h.1; omega) h1.1
  · have h2 := h1.1
    have h3 : (ps1 s hv hn st).p = (tcmd s st.p hv hn (pk s st.p st.bad)).1 := rfl
    unfold lft
    rw [hb, h3]
    split <;> simp <;> omega

theorem step_nxt {s : ByteArray} {hv hn : Int} {rdb : PS → PS} {N : Nat} (hr : ∀ st, Inv s st → lft s st ≤ N → Nxt s st (rdb st)) {st : PS} (h : Inv s st) (hl : lft s st ≤ N + 1) (hc : isCmd (pk s st.p st.bad) = true) :
    Nxt s st (cmdStep rdb s hv hn st) ∧ lft s (cmdStep rdb s hv hn st) + 1 ≤ lft s st := by
  obtain ⟨h1, h2, h3, h4⟩ := ps1_nxt (hv := hv) (hn := hn) h hc
  obtain ⟨hb, hp⟩ := isCmd_pk hc
  have h5 : Nxt s st (ps1 s hv hn st) := ⟨⟨by omega, h1.2, fun e => by rw [hb] at e; cases e⟩, by omega, h1⟩
  unfold cmdStep
  split
  · have a := blk_nxt hr h1 (by omega)
    have c := blk_nxt hr a.2.2 (by have := a.lft; omega)
    have ac := a.trans c
    have hlen : (brn st.cs.length (blk rdb s (ps1 s hv hn st)) (blk rdb s (blk rdb s (ps1 s hv hn st)))).cs.length = (blk rdb s (blk rdb s (ps1 s hv hn st))).cs.length := by simp [brn, setBr_length, rdr_length]
    have k : Nxt s (ps1 s hv hn st) (brn st.cs.length (blk rdb s (ps1 s hv hn st)) (blk rdb s (blk rdb s (ps1 s hv hn st)))) :=
      ⟨ac.1, by rw [hlen]; exact ac.2.1, by rw [Inv, hlen]; exact ac.2.2⟩
    exact ⟨h5.trans k, by have := k.lft; omega⟩
  · split
    · have a := blk_nxt hr h1 (by omega)
      have hlen : (lop st.cs.length (blk rdb s (ps1 s hv hn st))).cs.length = (blk rdb s (ps1 s hv hn st)).cs.length := by simp [lop, setNo_length, rdr_length]
      have k : Nxt s (ps1 s hv hn st) (lop st.cs.length (blk rdb s (ps1 s hv hn st))) :=
        ⟨a.1, by rw [hlen]; exact a.2.1, by rw [Inv, hlen]; exact a.2.2⟩
      exact ⟨h5.trans k, by have := k.lft; omega⟩
    · exact ⟨h5, h4⟩

theorem rdB_nxt (s : ByteArray) (hv hn : Int) : ∀ f st, Inv s st → lft s st ≤ f → Nxt s st (rdB s hv hn f st)
  | 0, st, h, _ => Nxt.refl h
  | f + 1, st, h, hl => by
    unfold rdB
    split
    · rename_i hc
      obtain ⟨a, b⟩ := step_nxt (hv := hv) (hn := hn) (rdb := rdB s hv hn f) (N := f) (fun st h hl => rdB_nxt s hv hn f st h hl) h hl hc
      exact a.trans (rdB_nxt s hv hn f _ a.2.2 (by omega))
    · exact Nxt.refl h
end Go.Proofs.YtnkbfdbbcaffmaaGreatDoor
/-
  takeCommand whole; 'r.commands = append(r.commands, c)'.
-/
namespace Go.Proofs.YtnkbfdbbcaffmaaGreatDoor
open Go.RowKit

theorem Tryz.infoCmd : (Tryz.prog.info? 118).map (fun i => (i.zero, i.size, i.bytes)) = some (some (.agg #[.int .u8 0, .int .i64 0, .bool false, .int .i64 0, .int .u8 0, .bool false, .int .i64 0, .int .i64 0, .int .i64 0, .int .i64 0, .int .i64 0]), 11, 88) := by kernel_rfl

/-- append onto a row of the call's own, as one step of a region that draws. -/
theorem step_append_mine {P : Program} {ops : Array Oper} {o : Oper} {a : Act} {w : World} {K : Act → World → Prop} {Q : Exit → Act → World → Prop} {E : Prop}
    (hg : o.guard = none) (s x : Operand) (t : TypeId) (hop : o.op = Op.call { callee := Callee.builtin Builtin.append, args := #[s, x], argTypes := #[t, t] })
    (e : TypeId) (i : TypeInfo) (z : Value) (size bytes : Nat) (h1 : P.underlying t = some (.slice e)) (h2 : P.info? e = some i) (h3 : i.zero = some z) (h4 : i.size = size) (h5 : i.bytes = bytes) (h6 : z.cells.size = size) (h7 : 0 < size)
    (base : Nat) (v : Value) (n : Nat) (xs : List Value) (hs : a.eval s = v) (hown : w.ownsRow base e size v n xs)
    (ad : Addr) (m c : Nat) (news : List Value) (hx : a.eval x = .slice (some ad) m c) (hn : news.length = m * size) (hc : ∀ j u, news[j]? = some u → w.cell? (ad.add j) = some u) (h1c : ∀ u ∈ news, u.oneCell' = true)
    (b1 : n + m ≤ maxLen) (b2 : (n + m) * bytes ≤ 140737488355328) (hb : base ≤ w.heap.size)
    (hK : ∀ v' w', w'.ownsRow base e size v' (n + m) (xs ++ news) → w.grownBy w' v.ownBlock → K (a.put o.dst v') w') :
    if Region.wanted o (yielded ops a.tmps) = true then Oper.wp P o a w K Q else E := by
  have hw : Region.wanted o (yielded ops a.tmps) = true := by simp [Region.wanted, hg]
  rw [if_pos hw]
  obtain ⟨v', w', hrun, r1, r2, _⟩ := run_append_own (P := P) w base t o.type e i z size bytes h1 h2 h3 h4 h5 h6 h7 v n xs hown ad m c news hn hc h1c b1 b2 hb
  unfold Oper.wp
  simp [execOp, hop, resolve, invoke, builtin, hs, hx, hrun, Result.andThen]
  exact hK v' w' r1 r2

theorem cell_nine_new (w : World) (o : Obj) (t : TypeId) (v0 v1 v2 v3 v4 v5 v6 v7 v8 v9 v10 : Value) : ∀ j u, [v0, v1, v2, v3, v4, v5, v6, v7, v8, v9, v10][j]? = some u → ((w.alloc o).alloc (.cells #[v0, v1, v2, v3, v4, v5, v6, v7, v8, v9, v10] t)).drew.cell? ((⟨w.heap.size + 1, 0, none⟩ : Addr).add j) = some u := by
  intro j u hj
  have h := At.cell (At.new (w.alloc o) t #[v0, v1, v2, v3, v4, v5, v6, v7, v8, v9, v10]) j
  have e : (w.alloc o).heap.size = w.heap.size + 1 := by simp
  rw [e] at h
  rw [Addr.add_lit, Nat.zero_add]
  show World.cell? _ _ = _
  rw [World.cell?_drew, h]
  simpa using hj

section
variable {w : World} {b : Nat} {s : ByteArray} {p : Nat} {bad : Bool} {ht : ByteArray} {hw hv hn hm : Int} {cv : Value} {cs : List Cm}

theorem takeCommand_any (hR : Rd w b s p bad ht hw hv hn hm cv) (hs : s.size ≤ maxLen) (h0 : 0 ≤ hn) (h1 : hn ≤ 8) (h2 : 1 ≤ hv) (h3 : hv ≤ 256) (k : Int) (hk : pk s p bad = k) (hc : isCmd k = true) :
    Calls Tryz.prog 107 #[.pointer (some ⟨b, 0, none⟩)] w fun e w' => e = .returned (.agg (tcmd s p hv hn k).2.2.cells) ∧ Rd w' b s (tcmd s p hv hn k).1 (tcmd s p hv hn k).2.1 ht hw hv hn hm cv ∧ w.grownBy w' (some b) := by
  simp [isCmd] at hc
  unfold tcmd
  by_cases e1 : k = 61
  · rw [if_pos e1]; exact takeCommand_set hR hs h0 h1 h2 h3 (hk.trans e1)
  · rw [if_neg e1]
    by_cases e2 : k = 108
    · rw [if_pos e2]; exact takeCommand_load hR hs h0 h1 h2 h3 (hk.trans e2)
    · rw [if_neg e2]
      by_cases e3 : k = 115
      · rw [if_pos e3]; exact takeCommand_store hR hs h0 h1 h2 h3 (hk.trans e3)
      · rw [if_neg e3]; exact takeCommand_test hR hs h0 h1 h2 h3 k hk (by omega)

theorem Own.shape (h : Own w b cv cs) : ∃ ao cap, cv = .slice ao cs.length cap := by
  rcases h.2 with ⟨h', h0⟩ | ⟨g, cap, cur, h', hb, _⟩
  · exact ⟨none, 0, by rw [h', h0]⟩
  · exact ⟨_, cap, h'⟩

/-- The reader in block b, its commands in a row behind it. -/
def Stt (w : World) (b : Nat) (s : ByteArray) (ht : ByteArray) (hw hv hn hm : Int) (st : PS) : Prop := ∃ cv, Rd w b s st.p st.bad ht hw hv hn hm cv ∧ Own w b cv st.cs

theorem stt_mk {w : World} {b : Nat} {s : ByteArray} {p : Nat} {bad : Bool} {ht : ByteArray} {hw hv hn hm : Int} {cv : Value} {cs : List Cm} (h : Rd w b s p bad ht hw hv hn hm cv) (k : w.ownsRow (b + 1) 118 11 cv cs.length (flat cs)) : Stt w b s ht hw hv hn hm ⟨p, bad, cs⟩ := ⟨cv, h, k⟩

/-- What holds behind the append. -/
theorem app_post {w w1 : World} {b : Nat} {s : ByteArray} {p p1 : Nat} {bad b1 : Bool} {ht : ByteArray} {hw hv hn hm : Int} {cs : List Cm} {ao : Option Addr} {cap : Nat}
    (hR : Rd w b s p bad ht hw hv hn hm (.slice ao cs.length cap)) (hO : Own w b (.slice ao cs.length cap) cs) (hR1 : Rd w1 b s p1 b1 ht hw hv hn hm (.slice ao cs.length cap)) (hg1 : w.grownBy w1 (some b)) (c : Cm) :
    (∀ o o', ((w1.alloc o).alloc o').drew.ownsRow (b + 1) 118 11 (.slice ao cs.length cap) cs.length (flat cs)) ∧
    (∀ o o' v' w', w'.ownsRow (b + 1) 118 11 v' (cs.length + 1) (flat cs ++ c.cells.toList) → ((w1.alloc o).alloc o').drew.grownBy w' (Value.slice ao cs.length cap).ownBlock → Rd w' b s p1 b1 ht hw hv hn hm (.slice ao cs.length cap) ∧ Own w' b v' (cs ++ [c]) ∧ w'.heap[w1.heap.size]? = some o ∧ Below b w w' ∧ ∃ g' cap', v' = .slice (some ⟨g', 0, none⟩) (cs.length + 1) cap' ∧ b < g') := by
  have hbl := At.lt hR1
  have hne : (Value.slice ao cs.length cap).ownBlock ≠ some b := by
    intro e
    have := (World.ownsRow.lt hO) b e
    omega
  have HO : ∀ o o', ((w1.alloc o).alloc o').drew.ownsRow (b + 1) 118 11 (.slice ao cs.length cap) cs.length (flat cs) :=
    fun o o' => World.ownsRow.alloc (World.ownsRow.alloc (World.ownsRow.kept hO hg1 (.inr hne)) o) o'
  refine ⟨HO, ?_⟩
  intro o o' v' w' h1 h2
  have hb0 : b < w.heap.size := At.lt hR
  refine ⟨At.grown (At.drew (At.alloc (At.alloc hR1 o) o')) h2 (fun e => hne e.symm), ?_, ?_, ?_, ?_⟩
  · unfold Own
    have e : flat (cs ++ [c]) = flat cs ++ c.cells.toList := by simp [flat]
    rw [List.length_append, e]; exact h1
  · rw [h2.block w1.heap.size (by simp; omega) (fun e => by
      have h3 := (World.ownsRow.lt (World.ownsRow.kept hO hg1 (.inr hne))) _ e.symm
      omega)]
    show ((w1.heap.push o).push o')[w1.heap.size]? = some o
    rw [Array.getElem?_push, if_neg (by simp)]; simp
  · refine (gb_below hg1 (Nat.le_of_lt hb0)).trans ?_
    refine ((((Below.refl b w1).alloc (Nat.le_of_lt hbl) o).alloc (by simp; omega) o').drew).trans ?_
    exact ⟨h2.os, h2.tape, h2.output, h2.size, fun k hk => h2.block k (by simp; omega) (fun e => by
      have := (World.ownsRow.lt (HO o o')) _ e.symm
      omega)⟩
  · rcases h1.2 with ⟨_, h3⟩ | ⟨g', cap', cur, h4, h5, _⟩
    · omega
    · exact ⟨g', cap', h4, by omega⟩

/-- The contract of a call that reads on from st to st'. -/
def Reads (f : Nat) (args : Array Value) (w : World) (b : Nat) (s : ByteArray) (ht : ByteArray) (hw hv hn hm : Int) (st' : PS) : Prop :=
  Calls Tryz.prog f args w fun e w' => e = .returned (.tuple #[]) ∧ Stt w' b s ht hw hv hn hm st' ∧ Below b w w'

set_option maxHeartbeats 4000000 in
theorem readCommand_any (f : PS → PS) (b : Nat) (s : ByteArray) (ht : ByteArray) (hw hv hn hm : Int) (N : Nat) (st : PS) (w : World)
    (hbr : ∀ st1 w1, Stt w1 b s ht hw hv hn hm st1 → Inv s st1 → lft s st1 ≤ N → st.cs.length < st1.cs.length → Reads 108 #[.pointer (some ⟨b, 0, none⟩), .int .i64 st.cs.length] w1 b s ht hw hv hn hm (brn st.cs.length (blk f s st1) (blk f s (blk f s st1))))
    (hlo : ∀ st1 w1, Stt w1 b s ht hw hv hn hm st1 → Inv s st1 → lft s st1 ≤ N → st.cs.length < st1.cs.length → Reads 109 #[.pointer (some ⟨b, 0, none⟩), .int .i64 st.cs.length] w1 b s ht hw hv hn hm (lop st.cs.length (blk f s st1)))
    (hS : Stt w b s ht hw hv hn hm st) (hI : Inv s st) (hl : lft s st ≤ N + 1) (hs : s.size ≤ 1000) (h0 : 0 ≤ hn) (h1 : hn ≤ 8) (h2 : 1 ≤ hv) (h3 : hv ≤ 256) (hc : isCmd (pk s st.p st.bad) = true) :
    Reads 82 #[.pointer (some ⟨b, 0, none⟩)] w b s ht hw hv hn hm (cmdStep f s hv hn st) := by
  have Hbr := hide hbr
  have Hlo := hide hlo
  clear hbr hlo
  obtain ⟨hI1, _, hlen1, hl1⟩ := ps1_nxt (hv := hv) (hn := hn) hI hc
  have hl2 : lft s (ps1 s hv hn st) ≤ N := by omega
  have hlen2 : st.cs.length < (ps1 s hv hn st).cs.length := by omega
  have Hl2 := hide hl2
  have Hlen2 := hide hlen2
  have HI1 := hide hI1
  clear hI1 hlen1 hl1 hl2 hlen2
  obtain ⟨p, bad, cs⟩ := st
  obtain ⟨cv, hR, hO⟩ := hS
  dsimp only at *
  have hmx : s.size ≤ maxLen := by unfold maxLen; omega
  have hcl : cs.length ≤ 1000 := by have := hI.1; have := hI.2; dsimp only at *; omega
  have HI := hide hI
  clear hI hl hs
  obtain ⟨i0, hi0, hz0, hz1, hz2⟩ := info_parts Tryz.infoCmd
  obtain ⟨ao, cap, rfl⟩ := hO.shape
  unfold cmdStep
  dsimp only
  have hps : ps1 s hv hn ⟨p, bad, cs⟩ = ⟨(tcmd s p hv hn (pk s p bad)).1, (tcmd s p hv hn (pk s p bad)).2.1, cs ++ [{ (tcmd s p hv hn (pk s p bad)).2.2 with yes := cs.length + 1, no := cs.length + 1 }]⟩ := rfl
  generalize hk : pk s p bad = k at *
  have hkd := tcmd_kind s p hv hn k
  generalize hq : tcmd s p hv hn k = t at *
  have Ht := hide hq
  have Hk := hide hk
  have Hc := hide hc
  clear hq hk hc
  obtain ⟨p1, b1, c⟩ := t
  obtain ⟨ck, cvar, cxn, cxv, cop, cyn, cyv, cyes, cno, csec, cbeh⟩ := c
  dsimp only at *
  subst hkd
  generalize hs1 : ps1 s hv hn ⟨p, bad, cs⟩ = st1 at *
  subst hps
  have Hs1 := hide hs1
  clear hs1
  unfold Reads
  have c7 := hR.cell 8
  simp at c7
  by_cases k63 : ck = 63
  · rw [if_pos k63]
    generalize hfin : brn cs.length _ _ = fin
    have Hfin := hide hfin
    clear hfin
    subst k63
    go_enter Tryz.func82, Tryz.ntmps82
    go_wp2_with fail
    refine (takeCommand_any hR hmx h0 h1 h2 h3 _ (unhide Hk) (unhide Hc)).mono ?_
    rintro e w1 ⟨rfl, hR1, hg1⟩
    rw [unhide Ht] at hR1 ⊢
    have hap := app_post hR hO hR1 hg1 ⟨63, cvar, cxn, cxv, cop, cyn, cyv, cs.length + 1, cs.length + 1, csec, cbeh⟩
    have HO := hide hap.1
    have HP := hide hap.2
    clear hap
    dsimp only [Cm.cells] at hR1 HP ⊢
    have hbl := At.lt hR1
    clear c7
    have c7 := hR1.cell 8
    simp at c7
    go_wp2_with fail
    go_region_law (refine step_append_mine rfl (.tmp 21) (.tmp 23) 42 rfl 118 i0 _ 11 88 Tryz.underlying42 hi0 hz0 hz1 hz2 rfl (by decide) (b + 1) (.slice ao cs.length cap) cs.length (flat cs) (by simp [Act.eval]) (by exact unhide HO _ _) ⟨w1.heap.size + 1, 0, none⟩ 1 1 [.int .u8 63, .int .i64 cvar, .bool cxn, .int .i64 cxv, .int .u8 cop, .bool cyn, .int .i64 cyv, .int .i64 (cs.length + 1), .int .i64 (cs.length + 1), .int .i64 csec, .int .i64 cbeh] (by simp [Act.eval]) rfl (by exact cell_nine_new _ _ _ _ _ _ _ _ _ _ _ _ _ _) (by simp [Value.oneCell']) (by unfold maxLen; omega) (by omega) (by simp; omega) ?_; intro v' w' hO' hg'; obtain ⟨hR', hOwn', hblk, hbel, g', cap', hv', hgb⟩ := unhide HP _ _ _ _ hO' hg'; have c7' := hR'.cell 8; have f7' := hR'.frozen 8; simp at c7'; rw [hv'])
    all_goals
      have hA : At w' w1.heap.size 118 _ := hblk
      have d0 := hA.cell 0
      simp at d0
      have hR2 := Rd.setC hR' (.slice (some ⟨g', 0, none⟩) (cs.length + 1) cap')
      have hO2 := ownsRow_setCell_below hOwn' (a := ⟨b, 8, none⟩) (Nat.lt_succ_self b) (.slice (some ⟨g', 0, none⟩) (cs.length + 1) cap')
      have hB2 := hbel.setCell (p := ⟨b, 8, none⟩) (Nat.le_refl _) (.slice (some ⟨g', 0, none⟩) (cs.length + 1) cap')
      rw [hv'] at hO2
      clear hv' hblk hA c7' f7' hO' hg' hR' hOwn'
      have hS2 := stt_mk hR2 hO2
      clear hR2 hO2
      go_wp2_with fail
      have hcall := unhide Hbr _ _ hS2 (unhide HI1) (unhide Hl2) (unhide Hlen2)
      unfold Reads at hcall
      refine hcall.mono ?_
      rintro e w3 ⟨rfl, hS3, hB3⟩
      rw [unhide Hfin] at hS3
      go_wp2_with fail
      go_end0
      exact ⟨rfl, hS3, hB2.trans hB3⟩
  · rw [if_neg k63]
    by_cases k33 : ck = 33
    · rw [if_pos k33]
      generalize hfin : lop cs.length _ = fin
      have Hfin := hide hfin
      clear hfin
      subst k33
      go_enter Tryz.func82, Tryz.ntmps82
      go_wp2_with fail
      refine (takeCommand_any hR hmx h0 h1 h2 h3 _ (unhide Hk) (unhide Hc)).mono ?_
      rintro e w1 ⟨rfl, hR1, hg1⟩
      rw [unhide Ht] at hR1 ⊢
      have hap := app_post hR hO hR1 hg1 ⟨33, cvar, cxn, cxv, cop, cyn, cyv, cs.length + 1, cs.length + 1, csec, cbeh⟩
      have HO := hide hap.1
      have HP := hide hap.2
      clear hap
      dsimp only [Cm.cells] at hR1 HP ⊢
      have hbl := At.lt hR1
      clear c7
      have c7 := hR1.cell 8
      simp at c7
      go_wp2_with fail
      go_region_law (refine step_append_mine rfl (.tmp 21) (.tmp 23) 42 rfl 118 i0 _ 11 88 Tryz.underlying42 hi0 hz0 hz1 hz2 rfl (by decide) (b + 1) (.slice ao cs.length cap) cs.length (flat cs) (by simp [Act.eval]) (by exact unhide HO _ _) ⟨w1.heap.size + 1, 0, none⟩ 1 1 [.int .u8 33, .int .i64 cvar, .bool cxn, .int .i64 cxv, .int .u8 cop, .bool cyn, .int .i64 cyv, .int .i64 (cs.length + 1), .int .i64 (cs.length + 1), .int .i64 csec, .int .i64 cbeh] (by simp [Act.eval]) rfl (by exact cell_nine_new _ _ _ _ _ _ _ _ _ _ _ _ _ _) (by simp [Value.oneCell']) (by unfold maxLen; omega) (by omega) (by simp; omega) ?_; intro v' w' hO' hg'; obtain ⟨hR', hOwn', hblk, hbel, g', cap', hv', hgb⟩ := unhide HP _ _ _ _ hO' hg'; have c7' := hR'.cell 8; have f7' := hR'.frozen 8; simp at c7'; rw [hv'])
      all_goals
        have hA : At w' w1.heap.size 118 _ := hblk
        have d0 := hA.cell 0
        simp at d0
        have hR2 := Rd.setC hR' (.slice (some ⟨g', 0, none⟩) (cs.length + 1) cap')
        have hO2 := ownsRow_setCell_below hOwn' (a := ⟨b, 8, none⟩) (Nat.lt_succ_self b) (.slice (some ⟨g', 0, none⟩) (cs.length + 1) cap')
        have hB2 := hbel.setCell (p := ⟨b, 8, none⟩) (Nat.le_refl _) (.slice (some ⟨g', 0, none⟩) (cs.length + 1) cap')
        rw [hv'] at hO2
        clear hv' hblk hA c7' f7' hO' hg' hR' hOwn'
        have hS2 := stt_mk hR2 hO2
        clear hR2 hO2
        go_wp2_with fail
        have hcall := unhide Hlo _ _ hS2 (unhide HI1) (unhide Hl2) (unhide Hlen2)
        unfold Reads at hcall
        refine hcall.mono ?_
        rintro e w3 ⟨rfl, hS3, hB3⟩
        rw [unhide Hfin] at hS3
        go_wp2_with fail
        go_end0
        exact ⟨rfl, hS3, hB2.trans hB3⟩
    · rw [if_neg k33]
      have e63 : (ck == 63) = false := by simpa using k63
      have e33 : (ck == 33) = false := by simpa using k33
      clear k63 k33
      go_enter Tryz.func82, Tryz.ntmps82
      go_wp2_with fail
      refine (takeCommand_any hR hmx h0 h1 h2 h3 _ (unhide Hk) (unhide Hc)).mono ?_
      rintro e w1 ⟨rfl, hR1, hg1⟩
      rw [unhide Ht] at hR1 ⊢
      have hap := app_post hR hO hR1 hg1 ⟨ck, cvar, cxn, cxv, cop, cyn, cyv, cs.length + 1, cs.length + 1, csec, cbeh⟩
      have HO := hide hap.1
      have HP := hide hap.2
      clear hap
      dsimp only [Cm.cells] at hR1 HP ⊢
      have hbl := At.lt hR1
      clear c7
      have c7 := hR1.cell 8
      simp at c7
      go_wp2_with fail
      go_region_law (refine step_append_mine rfl (.tmp 21) (.tmp 23) 42 rfl 118 i0 _ 11 88 Tryz.underlying42 hi0 hz0 hz1 hz2 rfl (by decide) (b + 1) (.slice ao cs.length cap) cs.length (flat cs) (by simp [Act.eval]) (by exact unhide HO _ _) ⟨w1.heap.size + 1, 0, none⟩ 1 1 [.int .u8 ck, .int .i64 cvar, .bool cxn, .int .i64 cxv, .int .u8 cop, .bool cyn, .int .i64 cyv, .int .i64 (cs.length + 1), .int .i64 (cs.length + 1), .int .i64 csec, .int .i64 cbeh] (by simp [Act.eval]) rfl (by exact cell_nine_new _ _ _ _ _ _ _ _ _ _ _ _ _ _) (by simp [Value.oneCell']) (by unfold maxLen; omega) (by omega) (by simp; omega) ?_; intro v' w' hO' hg'; obtain ⟨hR', hOwn', hblk, hbel, g', cap', hv', hgb⟩ := unhide HP _ _ _ _ hO' hg'; have c7' := hR'.cell 8; have f7' := hR'.frozen 8; simp at c7'; rw [hv'])
      all_goals
        have hA : At w' w1.heap.size 118 _ := hblk
        have d0 := hA.cell 0
        simp at d0
        have hR2 := Rd.setC hR' (.slice (some ⟨g', 0, none⟩) (cs.length + 1) cap')
        have hO2 := ownsRow_setCell_below hOwn' (a := ⟨b, 8, none⟩) (Nat.lt_succ_self b) (.slice (some ⟨g', 0, none⟩) (cs.length + 1) cap')
        have hB2 := hbel.setCell (p := ⟨b, 8, none⟩) (Nat.le_refl _) (.slice (some ⟨g', 0, none⟩) (cs.length + 1) cap')
        rw [hv'] at hO2
        clear hv' hblk hA c7' f7' hO' hg' hR' hOwn'
        have hS2 := stt_mk hR2 hO2
        clear hR2 hO2
        go_wp2_with fail
        go_end0
        exact ⟨rfl, hS2, hB2⟩
end
end Go.Proofs.YtnkbfdbbcaffmaaGreatDoor
