import Derived.Test.YtnkbfdbbcaffmabX09Own
import Derived.Deep.RegionLaw
import Derived.Deep.LoopGhost
/-
  takeCommand whole; 'r.commands = append(r.commands, c)'.
-/
namespace Go.Proofs.Ytnkbfdbbcaffmab
open Go.RowKit

theorem Try.infoCmd : (Try.prog.info? 74).map (fun i => (i.zero, i.size, i.bytes)) = some (some (.agg #[.int .u8 0, .int .i64 0, .bool false, .int .i64 0, .int .u8 0, .bool false, .int .i64 0, .int .i64 0, .int .i64 0, .int .i64 0, .int .i64 0]), 11, 88) := by kernel_rfl

/-- append onto a row of the call's own, as one step of a region that draws. -/
theorem step_append_mine {P : Program} {ops : Array Oper} {o : Oper} {a : Act} {w : World} {K : Act → World → Prop} {Q : Exit → Act → World → Prop} {E : Prop}
    (hg : o.guard = none) (s x : Operand) (t : TypeId) (hop : o.op = Op.call { callee := Callee.builtin Builtin.append, args := #[s, x], argTypes := #[t, t] })
    (e : TypeId) (i : TypeInfo) (z : Value) (size bytes : Nat) (h1 : P.underlying t = some (.slice e)) (h2 : P.info? e = some i) (h3 : i.zero = some z) (h4 : i.size = size) (h5 : i.bytes = bytes) (h6 : z.cells.size = size) (h7 : 0 < size)
    (base : Nat) (v : Value) (n : Nat) (xs : List Value) (hs : a.eval s = v) (hown : w.ownsRow base e size v n xs)
    (ad : Addr) (m c : Nat) (news : List Value) (hx : a.eval x = .slice (some ad) m c) (hn : news.length = m * size) (hc : ∀ j u, news[j]? = some u → w.cell? (ad.add j) = some u) (h1c : ∀ u ∈ news, u.oneCell' = true)
    (b1 : n + m ≤ maxLen) (b2 : (n + m) * bytes ≤ 140737488355328) (hb : base ≤ w.heap.size)
    (hK : ∀ v' w', w'.ownsRow base e size v' (n + m) (xs ++ news) → w.grownBy w' v.ownBlock → K (a.put o.dst v') w') :
    if Region.wanted o (yielded ops a.tmps) = true then Oper.wp P o a w K Q else E := by
  have hw : Region.wanted o (yielded ops a.tmps) = true := by simp [Region.wanted, hg]
  rw [if_pos hw]
  obtain ⟨v', w', hrun, r1, r2, _⟩ := run_append_own (P := P) w base t o.type e i z size bytes h1 h2 h3 h4 h5 h6 h7 v n xs hown ad m c news hn hc h1c b1 b2 hb
  unfold Oper.wp
  simp [execOp, hop, resolve, invoke, builtin, hs, hx, hrun, Result.andThen]
  exact hK v' w' r1 r2

theorem cell_nine_new (w : World) (o : Obj) (t : TypeId) (v0 v1 v2 v3 v4 v5 v6 v7 v8 v9 v10 : Value) : ∀ j u, [v0, v1, v2, v3, v4, v5, v6, v7, v8, v9, v10][j]? = some u → ((w.alloc o).alloc (.cells #[v0, v1, v2, v3, v4, v5, v6, v7, v8, v9, v10] t)).drew.cell? ((⟨w.heap.size + 1, 0, none⟩ : Addr).add j) = some u := by
  intro j u hj
  have h := At.cell (At.new (w.alloc o) t #[v0, v1, v2, v3, v4, v5, v6, v7, v8, v9, v10]) j
  have e : (w.alloc o).heap.size = w.heap.size + 1 := by simp
  rw [e] at h
  rw [Addr.add_lit, Nat.zero_add]
  show World.cell? _ _ = _
  rw [World.cell?_drew, h]
  simpa using hj

section
variable {w : World} {b : Nat} {s : ByteArray} {p : Nat} {bad : Bool} {ht : ByteArray} {hw hv hn hm : Int} {cv : Value} {cs : List Cm}

theorem takeCommand_any (hR : Rd w b s p bad ht hw hv hn hm cv) (hs : s.size ≤ maxLen) (h0 : 0 ≤ hn) (h1 : hn ≤ 8) (h2 : 1 ≤ hv) (h3 : hv ≤ 256) (k : Int) (hk : pk s p bad = k) (hc : isCmd k = true) :
    Calls Try.prog 69 #[.pointer (some ⟨b, 0, none⟩)] w fun e w' => e = .returned (.agg (tcmd s p hv hn k).2.2.cells) ∧ Rd w' b s (tcmd s p hv hn k).1 (tcmd s p hv hn k).2.1 ht hw hv hn hm cv ∧ w.grownBy w' (some b) := by
  simp [isCmd] at hc
  unfold tcmd
  by_cases e1 : k = 61
  · rw [if_pos e1]; exact takeCommand_set hR hs h0 h1 h2 h3 (hk.trans e1)
  · rw [if_neg e1]
    by_cases e2 : k = 108
    · rw [if_pos e2]; exact takeCommand_load hR hs h0 h1 h2 h3 (hk.trans e2)
    · rw [if_neg e2]
      by_cases e3 : k = 115
      · rw [if_pos e3]; exact takeCommand_store hR hs h0 h1 h2 h3 (hk.trans e3)
      · rw [if_neg e3]; exact takeCommand_test hR hs h0 h1 h2 h3 k hk (by omega)

theorem Own.shape (h : Own w b cv cs) : ∃ ao cap, cv = .slice ao cs.length cap := by
  rcases h.2 with ⟨h', h0⟩ | ⟨g, cap, cur, h', hb, _⟩
  · exact ⟨none, 0, by rw [h', h0]⟩
  · exact ⟨_, cap, h'⟩

/-- The reader in block b, its commands in a row behind it. -/
def Stt (w : World) (b : Nat) (s : ByteArray) (ht : ByteArray) (hw hv hn hm : Int) (st : PS) : Prop := ∃ cv, Rd w b s st.p st.bad ht hw hv hn hm cv ∧ Own w b cv st.cs

theorem stt_mk {w : World} {b : Nat} {s : ByteArray} {p : Nat} {bad : Bool} {ht : ByteArray} {hw hv hn hm : Int} {cv : Value} {cs : List Cm} (h : Rd w b s p bad ht hw hv hn hm cv) (k : w.ownsRow (b + 1) 74 11 cv cs.length (flat cs)) : Stt w b s ht hw hv hn hm ⟨p, bad, cs⟩ := ⟨cv, h, k⟩

/-- What holds behind the append. -/
theorem app_post {w w1 : World} {b : Nat} {s : ByteArray} {p p1 : Nat} {bad b1 : Bool} {ht : ByteArray} {hw hv hn hm : Int} {cs : List Cm} {ao : Option Addr} {cap : Nat}
    (hR : Rd w b s p bad ht hw hv hn hm (.slice ao cs.length cap)) (hO : Own w b (.slice ao cs.length cap) cs) (hR1 : Rd w1 b s p1 b1 ht hw hv hn hm (.slice ao cs.length cap)) (hg1 : w.grownBy w1 (some b)) (c : Cm) :
    (∀ o o', ((w1.alloc o).alloc o').drew.ownsRow (b + 1) 74 11 (.slice ao cs.length cap) cs.length (flat cs)) ∧
    (∀ o o' v' w', w'.ownsRow (b + 1) 74 11 v' (cs.length + 1) (flat cs ++ c.cells.toList) → ((w1.alloc o).alloc o').drew.grownBy w' (Value.slice ao cs.length cap).ownBlock → Rd w' b s p1 b1 ht hw hv hn hm (.slice ao cs.length cap) ∧ Own w' b v' (cs ++ [c]) ∧ w'.heap[w1.heap.size]? = some o ∧ Below b w w' ∧ ∃ g' cap', v' = .slice (some ⟨g', 0, none⟩) (cs.length + 1) cap' ∧ b < g') := by
  have hbl := At.lt hR1
  have hne : (Value.slice ao cs.length cap).ownBlock ≠ some b := by
    intro e
    have := (World.ownsRow.lt hO) b e
    omega
  have HO : ∀ o o', ((w1.alloc o).alloc o').drew.ownsRow (b + 1) 74 11 (.slice ao cs.length cap) cs.length (flat cs) :=
    fun o o' => World.ownsRow.alloc (World.ownsRow.alloc (World.ownsRow.kept hO hg1 (.inr hne)) o) o'
  refine ⟨HO, ?_⟩
  intro o o' v' w' h1 h2
  have hb0 : b < w.heap.size := At.lt hR
  refine ⟨At.grown (At.drew (At.alloc (At.alloc hR1 o) o')) h2 (fun e => hne e.symm), ?_, ?_, ?_, ?_⟩
  · unfold Own
    have e : flat (cs ++ [c]) = flat cs ++ c.cells.toList := by simp [flat]
    rw [List.length_append, e]; exact h1
  · rw [h2.block w1.heap.size (by simp; omega) (fun e => by
      have h3 := (World.ownsRow.lt (World.ownsRow.kept hO hg1 (.inr hne))) _ e.symm
      omega)]
    show ((w1.heap.push o).push o')[w1.heap.size]? = some o
    rw [Array.getElem?_push, if_neg (by simp)]; simp
  · refine (gb_below hg1 (Nat.le_of_lt hb0)).trans ?_
    refine ((((Below.refl b w1).alloc (Nat.le_of_lt hbl) o).alloc (by simp; omega) o').drew).trans ?_
    exact ⟨h2.os, h2.tape, h2.output, h2.size, fun k hk => h2.block k (by simp; omega) (fun e => by
      have := (World.ownsRow.lt (HO o o')) _ e.symm
      omega)⟩
  · rcases h1.2 with ⟨_, h3⟩ | ⟨g', cap', cur, h4, h5, _⟩
    · omega
    · exact ⟨g', cap', h4, by omega⟩

/-- The contract of a call that reads on from st to st'. -/
def Reads (f : Nat) (args : Array Value) (w : World) (b : Nat) (s : ByteArray) (ht : ByteArray) (hw hv hn hm : Int) (st' : PS) : Prop :=
  Calls Try.prog f args w fun e w' => e = .returned (.tuple #[]) ∧ Stt w' b s ht hw hv hn hm st' ∧ Below b w w'

set_option maxHeartbeats 4000000 in
theorem readCommand_any (f : PS → PS) (b : Nat) (s : ByteArray) (ht : ByteArray) (hw hv hn hm : Int) (N : Nat) (st : PS) (w : World)
    (hbr : ∀ st1 w1, Stt w1 b s ht hw hv hn hm st1 → Inv s st1 → lft s st1 ≤ N → st.cs.length < st1.cs.length → Reads 70 #[.pointer (some ⟨b, 0, none⟩), .int .i64 st.cs.length] w1 b s ht hw hv hn hm (brn st.cs.length (blk f s st1) (blk f s (blk f s st1))))
    (hlo : ∀ st1 w1, Stt w1 b s ht hw hv hn hm st1 → Inv s st1 → lft s st1 ≤ N → st.cs.length < st1.cs.length → Reads 71 #[.pointer (some ⟨b, 0, none⟩), .int .i64 st.cs.length] w1 b s ht hw hv hn hm (lop st.cs.length (blk f s st1)))
    (hS : Stt w b s ht hw hv hn hm st) (hI : Inv s st) (hl : lft s st ≤ N + 1) (hs : s.size ≤ 1000) (h0 : 0 ≤ hn) (h1 : hn ≤ 8) (h2 : 1 ≤ hv) (h3 : hv ≤ 256) (hc : isCmd (pk s st.p st.bad) = true) :
    Reads 56 #[.pointer (some ⟨b, 0, none⟩)] w b s ht hw hv hn hm (cmdStep f s hv hn st) := by
  have Hbr := hide hbr
  have Hlo := hide hlo
  clear hbr hlo
  obtain ⟨hI1, _, hlen1, hl1⟩ := ps1_nxt (hv := hv) (hn := hn) hI hc
  have hl2 : lft s (ps1 s hv hn st) ≤ N := by omega
  have hlen2 : st.cs.length < (ps1 s hv hn st).cs.length := by omega
  have Hl2 := hide hl2
  have Hlen2 := hide hlen2
  have HI1 := hide hI1
  clear hI1 hlen1 hl1 hl2 hlen2
  obtain ⟨p, bad, cs⟩ := st
  obtain ⟨cv, hR, hO⟩ := hS
  dsimp only at *
  have hmx : s.size ≤ maxLen := by unfold maxLen; omega
  have hcl : cs.length ≤ 1000 := by have := hI.1; have := hI.2; dsimp only at *; omega
  have HI := hide hI
  clear hI hl hs
  obtain ⟨i0, hi0, hz0, hz1, hz2⟩ := info_parts Try.infoCmd
  obtain ⟨ao, cap, rfl⟩ := hO.shape
  unfold cmdStep
  dsimp only
  have hps : ps1 s hv hn ⟨p, bad, cs⟩ = ⟨(tcmd s p hv hn (pk s p bad)).1, (tcmd s p hv hn (pk s p bad)).2.1, cs ++ [{ (tcmd s p hv hn (pk s p bad)).2.2 with yes := cs.length + 1, no := cs.length + 1 }]⟩ := rfl
  generalize hk : pk s p bad = k at *
  have hkd := tcmd_kind s p hv hn k
  generalize hq : tcmd s p hv hn k = t at *
  have Ht := hide hq
  have Hk := hide hk
  have Hc := hide hc
  clear hq hk hc
  obtain ⟨p1, b1, c⟩ := t
  obtain ⟨ck, cvar, cxn, cxv, cop, cyn, cyv, cyes, cno, csec, cbeh⟩ := c
  dsimp only at *
  subst hkd
  generalize hs1 : ps1 s hv hn ⟨p, bad, cs⟩ = st1 at *
  subst hps
  have Hs1 := hide hs1
  clear hs1
  unfold Reads
  have c7 := hR.cell 8
  simp at c7
  by_cases k63 : ck = 63
  · rw [if_pos k63]
    generalize hfin : brn cs.length _ _ = fin
    have Hfin := hide hfin
    clear hfin
    subst k63
    go_enter Try.func56, Try.ntmps56
    go_wp2_with fail
    refine (takeCommand_any hR hmx h0 h1 h2 h3 _ (unhide Hk) (unhide Hc)).mono ?_
    rintro e w1 ⟨rfl, hR1, hg1⟩
    rw [unhide Ht] at hR1 ⊢
    have hap := app_post hR hO hR1 hg1 ⟨63, cvar, cxn, cxv, cop, cyn, cyv, cs.length + 1, cs.length + 1, csec, cbeh⟩
    have HO := hide hap.1
    have HP := hide hap.2
    clear hap
    dsimp only [Cm.cells] at hR1 HP ⊢
    have hbl := At.lt hR1
    clear c7
    have c7 := hR1.cell 8
    simp at c7
    go_wp2_with fail
    go_region_law (refine step_append_mine rfl (.tmp 21) (.tmp 23) 54 rfl 74 i0 _ 11 88 Try.underlying54 hi0 hz0 hz1 hz2 rfl (by decide) (b + 1) (.slice ao cs.length cap) cs.length (flat cs) (by simp [Act.eval]) (by exact unhide HO _ _) ⟨w1.heap.size + 1, 0, none⟩ 1 1 [.int .u8 63, .int .i64 cvar, .bool cxn, .int .i64 cxv, .int .u8 cop, .bool cyn, .int .i64 cyv, .int .i64 (cs.length + 1), .int .i64 (cs.length + 1), .int .i64 csec, .int .i64 cbeh] (by simp [Act.eval]) rfl (by exact cell_nine_new _ _ _ _ _ _ _ _ _ _ _ _ _ _) (by simp [Value.oneCell']) (by unfold maxLen; omega) (by omega) (by simp; omega) ?_; intro v' w' hO' hg'; obtain ⟨hR', hOwn', hblk, hbel, g', cap', hv', hgb⟩ := unhide HP _ _ _ _ hO' hg'; have c7' := hR'.cell 8; have f7' := hR'.frozen 8; simp at c7'; rw [hv'])
    all_goals
      have hA : At w' w1.heap.size 74 _ := hblk
      have d0 := hA.cell 0
      simp at d0
      have hR2 := Rd.setC hR' (.slice (some ⟨g', 0, none⟩) (cs.length + 1) cap')
      have hO2 := ownsRow_setCell_below hOwn' (a := ⟨b, 8, none⟩) (Nat.lt_succ_self b) (.slice (some ⟨g', 0, none⟩) (cs.length + 1) cap')
      have hB2 := hbel.setCell (p := ⟨b, 8, none⟩) (Nat.le_refl _) (.slice (some ⟨g', 0, none⟩) (cs.length + 1) cap')
      rw [hv'] at hO2
      clear hv' hblk hA c7' f7' hO' hg' hR' hOwn'
      have hS2 := stt_mk hR2 hO2
      clear hR2 hO2
      go_wp2_with fail
      have hcall := unhide Hbr _ _ hS2 (unhide HI1) (unhide Hl2) (unhide Hlen2)
      unfold Reads at hcall
      refine hcall.mono ?_
      rintro e w3 ⟨rfl, hS3, hB3⟩
      rw [unhide Hfin] at hS3
      go_wp2_with fail
      go_end0
      exact ⟨rfl, hS3, hB2.trans hB3⟩
  · rw [if_neg k63]
    by_cases k33 : ck = 33
    · rw [if_pos k33]
      generalize hfin : lop cs.length _ = fin
      have Hfin := hide hfin
      clear hfin
      subst k33
      go_enter Try.func56, Try.ntmps56
      go_wp2_with fail
      refine (takeCommand_any hR hmx h0 h1 h2 h3 _ (unhide Hk) (unhide Hc)).mono ?_
      rintro e w1 ⟨rfl, hR1, hg1⟩
      rw [unhide Ht] at hR1 ⊢
      have hap := app_post hR hO hR1 hg1 ⟨33, cvar, cxn, cxv, cop, cyn, cyv, cs.length + 1, cs.length + 1, csec, cbeh⟩
      have HO := hide hap.1
      have HP := hide hap.2
      clear hap
      dsimp only [Cm.cells] at hR1 HP ⊢
      have hbl := At.lt hR1
      clear c7
      have c7 := hR1.cell 8
      simp at c7
      go_wp2_with fail
      go_region_law (refine step_append_mine rfl (.tmp 21) (.tmp 23) 54 rfl 74 i0 _ 11 88 Try.underlying54 hi0 hz0 hz1 hz2 rfl (by decide) (b + 1) (.slice ao cs.length cap) cs.length (flat cs) (by simp [Act.eval]) (by exact unhide HO _ _) ⟨w1.heap.size + 1, 0, none⟩ 1 1 [.int .u8 33, .int .i64 cvar, .bool cxn, .int .i64 cxv, .int .u8 cop, .bool cyn, .int .i64 cyv, .int .i64 (cs.length + 1), .int .i64 (cs.length + 1), .int .i64 csec, .int .i64 cbeh] (by simp [Act.eval]) rfl (by exact cell_nine_new _ _ _ _ _ _ _ _ _ _ _ _ _ _) (by simp [Value.oneCell']) (by unfold maxLen; omega) (by omega) (by simp; omega) ?_; intro v' w' hO' hg'; obtain ⟨hR', hOwn', hblk, hbel, g', cap', hv', hgb⟩ := unhide HP _ _ _ _ hO' hg'; have c7' := hR'.cell 8; have f7' := hR'.frozen 8; simp at c7'; rw [hv'])
      all_goals
        have hA : At w' w1.heap.size 74 _ := hblk
        have d0 := hA.cell 0
        simp at d0
        have hR2 := Rd.setC hR' (.slice (some ⟨g', 0, none⟩) (cs.length + 1) cap')
        have hO2 := ownsRow_setCell_below hOwn' (a := ⟨b, 8, none⟩) (Nat.lt_succ_self b) (.slice (some ⟨g', 0, none⟩) (cs.length + 1) cap')
        have hB2 := hbel.setCell (p := ⟨b, 8, none⟩) (Nat.le_refl _) (.slice (some ⟨g', 0, none⟩) (cs.length + 1) cap')
        rw [hv'] at hO2
        clear hv' hblk hA c7' f7' hO' hg' hR' hOwn'
        have hS2 := stt_mk hR2 hO2
        clear hR2 hO2
        go_wp2_with fail
        have hcall := unhide Hlo _ _ hS2 (unhide HI1) (unhide Hl2) (unhide Hlen2)
        unfold Reads at hcall
        refine hcall.mono ?_
        rintro e w3 ⟨rfl, hS3, hB3⟩
        rw [unhide Hfin] at hS3
        go_wp2_with fail
        go_end0
        exact ⟨rfl, hS3, hB2.trans hB3⟩
    · rw [if_neg k33]
      have e63 : (ck == 63) = false := by simpa using k63
      have e33 : (ck == 33) = false := by simpa using k33
      clear k63 k33
      go_enter Try.func56, Try.ntmps56
      go_wp2_with fail
      refine (takeCommand_any hR hmx h0 h1 h2 h3 _ (unhide Hk) (unhide Hc)).mono ?_
      rintro e w1 ⟨rfl, hR1, hg1⟩
      rw [unhide Ht] at hR1 ⊢
      have hap := app_post hR hO hR1 hg1 ⟨ck, cvar, cxn, cxv, cop, cyn, cyv, cs.length + 1, cs.length + 1, csec, cbeh⟩
      have HO := hide hap.1
      have HP := hide hap.2
      clear hap
      dsimp only [Cm.cells] at hR1 HP ⊢
      have hbl := At.lt hR1
      clear c7
      have c7 := hR1.cell 8
      simp at c7
      go_wp2_with fail
      go_region_law (refine step_append_mine rfl (.tmp 21) (.tmp 23) 54 rfl 74 i0 _ 11 88 Try.underlying54 hi0 hz0 hz1 hz2 rfl (by decide) (b + 1) (.slice ao cs.length cap) cs.length (flat cs) (by simp [Act.eval]) (by exact unhide HO _ _) ⟨w1.heap.size + 1, 0, none⟩ 1 1 [.int .u8 ck, .int .i64 cvar, .bool cxn, .int .i64 cxv, .int .u8 cop, .bool cyn, .int .i64 cyv, .int .i64 (cs.length + 1), .int .i64 (cs.length + 1), .int .i64 csec, .int .i64 cbeh] (by simp [Act.eval]) rfl (by exact cell_nine_new _ _ _ _ _ _ _ _ _ _ _ _ _ _) (by simp [Value.oneCell']) (by unfold maxLen; omega) (by omega) (by simp; omega) ?_; intro v' w' hO' hg'; obtain ⟨hR', hOwn', hblk, hbel, g', cap', hv', hgb⟩ := unhide HP _ _ _ _ hO' hg'; have c7' := hR'.cell 8; have f7' := hR'.frozen 8; simp at c7'; rw [hv'])
      all_goals
        have hA : At w' w1.heap.size 74 _ := hblk
        have d0 := hA.cell 0
        simp at d0
        have hR2 := Rd.setC hR' (.slice (some ⟨g', 0, none⟩) (cs.length + 1) cap')
        have hO2 := ownsRow_setCell_below hOwn' (a := ⟨b, 8, none⟩) (Nat.lt_succ_self b) (.slice (some ⟨g', 0, none⟩) (cs.length + 1) cap')
        have hB2 := hbel.setCell (p := ⟨b, 8, none⟩) (Nat.le_refl _) (.slice (some ⟨g', 0, none⟩) (cs.length + 1) cap')
        rw [hv'] at hO2
        clear hv' hblk hA c7' f7' hO' hg' hR' hOwn'
        have hS2 := stt_mk hR2 hO2
        clear hR2 hO2
        go_wp2_with fail
        go_end0
        exact ⟨rfl, hS2, hB2⟩
end
end Go.Proofs.Ytnkbfdbbcaffmab
/-
  readBlock, readBranch, readLoop, readBody.
-/
namespace Go.Proofs.Ytnkbfdbbcaffmab
open Go.RowKit

section
variable {b : Nat} {s : ByteArray} {ht : ByteArray} {hw hv hn hm : Int}

theorem take_stt {st : PS} {w : World} (hS : Stt w b s ht hw hv hn hm st) (hs : s.size ≤ maxLen) (c : Int) :
    Reads 53 #[.pointer (some ⟨b, 0, none⟩), .int .u8 c] w b s ht hw hv hn hm ⟨(tk s st.p st.bad c).1, (tk s st.p st.bad c).2, st.cs⟩ := by
  obtain ⟨cv, hR, hO⟩ := hS
  unfold Reads
  refine (take_any hR hs c).mono ?_
  rintro e w' ⟨rfl, hR', hg⟩
  have hne : cv.ownBlock ≠ some b := by
    intro e
    have := (World.ownsRow.lt hO) b e
    omega
  exact ⟨rfl, ⟨cv, hR', World.ownsRow.kept hO hg (.inr hne)⟩, gb_below hg (Nat.le_of_lt (At.lt hR))⟩

/-- The body's contract, for texts of which no more than N is left. -/
def BodyOK (b : Nat) (s : ByteArray) (ht : ByteArray) (hw hv hn hm : Int) (f : PS → PS) (N : Nat) : Prop :=
  ∀ st w, Stt w b s ht hw hv hn hm st → Inv s st → lft s st ≤ N → Reads 35 #[.pointer (some ⟨b, 0, none⟩)] w b s ht hw hv hn hm (f st)

def Fine (s : ByteArray) (f : PS → PS) (N : Nat) : Prop := ∀ st, Inv s st → lft s st ≤ N → Nxt s st (f st)

set_option maxHeartbeats 1000000 in
theorem readBlock_any {f : PS → PS} {N : Nat} (hB : BodyOK b s ht hw hv hn hm f N) (hs : s.size ≤ maxLen) (st : PS) (w : World) (hS : Stt w b s ht hw hv hn hm st) (hI : Inv s st) (hl : lft s st ≤ N) :
    Reads 87 #[.pointer (some ⟨b, 0, none⟩)] w b s ht hw hv hn hm (blk f s st) := by
  unfold blk
  dsimp only
  have n1 := nxt_tk hI 40
  have hl1 : Hid (lft s ⟨(tk s st.p st.bad 40).1, (tk s st.p st.bad 40).2, st.cs⟩ ≤ N) := Nat.le_trans n1.lft hl
  have hI1 := hide n1.2.2
  clear n1 hI hl
  have h1 := take_stt hS hs 40
  unfold Reads at h1 ⊢
  generalize hst1 : (⟨(tk s st.p st.bad 40).1, (tk s st.p st.bad 40).2, st.cs⟩ : PS) = st1 at *
  clear hst1
  have H1 := hide h1
  clear h1
  generalize hst2 : f st1 = st2 at *
  have Hst2 := hide hst2
  clear hst2
  have hs' := hide hs
  clear hs
  go_enter Try.func87, Try.ntmps87
  go_wp2_with fail
  refine (unhide H1).mono ?_
  rintro e w1 ⟨rfl, hS1, hB1⟩
  go_wp2_with fail
  have h2 := hB st1 w1 hS1 (unhide hI1) (unhide hl1)
  unfold Reads at h2
  refine h2.mono ?_
  rintro e w2 ⟨rfl, hS2, hB2⟩
  rw [unhide Hst2] at hS2
  clear h2
  go_wp2_with fail
  have h3 := take_stt hS2 (unhide hs') 41
  unfold Reads at h3
  refine h3.mono ?_
  rintro e w3 ⟨rfl, hS3, hB3⟩
  clear h3
  go_wp2_with fail
  go_end0
  exact ⟨rfl, hS3, hB1.trans (hB2.trans hB3)⟩

theorem Own.putNo {w : World} {g n cap : Nat} {cs : List Cm} (h : Own w b (.slice (some ⟨g, 0, none⟩) n cap) cs) {i : Nat} (hi : i < cs.length) (v : Int) :
    Own (w.setCell ⟨g, i * 11 + 8, none⟩ (.int .i64 v)) b (.slice (some ⟨g, 0, none⟩) n cap) (setNo cs i v) := by
  have hc : cs[i]? = some cs[i] := List.getElem?_eq_getElem hi
  unfold setNo
  rw [hc]
  exact h.put hc (by omega) rfl

theorem Own.putBr {w : World} {g n cap : Nat} {cs : List Cm} (h : Own w b (.slice (some ⟨g, 0, none⟩) n cap) cs) {i : Nat} (hi : i < cs.length) (v e : Int) :
    Own (((w.setCell ⟨g, i * 11 + 8, none⟩ (.int .i64 v)).setCell ⟨g, i * 11 + 9, none⟩ (.int .i64 v)).setCell ⟨g, i * 11 + 10, none⟩ (.int .i64 e)) b (.slice (some ⟨g, 0, none⟩) n cap) (setBr cs i v e) := by
  have hc : cs[i]? = some cs[i] := List.getElem?_eq_getElem hi
  unfold setBr
  rw [hc]
  have h1 := h.put (c' := { cs[i] with no := v }) (j := 8) (v := .int .i64 v) hc (by omega) rfl
  have h2 := h1.put (i := i) (c := { cs[i] with no := v }) (c' := { cs[i] with no := v, sec := v }) (j := 9) (v := .int .i64 v) (by simp [hi]) (by omega) rfl
  have h3 := h2.put (i := i) (c := { cs[i] with no := v, sec := v }) (c' := { cs[i] with no := v, sec := v, beh := e }) (j := 10) (v := .int .i64 e) (by simp [hi]) (by omega) rfl
  rw [List.set_set, List.set_set] at h3
  exact h3

set_option maxHeartbeats 2000000 in
theorem readLoop_any {f : PS → PS} {N : Nat} (hB : BodyOK b s ht hw hv hn hm f N) (hF : Fine s f N) (hs : s.size ≤ 1000) (i : Nat) (st : PS) (w : World) (hS : Stt w b s ht hw hv hn hm st) (hI : Inv s st) (hl : lft s st ≤ N) (hi : i < st.cs.length) :
    Reads 71 #[.pointer (some ⟨b, 0, none⟩), .int .i64 i] w b s ht hw hv hn hm (lop i (blk f s st)) := by
  have hmx : s.size ≤ maxLen := by unfold maxLen; omega
  have h1 := readBlock_any hB hmx st w hS hI hl
  have n1 := blk_nxt hF hI hl
  generalize hst1 : blk f s st = st1 at *
  clear hst1
  have hlen : i < st1.cs.length := Nat.lt_of_lt_of_le hi n1.2.1
  have hcap : st1.cs.length ≤ 1000 := by have := n1.2.2.1; have := n1.2.2.2; omega
  clear n1 hI hl hB hF
  unfold lop
  obtain ⟨p1, b1, cs1⟩ := st1
  dsimp only at *
  unfold Reads at h1 ⊢
  have H1 := hide h1
  clear h1
  go_enter Try.func71, Try.ntmps71
  go_wp2_with fail
  refine (unhide H1).mono ?_
  rintro e w1 ⟨rfl, ⟨cv, hR1, hO1⟩, hB1⟩
  dsimp only at hR1 hO1
  obtain ⟨g, cap, rfl, hg⟩ := hO1.form (by rintro rfl; simp at hlen)
  have c7 := hR1.cell 8
  simp at c7
  go_wp2_with fail
  refine (redirect_any hR1 hO1 i cs1.length i hlen (Nat.le_refl _) hcap).mono ?_
  rintro e w2 ⟨rfl, hR2, hO2, hB2⟩
  have hlr := rdr_length cs1 i cs1.length cs1.length i
  have hO3 := hO2.putNo (i := i) (by rw [hlr]; exact hlen) cs1.length
  have hlen2 : i < (rdr cs1 i cs1.length cs1.length i).length := by rw [hlr]; exact hlen
  obtain ⟨cc, hcc⟩ : ∃ cc, (rdr cs1 i cs1.length cs1.length i)[i]? = some cc := ⟨_, List.getElem?_eq_getElem hlen2⟩
  have y := hO2.at_ hcc 8 (by omega)
  have fz := fun j => hO2.fz j
  simp [Cm.cells] at y
  clear hlr hlen2 hcc c7
  have c7 := hR2.cell 8
  simp at c7
  have hR3 := Rd.other hR2 (a := ⟨g, i * 11 + 8, none⟩) (.int .i64 cs1.length) (by show g ≠ b; omega)
  go_wp2_with fail
  go_end0
  exact ⟨rfl, ⟨_, hR3, hO3⟩, (hB1.trans hB2).setCell (Nat.le_of_lt hg) _⟩

set_option maxHeartbeats 2000000 in
theorem readBranch_any {f : PS → PS} {N : Nat} (hB : BodyOK b s ht hw hv hn hm f N) (hF : Fine s f N) (hs : s.size ≤ 1000) (i : Nat) (st : PS) (w : World) (hS : Stt w b s ht hw hv hn hm st) (hI : Inv s st) (hl : lft s st ≤ N) (hi : i < st.cs.length) :
    Reads 70 #[.pointer (some ⟨b, 0, none⟩), .int .i64 i] w b s ht hw hv hn hm (brn i (blk f s st) (blk f s (blk f s st))) := by
  have hmx : s.size ≤ maxLen := by unfold maxLen; omega
  have h1 := readBlock_any hB hmx st w hS hI hl
  have n1 := blk_nxt hF hI hl
  generalize hst1 : blk f s st = st1 at *
  clear hst1
  have h2 : ∀ w1, Stt w1 b s ht hw hv hn hm st1 → _ := fun w1 h => readBlock_any hB hmx st1 w1 h n1.2.2 (Nat.le_trans n1.lft hl)
  have n2 := blk_nxt hF n1.2.2 (Nat.le_trans n1.lft hl)
  generalize hst2 : blk f s st1 = st2 at *
  clear hst2
  have hlen : i < st1.cs.length := Nat.lt_of_lt_of_le hi n1.2.1
  have hlen' : st1.cs.length ≤ st2.cs.length := n2.2.1
  have hcap : st2.cs.length ≤ 1000 := by have := n2.2.2.1; have := n2.2.2.2; omega
  clear n1 n2 hI hl hB hF
  unfold brn
  obtain ⟨p1, b1, cs1⟩ := st1
  obtain ⟨p2, b2, cs2⟩ := st2
  dsimp only at *
  unfold Reads at h1 h2 ⊢
  have H1 := hide h1
  have H2 := hide h2
  clear h1 h2
  go_enter Try.func70, Try.ntmps70
  go_wp2_with fail
  refine (unhide H1).mono ?_
  rintro e w1 ⟨rfl, hS1, hB1⟩
  have HS1 := hide hS1
  obtain ⟨cv, hR1, hO1⟩ := hS1
  dsimp only at hR1 hO1
  obtain ⟨g0, cap0, rfl, hg0⟩ := hO1.form (by rintro rfl; simp at hlen)
  have c7 := hR1.cell 8
  simp at c7
  clear hO1
  go_wp2_with fail
  refine (unhide H2 w1 (unhide HS1)).mono ?_
  clear c7
  rintro e w2 ⟨rfl, ⟨cv, hR2, hO2⟩, hB2⟩
  dsimp only at hR2 hO2
  obtain ⟨g, cap, rfl, hg⟩ := hO2.form (by intro e; rw [e] at hlen'; simp at hlen'; rw [hlen'] at hlen; simp at hlen)
  have c7 := hR2.cell 8
  simp at c7
  go_wp2_with fail
  refine (redirect_any hR2 hO2 i cs1.length cs2.length hlen hlen' hcap).mono ?_
  rintro e w3 ⟨rfl, hR3, hO3, hB3⟩
  have hlr := rdr_length cs2 i cs1.length cs1.length cs2.length
  have hlen2 : i < (rdr cs2 i cs1.length cs1.length cs2.length).length := by rw [hlr]; omega
  have hO4 := hO3.putBr (i := i) hlen2 cs1.length cs2.length
  obtain ⟨cc, hcc⟩ : ∃ cc, (rdr cs2 i cs1.length cs1.length cs2.length)[i]? = some cc := ⟨_, List.getElem?_eq_getElem hlen2⟩
  have y := hO3.at_ hcc 8 (by omega)
  have y9 := hO3.at_ hcc 9 (by omega)
  have y10 := hO3.at_ hcc 10 (by omega)
  have fz := fun j => hO3.fz j
  simp [Cm.cells] at y y9 y10
  have hlt2 : i < cs2.length := by omega
  clear hlr hlen2 hcc c7
  have c7 := hR3.cell 8
  simp at c7
  have hR4 := Rd.other (Rd.other (Rd.other hR3 (a := ⟨g, i * 11 + 8, none⟩) (.int .i64 cs1.length) (by show g ≠ b; omega)) (a := ⟨g, i * 11 + 9, none⟩) (.int .i64 cs1.length) (by show g ≠ b; omega)) (a := ⟨g, i * 11 + 10, none⟩) (.int .i64 cs2.length) (by show g ≠ b; omega)
  go_wp2_with fail
  go_end0
  exact ⟨rfl, ⟨_, hR4, hO4⟩, (((hB1.trans (hB2.trans hB3)).setCell (Nat.le_of_lt hg) _).setCell (Nat.le_of_lt hg) _).setCell (Nat.le_of_lt hg) _⟩

set_option maxHeartbeats 2000000 in
theorem readBody_of (hs : s.size ≤ 1000) (F : Nat)
    (hC : ∀ f, f < F → ∀ st w, Stt w b s ht hw hv hn hm st → Inv s st → lft s st ≤ f + 1 → isCmd (pk s st.p st.bad) = true → Reads 56 #[.pointer (some ⟨b, 0, none⟩)] w b s ht hw hv hn hm (cmdStep (rdB s hv hn f) s hv hn st)) :
    BodyOK b s ht hw hv hn hm (rdB s hv hn F) F := by
  intro st w hS hI hl
  have hmx : s.size ≤ maxLen := by unfold maxLen; omega
  generalize hfin : rdB s hv hn F st = fin
  have Hfin := hide hfin
  clear hfin
  unfold Reads
  have HC := hide hC
  clear hC
  go_enter Try.func35, Try.ntmps35
  go_wp2_with fail
  go_loopg [] F (fun f wr => ∃ st', Hid (Stt wr b s ht hw hv hn hm st') ∧ Hid (Inv s st') ∧ Hid (lft s st' ≤ f) ∧ f ≤ F ∧ Hid (rdB s hv hn f st' = fin) ∧ Below b w wr)
  case atStart => exact ⟨st, hS, hI, hl, Nat.le_refl _, Hfin, Below.refl _ _⟩
  case round =>
    obtain ⟨st', hS', hI', hl', hle, hr, hB⟩ := hrel
    obtain ⟨cv, hR', hO'⟩ := unhide hS'
    cases hc : isCmd (pk s st'.p st'.bad) with
    | true =>
      have Hc := hide hc
      clear hc
      have hpos : 0 < gk := by
        have h1 := isCmd_pk (unhide Hc)
        have h2 := unhide hl'
        unfold lft at h2
        rw [h1.1] at h2
        simp at h2
        omega
      obtain ⟨f, rfl⟩ : ∃ f, gk = f + 1 := ⟨gk - 1, by omega⟩
      have hcmd := unhide HC f (by omega)
      have Hcmd := hide hcmd
      clear hcmd
      go_wp2_with fail
      refine (peek_any hR' hmx).mono ?_
      rintro e w1 ⟨rfl, n, rfl⟩
      go_wp2_with fail
      refine (isCommand_any _ _).mono ?_
      rintro e w1 ⟨rfl, rfl⟩
      rw [unhide Hc]
      go_wp2_with fail
      have hcall := unhide Hcmd st' (wr.drewN n) ⟨cv, hR', hO'⟩ (unhide hI') (unhide hl') (unhide Hc)
      unfold Reads at hcall
      refine hcall.mono ?_
      rintro e w2 ⟨rfl, hS2, hB2⟩
      clear hcall
      obtain ⟨hn1, hn2⟩ := step_nxt (hv := hv) (hn := hn) (rdb := rdB s hv hn f) (N := f) (rdB_nxt s hv hn f) (unhide hI') (unhide hl') (unhide Hc)
      have hr2 : rdB s hv hn f (cmdStep (rdB s hv hn f) s hv hn st') = fin := by
        have := unhide hr
        rw [rdB, if_pos (unhide Hc)] at this
        exact this
      have hl2 : lft s (cmdStep (rdB s hv hn f) s hv hn st') ≤ f := by have := unhide hl'; omega
      have HN := hide hn1.2.2
      have HR2 := hide hr2
      have HL2 := hide hl2
      clear hn1 hn2 hr2 hl2
      go_wp2_with fail
      go_roundg f
      case measure => omega
      case rel => exact ⟨_, hS2, HN, HL2, by omega, HR2, hB.trans ((below_drewN (Below.refl _ _) n).trans hB2)⟩
    | false =>
      have Hc := hide hc
      clear hc
      have hst : st' = fin := by
        have := unhide hr
        cases gk with
        | zero => exact this
        | succ f => rw [rdB, if_neg (by rw [unhide Hc]; simp)] at this; exact this
      have Hst := hide hst
      clear hst
      go_wp2_with fail
      refine (peek_any hR' hmx).mono ?_
      rintro e w1 ⟨rfl, n, rfl⟩
      go_wp2_with fail
      refine (isCommand_any _ _).mono ?_
      rintro e w1 ⟨rfl, rfl⟩
      rw [unhide Hc]
      go_wp2_with fail
      go_end0
      rw [← unhide Hst]
      exact ⟨rfl, ⟨cv, hR', hO'⟩, below_drewN hB n⟩

theorem body_all (hs : s.size ≤ 1000) (h0 : 0 ≤ hn) (h1 : hn ≤ 8) (h2 : 1 ≤ hv) (h3 : hv ≤ 256) : ∀ F, ∀ f, f ≤ F → BodyOK b s ht hw hv hn hm (rdB s hv hn f) f
  | 0, f, hf => readBody_of hs f (fun g hg => by omega)
  | F + 1, f, hf => readBody_of hs f (fun g hg st w hS hI hl hc => by
    have hB := body_all hs h0 h1 h2 h3 F g (by omega)
    have hF : Fine s (rdB s hv hn g) g := fun st hI hl => rdB_nxt s hv hn g st hI hl
    exact readCommand_any (rdB s hv hn g) b s ht hw hv hn hm g st w
      (fun st1 w1 a c d e => readBranch_any hB hF hs st.cs.length st1 w1 a c d e)
      (fun st1 w1 a c d e => readLoop_any hB hF hs st.cs.length st1 w1 a c d e) hS hI hl hs h0 h1 h2 h3 hc)
end
end Go.Proofs.Ytnkbfdbbcaffmab
