import Derived.Test.YtnkbfdbbcaffmaaGreatDoorX24Pl4
import Derived.Test.YtnkbfdbbcaffmaaGreatDoorX37CdW
import Derived.Maps.AppendAt
import Derived.Test.YtnkbfdbbcaffmaaGreatDoorX26Pl8
/-
  The document's line: a set, a load, a store.
-/
namespace Go.Proofs.YtnkbfdbbcaffmaaGreatDoor
open Go.RowKit

section
variable {w w' : World} {b : Nat} {W : Nat} {N : Int} {n m : Nat} {st : Int} {ks : KX} {view : Int} {tag steps : Int} {todo : ByteArray} {σ sn : List Int}

/-- A set, a load, a store, by the line's text. -/
theorem plain_line {c : Cm} {l : ByteArray} (hL : LnT (pw W) n c l.data.toList) (hk3 : c.kind = 61 ∨ c.kind = 108 ∨ c.kind = 115) (hc : CmOK (pw W) n c)
    (h : PlS w b (pw W) n m st ks view σ sn 0 steps todo) (hW : W ≤ 8) (hfit : Fits (pw W) σ) (hnm : n + m = σ.length) (hlen : σ.length ≤ 100) (hsl : sn.length ≤ 90000) (hv0 : 0 ≤ view) (hv1 : view ≤ 8) :
    Calls Tryz.prog 91 #[.pointer (some ⟨b, 0, none⟩), .string l] w fun e w' => e = .returned (.tuple #[]) ∧ PlS w' b (pw W) n m st ks view (act (pw W) view n m σ c).1 (sn ++ (act (pw W) view n m σ c).2.1) (if (act (pw W) view n m σ c).2.2.1 = true then 2 else 0) steps todo ∧ Below b w w' := by
  have hn : n ≤ σ.length := by omega
  have hV := (pw_bd W hW).1
  have hV2 := (pw_bd W hW).2
  have bx := vl_bd hfit hc.x hn
  obtain ⟨xx, hxx⟩ : ∃ xx : Nat, vl σ c.xn c.xv.toNat = (xx : Int) := ⟨(vl σ c.xn c.xv.toNat).toNat, by omega⟩
  have hsz := size_list l
  rcases hL with ⟨v, x, o, y, htx, hk, hv, hx, ho, hy⟩ | ⟨v, x, htx, hk, hv, hx⟩ | ⟨x, y, htx, hk, hx, hy⟩ | ⟨_, _, _, _, _, _, hk, _⟩ | ⟨_, _, _, _, _, hk, _⟩ | ⟨_, hk⟩
  · have hop := hc.op hk
    have by' := vl_bd hfit (hc.y (.inl hk)) hn
    obtain ⟨yy, hyy⟩ : ∃ yy : Nat, vl σ c.yn c.yv.toNat = (yy : Int) := ⟨(vl σ c.yn c.yv.toNat).toNat, by omega⟩
    have hvar := hc.var (.inl hk)
    have hv0' := hc.v0
    rw [htx] at hsz
    simp only [List.length_cons, List.length_nil] at hsz
    have k1 : (l[1]'(by omega)) = v := byte_eq _ (by rw [htx]; rfl)
    have k2 : (l[2]'(by omega)) = x := byte_eq _ (by rw [htx]; rfl)
    have k3 : (l[3]'(by omega)) = o := byte_eq _ (by rw [htx]; rfl)
    have k4 : (l[4]'(by omega)) = y := byte_eq _ (by rw [htx]; rfl)
    have k0 : (l[0]'(by omega)) = 61 := byte_eq _ (by rw [htx]; rfl)
    refine Calls.mono (plain_set (Q := fun w' => PlS w' b (pw W) n m st ks view (act (pw W) view n m σ c).1 (sn ++ (act (pw W) view n m σ c).2.1) (if (act (pw W) view n m σ c).2.2.1 = true then 2 else 0) steps todo ∧ Below b w w') l (by omega) (by rw [k0]; rfl) ?_) (fun e w' h => h)
    have hact : act (pw W) view n m σ c = ((actSet (pw W) view σ c.var.toNat c.xn c.xv.toNat c.op c.yn c.yv.toNat).1, (actSet (pw W) view σ c.var.toNat c.xn c.xv.toNat c.op c.yn c.yv.toNat).2.1, (actSet (pw W) view σ c.var.toNat c.xn c.xv.toNat c.op c.yn c.yv.toNat).2.2, c.yes) := by unfold act; rw [if_pos hk]
    rw [hact]
    unfold actSet
    rw [hxx, hyy]
    have e97 : ((l[1]'(by omega)).toNat : Int) = 97 + (c.var.toNat : Nat) := by rw [k1, hv]; omega
    have a1 := hx.low
    have a2 := hx.high hn
    have a3 := hx.val hV σ
    have a4 := hy.low
    have a5 := hy.high hn
    have a6 := hy.val hV σ
    rw [← k2] at a1 a2 a3
    rw [← k4] at a4 a5 a6
    rw [hxx] at a3 bx
    rw [hyy] at a6 by'
    rw [← k3] at ho
    cases hd : isDiv c.op with
    | false =>
      rw [if_neg (by simp)]
      refine (rset_plain h hW l (by omega) (by omega) (by omega) (by omega) c.var.toNat xx yy c.op e97 (by omega) a1 a4 a2 a5 a3 a6 bx.2 by'.2 ho hop hd).mono ?_
      rintro e w' ⟨rfl, hP, hB⟩
      exact ⟨rfl, by simpa using hP, hB⟩
    | true =>
      rw [if_pos rfl]
      by_cases hz : yy = 0
      · rw [if_pos (by omega)]
        refine (rset_trap h hW l (by omega) (by omega) (by omega) xx yy c.op a1 a4 a2 a5 a3 a6 bx.2 by'.2 ho hd hz hsl).mono ?_
        rintro e w' ⟨rfl, hP, hB⟩
        exact ⟨rfl, by simpa using hP, hB⟩
      · rw [if_neg (by omega)]
        refine (rset_div h hW l (by omega) (by omega) (by omega) (by omega) c.var.toNat xx yy c.op e97 (by omega) a1 a4 a2 a5 a3 a6 bx.2 by'.2 ho hop hd hz hsl).mono ?_
        rintro e w' ⟨rfl, hP, hB⟩
        exact ⟨rfl, by simpa using hP, hB⟩
  · have hvar := hc.var (.inr hk)
    have hv0' := hc.v0
    rw [htx] at hsz
    simp only [List.length_cons, List.length_nil] at hsz
    have k1 : (l[1]'(by omega)) = v := byte_eq _ (by rw [htx]; rfl)
    have k2 : (l[2]'(by omega)) = x := byte_eq _ (by rw [htx]; rfl)
    have k0 : (l[0]'(by omega)) = 108 := byte_eq _ (by rw [htx]; rfl)
    have e97 : ((l[1]'(by omega)).toNat : Int) = 97 + (c.var.toNat : Nat) := by rw [k1, hv]; omega
    have a1 := hx.low
    have a2 := hx.high hn
    have a3 := hx.val hV σ
    rw [← k2] at a1 a2 a3
    rw [hxx] at a3 bx
    refine (plain_load h hW l (by omega) (by omega) (by omega) (by rw [k0]; rfl) c.var.toNat xx e97 hvar a1 a2 a3 bx.2 hsl hv0 hv1 hnm hlen).mono ?_
    rintro e w' ⟨rfl, hP, hB⟩
    refine ⟨rfl, ?_, hB⟩
    unfold act
    rw [if_neg (by omega), if_pos hk, hxx]
    by_cases hm : (m : Int) ≤ xx
    · simp only [if_pos hm] at hP ⊢; exact hP
    · simp only [if_neg hm] at hP ⊢; simpa using hP
  · have by' := vl_bd hfit (hc.y (.inr hk)) hn
    obtain ⟨yy, hyy⟩ : ∃ yy : Nat, vl σ c.yn c.yv.toNat = (yy : Int) := ⟨(vl σ c.yn c.yv.toNat).toNat, by omega⟩
    rw [htx] at hsz
    simp only [List.length_cons, List.length_nil] at hsz
    have k1 : (l[1]'(by omega)) = x := byte_eq _ (by rw [htx]; rfl)
    have k2 : (l[2]'(by omega)) = y := byte_eq _ (by rw [htx]; rfl)
    have k0 : (l[0]'(by omega)) = 115 := byte_eq _ (by rw [htx]; rfl)
    have a1 := hx.low
    have a2 := hx.high hn
    have a3 := hx.val hV σ
    have a4 := hy.low
    have a5 := hy.high hn
    have a6 := hy.val hV σ
    rw [← k1] at a1 a2 a3
    rw [← k2] at a4 a5 a6
    rw [hxx] at a3 bx
    rw [hyy] at a6
    refine (plain_store h hW l (by omega) (by omega) (by omega) (by rw [k0]; rfl) xx yy a1 a2 a4 a5 a3 bx.2 a6 hsl hv0 hv1 hnm hlen).mono ?_
    rintro e w' ⟨rfl, hP, hB⟩
    refine ⟨rfl, ?_, hB⟩
    unfold act
    rw [if_neg (by omega), if_neg (by omega), if_pos hk, hxx, hyy]
    by_cases hm : (m : Int) ≤ xx
    · simp only [if_pos hm] at hP ⊢; exact hP
    · simp only [if_neg hm] at hP ⊢; simpa using hP
  · omega
  · omega
  · omega

theorem Pl.setAt {stv snv : Value} (h : Pl w b N n m st ks view stv snv tag steps todo) (z : Int) : Pl (w.setCell ⟨b, 11, none⟩ (.int .i64 z)) b N n m st { ks with at_ := z } view stv snv tag steps todo := by
  have := At.set h 11 (.int .i64 z); simpa [Pl] using this
theorem Pl.setPath {stv snv : Value} (h : Pl w b N n m st ks view stv snv tag steps todo) (v : Value) (ps : List Int) : Pl (w.setCell ⟨b, 12, none⟩ v) b N n m st { ks with pv := v, ps := ps } view stv snv tag steps todo := by
  have := At.set h 12 v; simpa [Pl] using this
theorem Pl.two {stv snv : Value} (h : Pl w b N n m st ks view stv snv tag steps todo) : w.cell? ⟨b, 11, none⟩ = some (.int .i64 ks.at_) ∧ w.cell? ⟨b, 12, none⟩ = some ks.pv := by
  refine ⟨?_, ?_⟩ <;> (rw [h.cell]; rfl)
theorem PlS.setAt (h : PlS w b N n m st ks view σ sn tag steps todo) (z : Int) : PlS (w.setCell ⟨b, 11, none⟩ (.int .i64 z)) b N n m st { ks with at_ := z } view σ sn tag steps todo := by
  obtain ⟨stv, snv, hP, hT, hS, hX⟩ := h
  exact ⟨stv, snv, hP.setAt z, hT.set _ (Nat.le_refl _), hS.set _ (Nat.le_refl _), hX.set _ (Nat.le_refl _)⟩
theorem PlS.two (h : PlS w b N n m st ks view σ sn tag steps todo) : w.cell? ⟨b, 11, none⟩ = some (.int .i64 ks.at_) ∧ w.cell? ⟨b, 12, none⟩ = some ks.pv := by
  obtain ⟨stv, snv, hP, hT, hS, hX⟩ := h
  exact hP.two
theorem PlS.lines (h : PlS w b N n m st ks view σ sn tag steps todo) : Ls w (b + 1) ks.lv ks.ls := by
  obtain ⟨stv, snv, hP, hT, hS, hX⟩ := h
  exact hX.2.1
theorem PlS.path (h : PlS w b N n m st ks view σ sn tag steps todo) : w.ownsRow (b + 1) 3 1 ks.pv ks.ps.length (intsL ks.ps) := by
  obtain ⟨stv, snv, hP, hT, hS, hX⟩ := h
  exact hX.1.1

/-- Behind the append onto the path. -/
theorem pls_path (h : PlS w b N n m st ks view σ sn tag steps todo) (z : Int) (o : Obj) {v' : Value}
    (h1 : w'.ownsRow (b + 1) 3 1 v' (ks.ps.length + 1) (intsL ks.ps ++ [.int .i64 z])) (h2' : (w.alloc o).drew.grownBy w' ks.pv.ownBlock) (h4 : v'.ownBlock = ks.pv.ownBlock ∨ v'.ownBlock = some (w.alloc o).heap.size) :
    PlS (w'.setCell ⟨b, 12, none⟩ v') b N n m st { ks with pv := v', ps := ks.ps ++ [z] } view σ sn tag steps todo ∧ w'.cell? ⟨b, 11, none⟩ = some (.int .i64 ks.at_) ∧ w'.cell? ⟨b, 12, none⟩ = some ks.pv ∧ (∀ j, w'.frozen? ⟨b, j, none⟩ = false) ∧ Below b w w' ∧ ∃ g' cap', v' = .slice (some ⟨g', 0, none⟩) (ks.ps.length + 1) cap' := by
  obtain ⟨stv, snv, hP, hT, hS, hX⟩ := h
  obtain ⟨⟨x1, x2⟩, ⟨x3, x4⟩⟩ := hX
  have hb := At.lt hP
  have h2 : (w.alloc o).grownBy w' ks.pv.ownBlock := gb_trans (gb_drew (gb_refl _ _)) h2'
  have hown : ∀ k, ks.pv.ownBlock = some k → b + 1 ≤ k ∧ k < w.heap.size := World.ownsRow.lt x1
  have ne1 : some b ≠ ks.pv.ownBlock := fun e => by have := hown b e.symm; omega
  have hP' : Pl w' b N n m st ks view stv snv tag steps todo := (At.alloc hP o).grown h2 ne1
  have hT' : Sr w' b stv σ := World.ownsRow.kept (World.ownsRow.alloc hT o) h2 (by
    cases h' : stv.ownBlock with
    | none => exact .inl rfl
    | some g => exact .inr (fun e => x2 g h' e.symm))
  have hS' : Sn w' b snv sn := row_keep (by decide) hS x1 h2
  have hl' := row_keep (by decide) x3 x1 h2
  have hrow : w'.ownsRow (b + 1) 3 1 v' (ks.ps ++ [z]).length (intsL (ks.ps ++ [z])) := by
    rw [List.length_append]
    have e : intsL (ks.ps ++ [z]) = intsL ks.ps ++ [.int .i64 z] := by simp [intsL]
    rw [e]; exact h1
  refine ⟨⟨stv, snv, hP'.setPath v' _, hT'.set _ (Nat.le_refl _), hS'.set _ (Nat.le_refl _), ⟨ownsRow_setCell_below hrow (Nat.lt_succ_self b) _, ?_⟩, ⟨ownsRow_setCell_below hl' (Nat.lt_succ_self b) _, x4⟩⟩, hP'.two.1, hP'.two.2, fun j => At.frozen hP' j, ?_, ?_⟩
  · intro g hg e
    rcases h4 with h4 | h4
    · exact x2 g hg (h4.symm.trans e)
    · have e' : v'.ownBlock = some g := e
      rw [h4] at e'
      have := (World.ownsRow.lt hT) g hg
      simp at e'
      omega
  · refine ((Below.refl b w).alloc (by omega) o).trans ?_
    exact ⟨h2.os, h2.tape, h2.output, h2.size, fun k hk => h2.block k (by simp; omega) (fun e => by have := hown k e.symm; omega)⟩
  · rcases h1.2 with ⟨_, h3⟩ | ⟨g', cap', cur, h4, _⟩
    · omega
    · exact ⟨g', cap', h4⟩
end
end Go.Proofs.YtnkbfdbbcaffmaaGreatDoor
/-
  The document's line.
-/
namespace Go.Proofs.YtnkbfdbbcaffmaaGreatDoor
open Go.RowKit

/-- append onto a row of the call's own, as one step of a region that draws; where the row lies then. -/
theorem step_append_at {P : Program} {ops : Array Oper} {o : Oper} {a : Act} {w : World} {K : Act → World → Prop} {Q : Exit → Act → World → Prop} {E : Prop}
    (hg : o.guard = none) (s x : Operand) (t : TypeId) (hop : o.op = Op.call { callee := Callee.builtin Builtin.append, args := #[s, x], argTypes := #[t, t] })
    (e : TypeId) (i : TypeInfo) (z : Value) (size bytes : Nat) (h1 : P.underlying t = some (.slice e)) (h2 : P.info? e = some i) (h3 : i.zero = some z) (h4 : i.size = size) (h5 : i.bytes = bytes) (h6 : z.cells.size = size) (h7 : 0 < size)
    (base : Nat) (v : Value) (n : Nat) (xs : List Value) (hs : a.eval s = v) (hown : w.ownsRow base e size v n xs)
    (ad : Addr) (m c : Nat) (news : List Value) (hx : a.eval x = .slice (some ad) m c) (hn : news.length = m * size) (hc : ∀ j u, news[j]? = some u → w.cell? (ad.add j) = some u) (h1c : ∀ u ∈ news, u.oneCell' = true)
    (b1 : n + m ≤ maxLen) (b2 : (n + m) * bytes ≤ 140737488355328) (hb : base ≤ w.heap.size)
    (hK : ∀ v' w', w'.ownsRow base e size v' (n + m) (xs ++ news) → w.grownBy w' v.ownBlock → (v'.ownBlock = v.ownBlock ∨ v'.ownBlock = some w.heap.size) → K (a.put o.dst v') w') :
    if Region.wanted o (yielded ops a.tmps) = true then Oper.wp P o a w K Q else E := by
  have hw : Region.wanted o (yielded ops a.tmps) = true := by simp [Region.wanted, hg]
  rw [if_pos hw]
  obtain ⟨v', w', hrun, r1, r2, _, r4⟩ := run_append_own_at (P := P) w base t o.type e i z size bytes h1 h2 h3 h4 h5 h6 h7 v n xs hown ad m c news hn hc h1c b1 b2 hb
  unfold Oper.wp
  simp [execOp, hop, resolve, invoke, builtin, hs, hx, hrun, Result.andThen]
  exact hK v' w' r1 r2 r4

section
variable {w : World} {b : Nat} {N : Int} {n m : Nat} {st : Int} {ks : KX} {view : Int} {tag steps : Int} {t : ByteArray} {σ sn : List Int}

set_option maxHeartbeats 1000000 in
theorem line_fuel (h : PlS w b N n m st ks view σ sn tag steps t) (ao : Option Addr) (L cap : Nat) :
    Calls Tryz.prog 92 #[.pointer (some ⟨b, 0, none⟩), .slice ao L cap, .int .i64 steps] w fun e w' => e = .returned (.tuple #[]) ∧ PlS w' b N n m st ks view σ sn 3 steps t ∧ Below b w w' := by
  obtain ⟨m0, m1, m2, m3, m4, m5, m6, m7, mf, _, _⟩ := h.thirteen
  go_enter Tryz.func92, Tryz.ntmps92
  go_wp2_with fail
  refine bodyPost_ret (results_none rfl _ _ _) rfl ?_
  exact ⟨rfl, h.setTag 3, (Below.refl b w).setCell (p := ⟨b, 8, none⟩) (Nat.le_refl b) _⟩

set_option maxHeartbeats 2000000 in
set_option maxRecDepth 100000 in
theorem line_plain {Q : World → Prop} (h : PlS w b N n m st ks view σ sn tag steps t) (fuel : Int) (hs0 : 0 ≤ steps) (hs1 : steps < fuel) (hf : fuel ≤ 10000) (i : Nat) (hat : ks.at_ = i) (ao : Option Addr) (cap : Nat) (hlv : ks.lv = .slice ao ks.ls.length cap) (l : ByteArray) (hl : ks.ls[i]? = some l) (hpl : ks.ps.length ≤ 10000) (hil : ks.ls.length ≤ 1000)
    (h0 : 0 < l.size) (k : Int) (hk : (l[0].toNat : Int) = k) (k1 : (k == 122) = false) (k2 : (k == 106) = false) (k3 : (k == 104) = false)
    (hcall : ∀ w0 v', PlS w0 b N n m st { ks with at_ := (i : Int) + 1, pv := v', ps := ks.ps ++ [(i : Int)] } view σ sn tag (steps + 1) t → Calls Tryz.prog 91 #[.pointer (some ⟨b, 0, none⟩), .string l] w0 fun e w' => e = .returned (.tuple #[]) ∧ Q w' ∧ Below b w0 w') :
    Calls Tryz.prog 92 #[.pointer (some ⟨b, 0, none⟩), .slice ao ks.ls.length cap, .int .i64 fuel] w fun e w' => e = .returned (.tuple #[]) ∧ Q w' ∧ Below b w w' := by
  have hne : (steps == fuel) = false := by simp; omega
  obtain ⟨m0, m1, m2, m3, m4, m5, m6, m7, mf, m8, m9⟩ := h.thirteen
  obtain ⟨m10, m11⟩ := h.two
  have h1S := h.setSteps (steps + 1)
  obtain ⟨pa, pc, hpv⟩ : ∃ pa pc, ks.pv = .slice pa ks.ps.length pc := by
    rcases h.path.2 with ⟨h', h0⟩ | ⟨g, cap, cur, h', hb, _⟩
    · exact ⟨none, 0, by rw [h', h0]⟩
    · exact ⟨_, cap, h'⟩
  have hPost := fun v' w' o => pls_path (w' := w') (v' := v') h1S (i : Int) o
  rw [hpv] at hPost m11
  rw [hat] at m10
  have hrow := h1S.path
  rw [hpv] at hrow
  have HPost := hide hPost
  have Hrow := hide hrow
  have Hcall := hide hcall
  have hbl : b < w.heap.size := by obtain ⟨stv, snv, hP, _⟩ := h; exact At.lt hP
  obtain ⟨i0, hi0, hz0, hz1, hz2⟩ := info_parts Tryz.infoInt
  clear hPost hrow hcall
  go_enter Tryz.func92, Tryz.ntmps92
  go_wp2_with fail
  have hBs : Below b w (w.setCell ⟨b, 9, none⟩ (.int .i64 (steps + 1))) := (Below.refl b w).setCell (p := ⟨b, 9, none⟩) (Nat.le_refl b) _
  have hbl1 : b < (w.setCell ⟨b, 9, none⟩ (.int .i64 (steps + 1))).heap.size := by simp [World.setCell]; exact hbl
  generalize w.setCell ⟨b, 9, none⟩ (.int .i64 (steps + 1)) = w1 at *
  clear m0 m1 m2 m3 m4 m5 m6 m7 mf m8 m9 m10 m11
  obtain ⟨m0, m1, m2, m3, m4, m5, m6, m7, mf, m8, m9⟩ := h1S.thirteen
  obtain ⟨m10, m11⟩ := h1S.two
  rw [hat] at m10
  rw [hpv] at m11
  go_region_law (refine step_append_at rfl (.tmp 28) (.tmp 33) 29 rfl 3 i0 (.int .i64 0) 1 8 Tryz.underlying29 hi0 hz0 hz1 hz2 rfl (by decide) (b + 1) (.slice pa ks.ps.length pc) ks.ps.length (intsL ks.ps) (by simp [Act.eval]) (by exact World.ownsRow.alloc (unhide Hrow) _) ⟨w1.heap.size, 0, none⟩ 1 1 [.int .i64 i] (by simp [Act.eval]) rfl (by exact cell_one_drew _ _ _) (by simp [Value.oneCell']) (by unfold maxLen; omega) (by omega) (by simp; omega) ?_; intro v' w' r1 r2 r4; obtain ⟨hP2, c11, c12, cf, hB2, g', cap', rfl⟩ := unhide HPost _ _ _ r1 r2 r4; rw [hat] at c11)
  all_goals
    have hB3 := (hBs.trans hB2).setCell (p := ⟨b, 12, none⟩) (Nat.le_refl b) (.slice (some ⟨g', 0, none⟩) (ks.ps.length + 1) cap')
    clear m0 m1 m2 m3 m4 m5 m6 m7 mf m8 m9 m10 m11 c11 c12 cf r1 r2 r4
    generalize w'.setCell ⟨b, 12, none⟩ (.slice (some ⟨g', 0, none⟩) (ks.ps.length + 1) cap') = w2 at *
    obtain ⟨m0, m1, m2, m3, m4, m5, m6, m7, mf, m8, m9⟩ := hP2.thirteen
    obtain ⟨m10, m11⟩ := hP2.two
    dsimp only at m10 m11
    rw [hat] at m10
    have hLs := hP2.lines
    dsimp only at hLs
    rw [hlv] at hLs
    obtain ⟨g, rfl, _, y0⟩ := hLs.at_ hl
    have hP4 := hP2.setAt ((i : Int) + 1)
    dsimp only at hP4
    have hB4 := hB3.setCell (p := ⟨b, 11, none⟩) (Nat.le_refl b) (.int .i64 ((i : Int) + 1))
    have HP4 := hide hP4
    have HB4 := hide hB4
    have HP2 := hide hP2
    have hilt : i < ks.ls.length := (List.getElem?_eq_some_iff.1 hl).1
    have Hat := hide hat
    have Hpv := hide hpv
    have Hlv := hide hlv
    have Hl := hide hl
    clear hP4 hB4 hP2 hLs hat hpv hlv hl m11
    generalize ks.ls.length = NL at *
    go_wp2_with fail
    refine (unhide Hcall _ _ (unhide HP4)).mono ?_
    rintro e w5 ⟨rfl, hQ, hB5⟩
    go_wp2_with fail
    go_end0
    exact ⟨rfl, hQ, (unhide HB4).trans hB5⟩
end
end Go.Proofs.YtnkbfdbbcaffmaaGreatDoor
