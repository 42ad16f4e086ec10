import Derived.Test.YtnkbfdbbcaffmaaGreatDoorX25Pl6
import Derived.Test.YtnkbfdbbcaffmaaGreatDoorX20Lie
import Derived.Deep.RegionHeld3
import Derived.BigRegion
/-
  One step of the document's run is one of the command's.
-/
namespace Go.Proofs.YtnkbfdbbcaffmaaGreatDoor
open Go.RowKit

section
variable {w w' : World} {b : Nat} {W : Nat} {n m : Nat} {st : Int} {ks : KX} {view : Int} {steps : Int} {t : ByteArray} {σ sn : List Int}

/-- What a step leaves. -/
def After (w : World) (b : Nat) (W n m : Nat) (st : Int) (ks : KX) (view : Int) (a : List Int × List Int × Bool × Int) (sn : List Int) (steps : Int) (κ : Int → List UInt8) (w' : World) : Prop :=
  (∃ t', t'.data.toList = κ a.2.2.2 ∧ PlS w' b (pw W) n m st ks view a.1 (sn ++ a.2.1) (if a.2.2.1 = true then 2 else 0) steps t') ∧ Below b w w'

theorem source_does {c : Cm} {κ : Int → List UInt8} {tx ty tn : List UInt8} (hD : Does (pw W) n c tx ty tn) (htx : t.data.toList = tx) (hty : ty = κ c.yes) (htn : tn = κ c.no) (hc : CmOK (pw W) n c)
    (h : PlS w b (pw W) n m st ks view σ sn 0 steps t) (hW : W ≤ 8) (hfit : Fits (pw W) σ) (hnm : n + m = σ.length) (hlen : σ.length ≤ 100) (hsl : sn.length ≤ 90000) (hv0 : 0 ≤ view) (hv1 : view ≤ 8)
    (fuel : Int) (hs0 : 0 ≤ steps) (hs1 : steps < fuel) (hf : fuel ≤ 10000) (hmx : t.size ≤ 1000000) :
    Calls Tryz.prog 58 #[.pointer (some ⟨b, 0, none⟩), .int .i64 fuel] w fun e w' => e = .returned (.tuple #[]) ∧ After w b W n m st ks view (act (pw W) view n m σ c) sn (steps + 1) κ w' := by
  have hn : n ≤ σ.length := by omega
  have hV := (pw_bd W hW).1
  have hV2 := (pw_bd W hW).2
  have bx := vl_bd hfit hc.x hn
  obtain ⟨xx, hxx⟩ : ∃ xx : Nat, vl σ c.xn c.xv.toNat = (xx : Int) := ⟨(vl σ c.xn c.xv.toNat).toNat, by omega⟩
  have hsz := size_list t
  rcases hD with ⟨v, x, o, y, r, rfl, rfl, hk, hv, hx, ho, hy⟩ | ⟨v, x, r, rfl, rfl, hk, hv, hx⟩ | ⟨x, y, r, rfl, rfl, hk, hx, hy⟩ | ⟨x, A, B, r, rfl, rfl, rfl, hk, hx, hA, hB⟩ | ⟨x, A, r, rfl, rfl, rfl, hk, hx, hA⟩
  · have hop := hc.op hk
    have by' := vl_bd hfit (hc.y (.inl hk)) hn
    obtain ⟨yy, hyy⟩ : ∃ yy : Nat, vl σ c.yn c.yv.toNat = (yy : Int) := ⟨(vl σ c.yn c.yv.toNat).toNat, by omega⟩
    have hvar := hc.var (.inl hk)
    have hv0' := hc.v0
    rw [htx] at hsz
    simp only [List.length_cons] at hsz
    have h0 : 0 < t.size := by omega
    have hle := ext_data t 0 5
    rw [htx] at hle
    have hls : (t.extract 0 5).size = 5 := by rw [size_list, hle]; simp
    have hlr : (t.extract 5 t.size).data.toList = ty := by rw [ext_list, htx]; rfl
    have k1 : ((t.extract 0 5)[1]'(by omega)) = v := byte_eq _ (by rw [hle]; rfl)
    have k2 : ((t.extract 0 5)[2]'(by omega)) = x := byte_eq _ (by rw [hle]; rfl)
    have k3 : ((t.extract 0 5)[3]'(by omega)) = o := byte_eq _ (by rw [hle]; rfl)
    have k4 : ((t.extract 0 5)[4]'(by omega)) = y := byte_eq _ (by rw [hle]; rfl)
    have k0 : ((t.extract 0 5)[0]'(by omega)) = 61 := byte_eq _ (by rw [hle]; rfl)
    refine (source_plain (Q := fun w' => ∃ t', t'.data.toList = κ (act (pw W) view n m σ c).2.2.2 ∧ PlS w' b (pw W) n m st ks view (act (pw W) view n m σ c).1 (sn ++ (act (pw W) view n m σ c).2.1) (if (act (pw W) view n m σ c).2.2.1 = true then 2 else 0) (steps + 1) t') h fuel hs0 hs1 hf h0 61 (by rw [byte_eq h0 (c := 61) (by rw [htx]; rfl)]; rfl) rfl rfl 5 rfl (by omega) ?_).mono ?_
    · intro w0 hP0
      refine Calls.mono (plain_set (Q := fun w' => (∃ t', t'.data.toList = κ (act (pw W) view n m σ c).2.2.2 ∧ PlS w' b (pw W) n m st ks view (act (pw W) view n m σ c).1 (sn ++ (act (pw W) view n m σ c).2.1) (if (act (pw W) view n m σ c).2.2.1 = true then 2 else 0) (steps + 1) t') ∧ Below b w0 w') (t.extract 0 5) (by omega) (by rw [k0]; rfl) ?_) (fun e w' h => h)
      have hact : act (pw W) view n m σ c = ((actSet (pw W) view σ c.var.toNat c.xn c.xv.toNat c.op c.yn c.yv.toNat).1, (actSet (pw W) view σ c.var.toNat c.xn c.xv.toNat c.op c.yn c.yv.toNat).2.1, (actSet (pw W) view σ c.var.toNat c.xn c.xv.toNat c.op c.yn c.yv.toNat).2.2, c.yes) := by unfold act; rw [if_pos hk]
      rw [hact]
      unfold actSet
      rw [hxx, hyy]
      have e97 : (((t.extract 0 5)[1]'(by omega)).toNat : Int) = 97 + (c.var.toNat : Nat) := by rw [k1, hv]; omega
      have a1 := hx.low
      have a2 := hx.high hn
      have a3 := hx.val hV σ
      have a4 := hy.low
      have a5 := hy.high hn
      have a6 := hy.val hV σ
      rw [← k2] at a1 a2 a3
      rw [← k4] at a4 a5 a6
      rw [hxx] at a3 bx
      rw [hyy] at a6 by'
      rw [← k3] at ho
      cases hd : isDiv c.op with
      | false =>
        rw [if_neg (by simp)]
        refine (rset_plain hP0 hW (t.extract 0 5) (by omega) (by omega) (by omega) (by omega) c.var.toNat xx yy c.op e97 (by omega) a1 a4 a2 a5 a3 a6 bx.2 by'.2 ho hop hd).mono ?_
        rintro e w' ⟨rfl, hP, hB⟩
        exact ⟨rfl, ⟨_, hlr.trans hty, by simpa using hP⟩, hB⟩
      | true =>
        rw [if_pos rfl]
        by_cases hz : yy = 0
        · rw [if_pos (by omega)]
          refine (rset_trap hP0 hW (t.extract 0 5) (by omega) (by omega) (by omega) xx yy c.op a1 a4 a2 a5 a3 a6 bx.2 by'.2 ho hd hz hsl).mono ?_
          rintro e w' ⟨rfl, hP, hB⟩
          exact ⟨rfl, ⟨_, hlr.trans hty, by simpa using hP⟩, hB⟩
        · rw [if_neg (by omega)]
          refine (rset_div hP0 hW (t.extract 0 5) (by omega) (by omega) (by omega) (by omega) c.var.toNat xx yy c.op e97 (by omega) a1 a4 a2 a5 a3 a6 bx.2 by'.2 ho hop hd hz hsl).mono ?_
          rintro e w' ⟨rfl, hP, hB⟩
          exact ⟨rfl, ⟨_, hlr.trans hty, by simpa using hP⟩, hB⟩
    · rintro e w' ⟨rfl, hQ, hB⟩
      exact ⟨rfl, hQ, hB⟩
  · have hvar := hc.var (.inr hk)
    have hv0' := hc.v0
    rw [htx] at hsz
    simp only [List.length_cons] at hsz
    have h0 : 0 < t.size := by omega
    have hle := ext_data t 0 3
    rw [htx] at hle
    have hls : (t.extract 0 3).size = 3 := by rw [size_list, hle]; simp
    have hlr : (t.extract 3 t.size).data.toList = ty := by rw [ext_list, htx]; rfl
    have k1 : ((t.extract 0 3)[1]'(by omega)) = v := byte_eq _ (by rw [hle]; rfl)
    have k2 : ((t.extract 0 3)[2]'(by omega)) = x := byte_eq _ (by rw [hle]; rfl)
    have k0 : ((t.extract 0 3)[0]'(by omega)) = 108 := byte_eq _ (by rw [hle]; rfl)
    refine (source_plain (Q := fun w' => ∃ t', t'.data.toList = κ (act (pw W) view n m σ c).2.2.2 ∧ PlS w' b (pw W) n m st ks view (act (pw W) view n m σ c).1 (sn ++ (act (pw W) view n m σ c).2.1) (if (act (pw W) view n m σ c).2.2.1 = true then 2 else 0) (steps + 1) t') h fuel hs0 hs1 hf h0 108 (by rw [byte_eq h0 (c := 108) (by rw [htx]; rfl)]; rfl) rfl rfl 3 rfl (by omega) ?_).mono ?_
    · intro w0 hP0
      have e97 : (((t.extract 0 3)[1]'(by omega)).toNat : Int) = 97 + (c.var.toNat : Nat) := by rw [k1, hv]; omega
      have a1 := hx.low
      have a2 := hx.high hn
      have a3 := hx.val hV σ
      rw [← k2] at a1 a2 a3
      rw [hxx] at a3 bx
      refine (plain_load hP0 hW (t.extract 0 3) (by omega) (by omega) (by omega) (by rw [k0]; rfl) c.var.toNat xx e97 hvar a1 a2 a3 bx.2 hsl hv0 hv1 hnm hlen).mono ?_
      rintro e w' ⟨rfl, hP, hB⟩
      refine ⟨rfl, ⟨t.extract 3 t.size, ?_, ?_⟩, hB⟩
      · have hact : (act (pw W) view n m σ c).2.2.2 = c.yes := by
          unfold act; rw [if_neg (by omega), if_pos hk]; split <;> rfl
        rw [hact]; exact hlr.trans hty
      · unfold act
        rw [if_neg (by omega), if_pos hk, hxx]
        by_cases hm : (m : Int) ≤ xx
        · simp only [if_pos hm] at hP ⊢; exact hP
        · simp only [if_neg hm] at hP ⊢; simpa using hP
    · rintro e w' ⟨rfl, hQ, hB⟩
      exact ⟨rfl, hQ, hB⟩
  · have by' := vl_bd hfit (hc.y (.inr hk)) hn
    obtain ⟨yy, hyy⟩ : ∃ yy : Nat, vl σ c.yn c.yv.toNat = (yy : Int) := ⟨(vl σ c.yn c.yv.toNat).toNat, by omega⟩
    rw [htx] at hsz
    simp only [List.length_cons] at hsz
    have h0 : 0 < t.size := by omega
    have hle := ext_data t 0 3
    rw [htx] at hle
    have hls : (t.extract 0 3).size = 3 := by rw [size_list, hle]; simp
    have hlr : (t.extract 3 t.size).data.toList = ty := by rw [ext_list, htx]; rfl
    have k1 : ((t.extract 0 3)[1]'(by omega)) = x := byte_eq _ (by rw [hle]; rfl)
    have k2 : ((t.extract 0 3)[2]'(by omega)) = y := byte_eq _ (by rw [hle]; rfl)
    have k0 : ((t.extract 0 3)[0]'(by omega)) = 115 := byte_eq _ (by rw [hle]; rfl)
    refine (source_plain (Q := fun w' => ∃ t', t'.data.toList = κ (act (pw W) view n m σ c).2.2.2 ∧ PlS w' b (pw W) n m st ks view (act (pw W) view n m σ c).1 (sn ++ (act (pw W) view n m σ c).2.1) (if (act (pw W) view n m σ c).2.2.1 = true then 2 else 0) (steps + 1) t') h fuel hs0 hs1 hf h0 115 (by rw [byte_eq h0 (c := 115) (by rw [htx]; rfl)]; rfl) rfl rfl 3 rfl (by omega) ?_).mono ?_
    · intro w0 hP0
      have a1 := hx.low
      have a2 := hx.high hn
      have a3 := hx.val hV σ
      have a4 := hy.low
      have a5 := hy.high hn
      have a6 := hy.val hV σ
      rw [← k1] at a1 a2 a3
      rw [← k2] at a4 a5 a6
      rw [hxx] at a3 bx
      rw [hyy] at a6
      refine (plain_store hP0 hW (t.extract 0 3) (by omega) (by omega) (by omega) (by rw [k0]; rfl) xx yy a1 a2 a4 a5 a3 bx.2 a6 hsl hv0 hv1 hnm hlen).mono ?_
      rintro e w' ⟨rfl, hP, hB⟩
      refine ⟨rfl, ⟨t.extract 3 t.size, ?_, ?_⟩, hB⟩
      · have hact : (act (pw W) view n m σ c).2.2.2 = c.yes := by
          unfold act; rw [if_neg (by omega), if_neg (by omega), if_pos hk]; split <;> rfl
        rw [hact]; exact hlr.trans hty
      · unfold act
        rw [if_neg (by omega), if_neg (by omega), if_pos hk, hxx, hyy]
        by_cases hm : (m : Int) ≤ xx
        · simp only [if_pos hm] at hP ⊢; exact hP
        · simp only [if_neg hm] at hP ⊢; simpa using hP
    · rintro e w' ⟨rfl, hQ, hB⟩
      exact ⟨rfl, hQ, hB⟩
  · have a3 := hx.val hV σ
    refine (source_branch h fuel hs0 hs1 hf hmx hsl x A B r htx hA hB hx.low (hx.high hn) hV hV2).mono ?_
    rintro e w' ⟨rfl, ⟨t', ht', hP⟩, hB'⟩
    have hact : act (pw W) view n m σ c = (σ, [if vl σ c.xn c.xv.toNat = 0 then 102 else 116], false, if vl σ c.xn c.xv.toNat = 0 then c.no else c.yes) := by
      unfold act; rw [if_neg (by omega), if_neg (by omega), if_neg (by omega), if_neg (by omega)]
    rw [a3] at ht' hP
    refine ⟨rfl, ⟨t', ?_, ?_⟩, hB'⟩
    · rw [hact, ht']
      by_cases hz : vl σ c.xn c.xv.toNat = 0
      · simp only [if_pos hz]; exact htn
      · simp only [if_neg hz]; exact hty
    · rw [hact]; simpa using hP
  · have a3 := hx.val hV σ
    refine (source_loop h fuel hs0 hs1 hf hmx hsl x A tn htx hA hx.low (hx.high hn) hV hV2).mono ?_
    rintro e w' ⟨rfl, ⟨t', ht', hP⟩, hB'⟩
    have hact : act (pw W) view n m σ c = (σ, [if vl σ c.xn c.xv.toNat = 0 then 102 else 116], false, if vl σ c.xn c.xv.toNat = 0 then c.no else c.yes) := by
      unfold act; rw [if_neg (by omega), if_neg (by omega), if_neg (by omega), if_neg (by omega)]
    rw [a3] at ht' hP
    refine ⟨rfl, ⟨t', ?_, ?_⟩, hB'⟩
    · rw [hact, ht']
      by_cases hz : vl σ c.xn c.xv.toNat = 0
      · simp only [if_pos hz]; exact htn
      · simp only [if_neg hz]; exact hty
    · rw [hact]; simpa using hP
end
end Go.Proofs.YtnkbfdbbcaffmaaGreatDoor
/-
  begin.
-/
namespace Go.Proofs.YtnkbfdbbcaffmaaGreatDoor
open Go.RowKit

theorem cell_one_drew (w : World) (t : TypeId) (v : Value) : ∀ j u, [v][j]? = some u → (w.alloc (.cells #[v] t)).drew.cell? ((⟨w.heap.size, 0, none⟩ : Addr).add j) = some u := by
  intro j u hj
  have h := At.cell (At.new w t #[v]) j
  rw [Addr.add_lit, Nat.zero_add]
  show World.cell? _ _ = _
  rw [World.cell?_drew, h]
  simpa using hj

theorem begin_post {w w' : World} {b : Nat} {N : Int} {n m : Nat} {st : Int} {ks : KX} {view : Int} {so : Option Addr} {cap : Nat} {snv : Value} {tag steps : Int} {todo : ByteArray} {σ : List Int} {v' : Value}
    (hP : Pl w b N n m st ks view (.slice so σ.length cap) snv tag steps todo) (hT : Sr w b (.slice so σ.length cap) σ) (z : Int) (o : Obj)
    (h1 : w'.ownsRow (b + 1) 3 1 v' (σ.length + 1) (intsL σ ++ [.int .i64 z])) (h2 : (w.alloc o).drew.grownBy w' (Value.slice so σ.length cap).ownBlock) :
    Pl w' b N n m st ks view (.slice so σ.length cap) snv tag steps todo ∧ Sr w' b v' (σ ++ [z]) ∧ Below b w w' ∧ ∃ g' cap', v' = .slice (some ⟨g', 0, none⟩) (σ.length + 1) cap' := by
  have hb := At.lt hP
  have hown : ∀ k, (Value.slice so σ.length cap).ownBlock = some k → b + 1 ≤ k ∧ k < w.heap.size := World.ownsRow.lt hT
  refine ⟨(At.drew (At.alloc hP o)).grown h2 (fun e => by have := hown b e.symm; omega), ?_, ?_, ?_⟩
  · unfold Sr
    rw [List.length_append]
    have e : intsL (σ ++ [z]) = intsL σ ++ [.int .i64 z] := by simp [intsL]
    rw [e]; exact h1
  · refine (((Below.refl b w).alloc (by omega) o).drew).trans ?_
    exact ⟨h2.os, h2.tape, h2.output, h2.size, fun k hk => h2.block k (by simp; omega) (fun e => by have := hown k e.symm; omega)⟩
  · rcases h1.2 with ⟨_, h3⟩ | ⟨g', cap', cur, h4, _⟩
    · omega
    · exact ⟨g', cap', h4⟩

theorem Sr.shape {w : World} {b : Nat} {stv : Value} {σ : List Int} (h : Sr w b stv σ) : ∃ so cap, stv = .slice so σ.length cap := by
  rcases h.2 with ⟨h', h0⟩ | ⟨g, cap, cur, h', hb, _⟩
  · exact ⟨none, 0, by rw [h', h0]⟩
  · exact ⟨_, cap, h'⟩
theorem sr_nil (w : World) (b : Nat) : Sr w b (.slice none 0 0) [] := World.ownsRow_nil _ _ _ _
theorem Pl.setState {w : World} {b : Nat} {N : Int} {n m : Nat} {st : Int} {ks : KX} {view : Int} {stv snv : Value} {tag steps : Int} {todo : ByteArray} (h : Pl w b N n m st ks view stv snv tag steps todo) (v : Value) : Pl (w.setCell ⟨b, 6, none⟩ v) b N n m st ks view v snv tag steps todo := by
  have := At.set h 6 v; simpa [Pl] using this

set_option maxRecDepth 20000 in
set_option maxHeartbeats 2000000 in
theorem begin_any (s : ByteArray) (hs : s.size ≤ 1000) (h : (hdr s).2.1 = false) (view : Int) (ao : Option Addr) (cin : Nat) (zs : List Int) (hl : zs.length ≤ 100) (w : World) (hL : LiesO w ao zs) :
    Calls Tryz.prog 57 #[.string s, .int .i64 view, .slice ao zs.length cin] w fun e w' => ∃ b ks, e = .returned (.pointer (some ⟨b, 0, none⟩)) ∧ w.heap.size ≤ b ∧ PlS w' b (pw (hdr s).2.2.1) (hdr s).2.2.2.1 (hdr s).2.2.2.2 (hdr s).1 ⟨ks, 0, .slice none 0 0, [], .slice none 0 0, []⟩ view zs [] 0 0 ⟨#[]⟩ ∧ Below w.heap.size w w' := by
  have HR := hide (fun w0 => read_any s hs h w0)
  have hn := hdr_vars s
  have hm := hdr_words s
  generalize (hdr s).2.2.1 = W at *
  generalize (hdr s).2.2.2.1 = n at *
  generalize (hdr s).2.2.2.2 = m at *
  generalize (hdr s).1 = st at *
  generalize hV : pw W = V at *
  clear hV h
  go_enter Tryz.func57, Tryz.ntmps57
  go_wp2_with fail
  refine (unhide HR _).mono ?_
  rintro e w1 ⟨ks, rfl, hg1⟩
  have hA := At.new w 90 #[.int .i64 0, .int .i64 0, .int .i64 0, .int .i64 0, .string ⟨#[]⟩, .int .i64 view, .slice none 0 0, .slice none 0 0, .int .i64 0, .int .i64 0, .string ⟨#[]⟩, .int .i64 0, .slice none 0 0]
  have hA1 := hA.grown hg1 (by simp)
  have cf := fun j => hA1.frozen j
  have c0 := hA1.cell 0
  have c1 := hA1.cell 1
  have c2 := hA1.cell 2
  have c3 := hA1.cell 3
  have c4 := hA1.cell 4
  simp at c0 c1 c2 c3 c4
  go_wp2_with fail
  have hP0 : Pl (((((w1.setCell ⟨w.heap.size, 0, none⟩ (.int .i64 V)).setCell ⟨w.heap.size, 1, none⟩ (.int .i64 n)).setCell ⟨w.heap.size, 2, none⟩ (.int .i64 m)).setCell ⟨w.heap.size, 3, none⟩ (.int .i64 st)).setCell ⟨w.heap.size, 4, none⟩ (.string ks)) w.heap.size V n m st ⟨ks, 0, .slice none 0 0, [], .slice none 0 0, []⟩ view (.slice none 0 0) (.slice none 0 0) 0 0 ⟨#[]⟩ := by
    have := ((((hA1.set 0 (.int .i64 V)).set 1 (.int .i64 n)).set 2 (.int .i64 m)).set 3 (.int .i64 st)).set 4 (.string ks)
    simpa [Pl] using this
  have hB0 : Below w.heap.size w (((((w1.setCell ⟨w.heap.size, 0, none⟩ (.int .i64 V)).setCell ⟨w.heap.size, 1, none⟩ (.int .i64 n)).setCell ⟨w.heap.size, 2, none⟩ (.int .i64 m)).setCell ⟨w.heap.size, 3, none⟩ (.int .i64 st)).setCell ⟨w.heap.size, 4, none⟩ (.string ks)) := by
    have h1 := ((Below.refl w.heap.size w).alloc (Nat.le_refl _) (.cells #[.int .i64 0, .int .i64 0, .int .i64 0, .int .i64 0, .string ⟨#[]⟩, .int .i64 view, .slice none 0 0, .slice none 0 0, .int .i64 0, .int .i64 0, .string ⟨#[]⟩, .int .i64 0, .slice none 0 0] 90)).trans ⟨hg1.os, hg1.tape, hg1.output, hg1.size, fun k hk => hg1.block k (by simp; omega) (by simp)⟩
    exact ((((h1.setCell (Nat.le_refl _) _).setCell (Nat.le_refl _) _).setCell (Nat.le_refl _) _).setCell (Nat.le_refl _) _).setCell (Nat.le_refl _) _
  clear c0 c1 c2 c3 c4 cf hA1 hA hg1
  obtain ⟨i0, hi0, hz0, hz1, hz2⟩ := info_parts Tryz.infoInt
  go_loopw [8] (fun i wr => ∃ (k : Nat) (stv : Value), i = .int .i64 k ∧ k ≤ zs.length ∧ Pl wr w.heap.size V n m st ⟨ks, 0, .slice none 0 0, [], .slice none 0 0, []⟩ view stv (.slice none 0 0) 0 0 ⟨#[]⟩ ∧ Sr wr w.heap.size stv (zs.take k) ∧ Below w.heap.size w wr) (fun i _ => zs.length - (intOf i).toNat)
  case atStart => exact ⟨0, _, rfl, Nat.zero_le _, hP0, sr_nil _ _, hB0⟩
  case round =>
    clear hP0 hB0
    obtain ⟨k, stv, rfl, hk, hP, hT, hB⟩ := hrel
    by_cases hlt : k < zs.length
    · rcases hL with hnil | ⟨ab, off, rfl, hLL, hab⟩
      · rw [hnil] at hlt; simp at hlt
      have hc := hLL.at_ k hlt
      rw [← hB.cell (p := ⟨ab, off + k, none⟩) hab] at hc
      have htk : zs.take (k + 1) = zs.take k ++ [zs.getD k 0] := by
        rw [List.take_succ_eq_append_getElem hlt]; simp [List.getD, hlt]
      have hlen : (zs.take k).length = k := by simp; omega
      have Htk := hide htk
      clear htk hLL
      generalize zs.take k = τ at *
      generalize zs.getD k 0 = z at *
      obtain ⟨so, cap, rfl⟩ := hT.shape
      subst hlen
      obtain ⟨m0, m1, m2, m3, m4, m5, m6, m7, m8, m9, mf⟩ := hP.thirteen
      have hlI : (τ.length : Int) < (zs.length : Int) := by omega
      have hw2 : ab ≠ w.heap.size := by omega
      have hbl : w.heap.size < wr.heap.size := At.lt hP
      have hPost := fun v' w' => begin_post (w' := w') (v' := v') hP hT z (.cells #[.int .i64 z] 3)
      have HPost := hide hPost
      clear hPost
      go_wp2_with fail
      go_region_law (refine step_append_mine rfl (.tmp 27) (.tmp 32) 29 rfl 3 i0 (.int .i64 0) 1 8 Tryz.underlying29 hi0 hz0 hz1 hz2 rfl (by decide) (w.heap.size + 1) (.slice so τ.length cap) τ.length (intsL τ) (by simp [Act.eval]) (by exact World.ownsRow.alloc hT _) ⟨wr.heap.size, 0, none⟩ 1 1 [.int .i64 z] (by simp [Act.eval]) rfl (by exact cell_one_drew _ _ _) (by simp [Value.oneCell']) (by unfold maxLen; omega) (by omega) (by simp; omega) ?_; intro v' w' h1 h2; obtain ⟨hP', hT', hB', g', cap', rfl⟩ := unhide HPost _ _ h1 h2; have hc' := hc; rw [← hB'.cell (p := ⟨ab, off + τ.length, none⟩) (by show ab < w.heap.size; exact hab)] at hc'; obtain ⟨q0, q1, q2, q3, q4, q5, q6, q7, q8, q9, qf⟩ := hP'.thirteen; have hB5 : Below w.heap.size wr (w'.setCell ⟨w.heap.size, 6, none⟩ (.slice (some ⟨g', 0, none⟩) (τ.length + 1) cap')) := hB'.setCell (Nat.le_refl _) _; have hc5 := hc; rw [← hB5.cell (p := ⟨ab, off + τ.length, none⟩) (by show ab < w.heap.size; exact hab)] at hc5)
      all_goals
        go_wp2_with fail
        go_roundw
        case rel => exact ⟨τ.length + 1, _, by go_num, by omega, hP'.setState _, by rw [unhide Htk]; exact hT'.set _ (Nat.le_refl _), (hB.trans hB').setCell (Nat.le_refl _) _⟩
        case measure => simp [intOf]; omega
    · have e : k = zs.length := by omega
      subst e
      rw [List.take_length] at hT
      go_wp2_with fail
      go_ret
      exact ⟨_, ks, rfl, Nat.le_refl _, ⟨_, _, hP, hT, World.ownsRow_nil _ _ _ _, Px.nil _ _ _ _ _⟩, hB⟩
end Go.Proofs.YtnkbfdbbcaffmaaGreatDoor
