import Derived.Test.YtnkbfdbbcaffmabX24LwA
import Derived.Test.YtnkbfdbbcaffmabX26LnS
import Derived.Test.YtnkbfdbbcaffmabX11Kern
import Derived.Lib.AppendStr
/-
  linesOf, jumps, lower.Code.
-/
namespace Go.Proofs.Ytnkbfdbbcaffmab
open Go.RowKit

/-- Must a jump stand behind the line of the command with this number? -/
def jmp (c : Cm) (i : Nat) : Bool := c.yes != ((i : Int) + 1)

/-- The numbers of the lines that the commands become, then of the last line. -/
def lno : List Cm → Nat → Nat → List Int
  | [], _, nx => [(nx : Int)]
  | c :: r, i, nx => (nx : Int) :: lno r (i + 1) (nx + (if jmp c i = true then 2 else 1))
def lnsO (cs : List Cm) : List Int := lno cs 0 0
theorem lno_len : ∀ (cs : List Cm) (i nx : Nat), (lno cs i nx).length = cs.length + 1
  | [], _, _ => rfl
  | c :: r, i, nx => by simp [lno, lno_len r]

set_option maxHeartbeats 1000000 in
theorem jumps_any (c : Cm) (i : Nat) (hi : i ≤ 100000) (w : World) :
    Calls Try.prog 38 #[.agg c.cells, .int .i64 i] w fun e w' => e = .returned (.bool (jmp c i)) ∧ ∃ o, w' = w.alloc o := by
  obtain ⟨ck, cvar, cxn, cxv, cop, cyn, cyv, cyes, cno, csec, cbeh⟩ := c
  unfold jmp
  dsimp only [Cm.cells] at *
  go_enter Try.func38, Try.ntmps38
  go_wp2_with fail
  go_ret
  exact ⟨rfl, _, rfl⟩

theorem own_nine {w : World} {kb : Nat} {ao : Option Addr} {cap : Nat} {cs : List Cm} (h : Own w kb (.slice ao cs.length cap) cs) {i : Nat} {c : Cm} (hc : cs[i]? = some c) :
    ∃ g, ao = some ⟨g, 0, none⟩ ∧ w.cell? ⟨g, i * 11, none⟩ = some (.int .u8 c.kind) ∧ w.cell? ⟨g, i * 11 + 1, none⟩ = some (.int .i64 c.var) ∧ w.cell? ⟨g, i * 11 + 2, none⟩ = some (.bool c.xn) ∧ w.cell? ⟨g, i * 11 + 3, none⟩ = some (.int .i64 c.xv) ∧ w.cell? ⟨g, i * 11 + 4, none⟩ = some (.int .u8 c.op) ∧
      w.cell? ⟨g, i * 11 + 5, none⟩ = some (.bool c.yn) ∧ w.cell? ⟨g, i * 11 + 6, none⟩ = some (.int .i64 c.yv) ∧ w.cell? ⟨g, i * 11 + 7, none⟩ = some (.int .i64 c.yes) ∧ w.cell? ⟨g, i * 11 + 8, none⟩ = some (.int .i64 c.no) ∧ w.cell? ⟨g, i * 11 + 9, none⟩ = some (.int .i64 c.sec) ∧ w.cell? ⟨g, i * 11 + 10, none⟩ = some (.int .i64 c.beh) := by
  obtain ⟨g, cap2, he, hg⟩ := h.form (by rintro rfl; simp at hc)
  simp at he
  obtain ⟨rfl, rfl⟩ := he
  have y0 := h.at_ hc 0 (by omega)
  have y1 := h.at_ hc 1 (by omega)
  have y2 := h.at_ hc 2 (by omega)
  have y3 := h.at_ hc 3 (by omega)
  have y4 := h.at_ hc 4 (by omega)
  have y5 := h.at_ hc 5 (by omega)
  have y6 := h.at_ hc 6 (by omega)
  have y7 := h.at_ hc 7 (by omega)
  have y8 := h.at_ hc 8 (by omega)
  have y9 := h.at_ hc 9 (by omega)
  have y10 := h.at_ hc 10 (by omega)
  simp [Cm.cells] at y0 y1 y2 y3 y4 y5 y6 y7 y8 y9 y10
  exact ⟨g, rfl, y0, y1, y2, y3, y4, y5, y6, y7, y8, y9, y10⟩

theorem row_shape {w : World} {b t n : Nat} {v : Value} {xs : List Value} (h : w.ownsRow b t 1 v n xs) : ∃ ao cap, v = .slice ao n cap := by
  rcases h.2 with ⟨h', h0⟩ | ⟨g, cap, cur, h', hb, _⟩
  · exact ⟨none, 0, by rw [h', h0]⟩
  · exact ⟨_, cap, h'⟩

set_option maxHeartbeats 2000000 in
theorem linesOf_any (w : World) (kb : Nat) (ao : Option Addr) (cap : Nat) (cs : List Cm) (hcl : cs.length ≤ 1000) (hO : Own w kb (.slice ao cs.length cap) cs) :
    Calls Try.prog 36 #[.slice ao cs.length cap] w fun e w' => ∃ g lc, e = .returned (.slice (some ⟨g, 0, none⟩) (lnsO cs).length lc) ∧ Lies w' ⟨g, 0, none⟩ (lnsO cs) ∧ w.heap.size ≤ g ∧ g < w'.heap.size ∧ Below w.heap.size w w' := by
  generalize hr : lnsO cs = r
  have Hr := hide hr
  clear hr
  have HO := hide hO
  clear hO
  obtain ⟨i0, hi0, hz0, hz1, hz2⟩ := info_parts Try.infoInt
  go_enter Try.func36, Try.ntmps36
  go_wp2_with fail
  go_loopw [3, 4, 5] (fun l nx i wr => ∃ (k x : Nat) (ps : List Int), i = .int .i64 k ∧ nx = .int .i64 x ∧ k ≤ cs.length ∧ x ≤ 2 * k ∧ ps.length = k ∧ Hid (wr.ownsRow w.heap.size 3 1 l ps.length (ps.map fun c => Value.int .i64 c)) ∧ Hid (ps ++ lno (cs.drop k) k x = r) ∧ Hid (Below w.heap.size w wr)) (fun _ _ i _ => cs.length - (intOf i).toNat)
  case atStart => exact ⟨0, 0, [], rfl, rfl, Nat.zero_le _, Nat.le_refl _, rfl, World.ownsRow_nil _ _ _ _, Hr, Below.refl _ _⟩
  case round =>
    obtain ⟨k, x, ps, rfl, rfl, hk, hx, hpl, hrow, hrr, hB⟩ := hrel
    subst hpl
    have hsz := (unhide hB).size
    obtain ⟨la, lc, rfl⟩ := row_shape (unhide hrow)
    have hown : ∀ j, (Value.slice la ps.length lc).ownBlock = some j → w.heap.size ≤ j ∧ j < wr.heap.size := World.ownsRow.lt (unhide hrow)
    have Hown := hide hown
    clear hown
    by_cases hlt : ps.length < cs.length
    · obtain ⟨c, hc⟩ : ∃ c, cs[ps.length]? = some c := ⟨_, List.getElem?_eq_getElem hlt⟩
      have hgc : cs[ps.length] = c := by rw [List.getElem?_eq_getElem hlt] at hc; exact Option.some.inj hc
      have hst := unhide hrr
      rw [List.drop_eq_getElem_cons hlt, hgc, lno] at hst
      have Hst := hide hst
      have Hc := hide hc
      have JM := hide (fun w0 => jumps_any c ps.length (by omega) w0)
      clear hst hgc hc hrr
      go_wp2_with (at_builtin; refine wpList_append_own _ rfl (.tmp 12) (.tmp 14) 22 rfl w.heap.size 3 i0 (.int .i64 0) 1 8 Try.underlying22 hi0 hz0 hz1 hz2 rfl (by decide) (.slice la ps.length lc) ps.length (ps.map fun c => Value.int .i64 c) rfl ?_ ⟨wr.heap.size, 0, none⟩ 1 1 [.int .i64 x] rfl rfl ?_ ?_ ?_ ?_ ?_ ?_)
      all_goals first | exact World.ownsRow.alloc (unhide hrow) _ | exact cell_one_new _ _ _ | (simp [Value.oneCell']; done) | (unfold maxLen; omega) | omega | (simp; omega) | skip
      · intro v' w' h1 h2 _
        have hB2 : Below w.heap.size w w' := ((unhide hB).alloc (by omega) _).trans ⟨h2.os, h2.tape, h2.output, h2.size, fun j hj => h2.block j (by simp; omega) (fun e => by have := unhide Hown j e.symm; omega)⟩
        have hrow2 : w'.ownsRow w.heap.size 3 1 v' (ps ++ [(x : Int)]).length ((ps ++ [(x : Int)]).map fun c => Value.int .i64 c) := by
          rw [List.length_append, List.map_append]; exact h1
        have HB2 := hide hB2
        have Hrow2 := hide hrow2
        obtain ⟨g', cap', rfl⟩ : ∃ g' cap', v' = .slice (some ⟨g', 0, none⟩) (ps.length + 1) cap' := by
          rcases h1.2 with ⟨_, h3⟩ | ⟨g', cap', cur, h4, _⟩
          · omega
          · exact ⟨g', cap', h4⟩
        have hO2 : Own w' kb (.slice ao cs.length cap) cs := own_below (unhide HO) (World.ownsRow.lt (unhide HO) · · |>.2) hB2
        obtain ⟨g, rfl, y0, y1, y2, y3, y4, y5, y6, y7, y8, y9, y10⟩ := own_nine hO2 (unhide Hc)
        have hlI : (ps.length : Int) < (cs.length : Int) := by omega
        clear h1 h2 hB2 hrow2 hO2
        cases hj : jmp c ps.length with
        | true =>
          have hfin : (ps ++ [(x : Int)]) ++ lno (cs.drop (ps.length + 1)) (ps.length + 1) (x + 1 + 1) = r := by
            have h := unhide Hst
            rw [hj, if_pos rfl] at h
            rw [List.append_assoc]; exact h
          have Hfin := hide hfin
          rw [hj] at JM
          clear hfin hj
          unfold Cm.cells at JM
          go_wp2_with fail
          refine (unhide JM _).mono ?_
          rintro e w3 ⟨rfl, o, rfl⟩
          go_wp2_with fail
          go_roundw
          case rel => exact ⟨ps.length + 1, x + 1 + 1, ps ++ [(x : Int)], by go_num, by go_num, by omega, by omega, by simp, hide (World.ownsRow.alloc (unhide Hrow2) _), Hfin, hide ((unhide HB2).alloc (unhide HB2).size _)⟩
          case measure => simp [intOf]; omega
        | false =>
          have hfin : (ps ++ [(x : Int)]) ++ lno (cs.drop (ps.length + 1)) (ps.length + 1) (x + 1) = r := by
            have h := unhide Hst
            rw [hj, if_neg (by simp)] at h
            rw [List.append_assoc]; exact h
          have Hfin := hide hfin
          rw [hj] at JM
          clear hfin hj
          unfold Cm.cells at JM
          go_wp2_with fail
          refine (unhide JM _).mono ?_
          rintro e w3 ⟨rfl, o, rfl⟩
          go_wp2_with fail
          go_roundw
          case rel => exact ⟨ps.length + 1, x + 1, ps ++ [(x : Int)], by go_num, by go_num, by omega, by omega, by simp, hide (World.ownsRow.alloc (unhide Hrow2) _), Hfin, hide ((unhide HB2).alloc (unhide HB2).size _)⟩
          case measure => simp [intOf]; omega
    · have hst := unhide hrr
      rw [List.drop_of_length_le (by omega), lno] at hst
      have Hst := hide hst
      clear hst hrr
      go_wp2_with (at_builtin; refine wpList_append_own _ rfl (.tmp 26) (.tmp 28) 22 rfl w.heap.size 3 i0 (.int .i64 0) 1 8 Try.underlying22 hi0 hz0 hz1 hz2 rfl (by decide) (.slice la ps.length lc) ps.length (ps.map fun c => Value.int .i64 c) rfl ?_ ⟨wr.heap.size, 0, none⟩ 1 1 [.int .i64 x] rfl rfl ?_ ?_ ?_ ?_ ?_ ?_)
      all_goals first | exact World.ownsRow.alloc (unhide hrow) _ | exact cell_one_new _ _ _ | (simp [Value.oneCell']; done) | (unfold maxLen; omega) | omega | (simp; omega) | skip
      · intro v' w' h1 h2 _
        have hB2 : Below w.heap.size w w' := ((unhide hB).alloc (by omega) _).trans ⟨h2.os, h2.tape, h2.output, h2.size, fun j hj => h2.block j (by simp; omega) (fun e => by have := unhide Hown j e.symm; omega)⟩
        have hrow2 : w'.ownsRow w.heap.size 3 1 v' r.length (r.map fun c => Value.int .i64 c) := by
          rw [← unhide Hst, List.length_append, List.map_append]; exact h1
        have Hrl := hide (show r.length = ps.length + 1 by rw [← unhide Hst]; simp)
        obtain ⟨g', cap', rfl, hg'⟩ : ∃ g' cap', v' = .slice (some ⟨g', 0, none⟩) (ps.length + 1) cap' ∧ w.heap.size ≤ g' := by
          rcases h1.2 with ⟨_, h3⟩ | ⟨g', cap', cur, h4, h5, _⟩
          · omega
          · exact ⟨g', cap', h4, h5⟩
        have hlies : Lies w' ⟨g', 0, none⟩ r := fun j v hv => by
          have hj : j < r.length := (List.getElem?_eq_some_iff.1 hv).1
          rw [← unhide Hrl] at hrow2
          rw [Addr.add_lit, Nat.zero_add, World.ownsRow.cellAt hrow2 j (by omega), List.getElem?_map, hv]; rfl
        have hlt2 := (World.ownsRow.lt hrow2 g' rfl).2
        clear h1 h2
        go_wp2_with fail
        go_ret
        exact ⟨g', cap', by rw [unhide Hrl]; rfl, hlies, hg', hlt2, hB2⟩
end Go.Proofs.Ytnkbfdbbcaffmab
/-
  lower.Code.
-/
namespace Go.Proofs.Ytnkbfdbbcaffmab
open Go.RowKit

/-- A command that can be written. -/
structure LwOK (ns : List Int) (c : Cm) : Prop where
  kind : isCmd c.kind = true
  v : c.kind = 61 ∨ c.kind = 108 → 0 ≤ c.var ∧ c.var ≤ 100
  x0 : 0 ≤ c.xv
  x1 : c.xv ≤ 15
  y : c.kind = 61 ∨ c.kind = 115 → 0 ≤ c.yv ∧ c.yv ≤ 15
  yes : ∃ (i : Nat) (z : Int), c.yes = i ∧ ns[i]? = some z ∧ 0 ≤ z ∧ z ≤ 255
  no : ∃ (i : Nat) (z : Int), c.no = i ∧ ns[i]? = some z ∧ 0 ≤ z ∧ z ≤ 255

/-- Two digits. -/
def twoD (z : Int) : List Int := [hxd (z / 16), hxd (z % 16)]
/-- A command's line. -/
def lnB (ns : List Int) (c : Cm) : List Int :=
  if c.kind = 61 then [61, 97 + c.var, opW c.xn c.xv, c.op, opW c.yn c.yv]
  else if c.kind = 108 then [108, 97 + c.var, opW c.xn c.xv]
  else if c.kind = 115 then [115, opW c.xn c.xv, opW c.yn c.yv]
  else [122, opW c.xn c.xv] ++ twoD (ns.getD c.no.toNat 0)
/-- The jump behind it, if there is one. -/
def jmB (ns : List Int) (c : Cm) (i : Nat) : List Int := if jmp c i = true then 106 :: twoD (ns.getD c.yes.toNat 0) else []
def codT (ns : List Int) : List Cm → Nat → List Int
  | [], _ => []
  | c :: r, i => lnB ns c ++ jmB ns c i ++ codT ns r (i + 1)

theorem lnB_len (ns : List Int) (c : Cm) : (lnB ns c).length ≤ 5 := by
  unfold lnB twoD
  repeat' split
  all_goals simp
theorem jmB_len (ns : List Int) (c : Cm) (i : Nat) : (jmB ns c i).length ≤ 3 := by
  unfold jmB twoD
  split <;> simp

theorem writeLine_any {w : World} {b gl lcap : Nat} {ns tx : List Int} {tv : Value} (h : Wr w b gl lcap ns tx tv) (hl : tx.length ≤ 10000) (c : Cm) (hc : LwOK ns c) :
    Calls Try.prog 37 #[.pointer (some ⟨b, 0, none⟩), .agg c.cells] w fun e w' => e = .returned (.tuple #[]) ∧ (∃ tv', Wr w' b gl lcap ns (tx ++ lnB ns c) tv') ∧ Fr b b w w' := by
  obtain ⟨kd, hv, x0, x1, hyy, hy, ⟨i, z, hi, hz, hz0, hz1⟩⟩ := hc
  simp [isCmd] at kd
  unfold lnB
  by_cases k1 : c.kind = 61
  · rw [if_pos k1]; exact writeLine_set h hl c k1 (hv (.inl k1)).1 (hv (.inl k1)).2 x0 x1 (hyy (.inl k1)).1 (hyy (.inl k1)).2
  · rw [if_neg k1]
    by_cases k2 : c.kind = 108
    · rw [if_pos k2]; exact writeLine_load h hl c k2 (hv (.inr k2)).1 (hv (.inr k2)).2 x0 x1
    · rw [if_neg k2]
      by_cases k3 : c.kind = 115
      · rw [if_pos k3]; exact writeLine_store h hl c k3 x0 x1 (hyy (.inr k3)).1 (hyy (.inr k3)).2
      · rw [if_neg k3]
        have hil : i < ns.length := (List.getElem?_eq_some_iff.1 hz).1
        have e : ns.getD c.no.toNat 0 = z := by
          rw [hi]
          simp only [Int.toNat_natCast, List.getD, hz, Option.getD_some]
        rw [e]
        exact writeLine_test h hl c (by omega) x0 x1 i hi hil z hz hz0 hz1

set_option maxHeartbeats 4000000 in
set_option maxRecDepth 100000 in
theorem code_any (hx : ByteArray) (hxl : hx.size ≤ 1000) (W : Nat) (V : Int) (n m : Nat) (ao : Option Addr) (cap kb : Nat) (cs : List Cm) (hcl : cs.length ≤ 1000) (hcs : ∀ c ∈ cs, LwOK (lnsO cs) c) (w : World) (hO : Own w kb (.slice ao cs.length cap) cs) :
    Calls Try.prog 23 #[.agg #[.int .i64 0, .int .i64 0, .string hx, .int .i64 W, .int .i64 V, .int .i64 n, .int .i64 m, .slice ao cs.length cap]] w fun e w' => e = .returned (.string (strOfNums (hx.data.toList.map (fun c => (c.toNat : Int)) ++ codT (lnsO cs) cs 0 ++ [104]))) ∧ Below w.heap.size w w' := by
  have LO := hide (fun w0 (h0 : Own w0 kb (.slice ao cs.length cap) cs) => linesOf_any w0 kb ao cap cs hcl h0)
  generalize hfin : strOfNums (hx.data.toList.map (fun c => (c.toNat : Int)) ++ codT (lnsO cs) cs 0 ++ [104]) = fin
  have Hfin := hide hfin
  have HO := hide hO
  have Hcs := hide hcs
  clear hfin hO hcs
  obtain ⟨i0, hi0, hz0, hz1, hz2⟩ := info_parts Try.infoByte
  go_enter Try.func23, Try.ntmps23
  go_wp2_with fail
  refine (unhide LO _ (World.ownsRow.alloc (unhide HO) _)).mono ?_
  rintro e w1 ⟨gl, lc, rfl, hLi, hg1, hg2, hB1⟩
  have hK1 := (At.new w 56 #[.int .i64 0, .int .i64 0, .string hx, .int .i64 W, .int .i64 V, .int .i64 n, .int .i64 m, .slice ao cs.length cap]).below hB1 (by simp)
  have hBa := ((Below.refl w.heap.size w).alloc (Nat.le_refl _) (.cells #[.int .i64 0, .int .i64 0, .string hx, .int .i64 W, .int .i64 V, .int .i64 n, .int .i64 m, .slice ao cs.length cap] 56)).trans (hB1.mono (by simp))
  have hO1 : Own w1 kb (.slice ao cs.length cap) cs := own_below (unhide HO) (fun k hk => (World.ownsRow.lt (unhide HO) k hk).2) hBa
  have hsz1 : w.heap.size < w1.heap.size := hK1.lt
  generalize lnsO cs = ns at *
  have hW1 : Wr (w1.alloc (.cells #[.slice (some ⟨gl, 0, none⟩) ns.length lc, .slice none 0 0] 70)) w1.heap.size gl lc ns [] (.slice none 0 0) := ⟨At.new w1 _ _, World.ownsRow_nil _ _ _ _, hLi.grown (gb_alloc (gb_refl w1 none) _) (by simp), hg2⟩
  have hK2 := hK1.alloc (.cells #[.slice (some ⟨gl, 0, none⟩) ns.length lc, .slice none 0 0] 70)
  have hO2 := World.ownsRow.alloc hO1 (.cells #[.slice (some ⟨gl, 0, none⟩) ns.length lc, .slice none 0 0] 70)
  have hlt2 : ∀ k, (Value.slice ao cs.length cap).ownBlock = some k → k < w1.heap.size := fun k hk => by have := (World.ownsRow.lt (unhide HO) k hk).2; omega
  have hB2 := hBa.alloc (by omega) (.cells #[.slice (some ⟨gl, 0, none⟩) ns.length lc, .slice none 0 0] 70)
  have HW1 := hide hW1
  have HO2 := hide hO2
  have Hlt2 := hide hlt2
  have HB2 := hide hB2
  have HK2 := hide hK2
  obtain ⟨k0, k1, k2, k3, k4, k5, k6, k7, kf⟩ := At.eight hK2
  obtain ⟨m0, m1, mf⟩ := hW1.two
  clear hW1 hO2 hlt2 hB2 hK2 hK1 hBa hO1 hLi hB1
  have hbytes : bytesV (hx.data.toList.map (fun c => (c.toNat : Int))) = Go.Lib.strCells hx := by
    simp [bytesV, Go.Lib.strCells]
  have hPost := fun v' w' => wr_post (ds := hx.data.toList.map (fun c => (c.toNat : Int))) (v' := v') (w' := w') (unhide HW1) (Below.refl _ _)
  rw [hbytes] at hPost
  have hdl : (hx.data.toList.map (fun c => (c.toNat : Int))).length = hx.size := by simp
  rw [hdl] at hPost
  simp only [List.length_nil, Nat.zero_add, List.nil_append, show bytesV [] = [] from rfl] at hPost
  generalize hhb : hx.data.toList.map (fun c => (c.toNat : Int)) = hb at *
  have HPost := hide hPost
  have Hdl := hide hdl
  clear hPost hbytes hdl hhb
  go_wp2_with (at_builtin; refine Go.Lib.wpList_append_own_string _ rfl (.tmp 11) (.tmp 14) 51 9 rfl (w1.heap.size + 1) 5 i0 Try.underlying51 Try.underlying9 hi0 hz0 hz1 hz2 (.slice none 0 0) 0 [] rfl ?_ hx rfl ?_ ?_ ?_ ?_)
  · exact World.ownsRow_nil _ _ _ _
  · unfold maxLen; omega
  · omega
  · simp
  · intro v' w' h1 h2 _
    obtain ⟨hW, c0, c1, cf, hF⟩ := unhide HPost v' w' h1 h2
    obtain ⟨va, vc, rfl⟩ := row_shape h1
    have hK3 := hF.at_ (unhide HK2) (by decide) (by omega) (by omega)
    have hF3 := hF.set (a := ⟨w1.heap.size, 1, none⟩) (.slice va hx.size vc) (Nat.le_refl _) (.inl rfl)
    have HW := hide hW
    have HF3 := hide hF3
    clear m0 m1 mf k0 k1 k2 k3 k4 k5 k6 k7 kf h1 h2 hF3 hF
    obtain ⟨k0, k1, k2, k3, k4, k5, k6, k7, kf⟩ := At.eight hK3
    go_wp2_with fail
    generalize w'.setCell ⟨w1.heap.size, 1, none⟩ (.slice va hx.size vc) = w2 at *
    clear hW hK3 c0 c1 cf k0 k1 k2 k3 k4 k5 k6 k7 kf
    generalize hT : hb ++ codT ns cs 0 = TT at *
    have HT := hide hT
    clear hT
    go_loopw [4] (fun i wr => ∃ (k : Nat) (tx : List Int) (tv : Value), i = .int .i64 k ∧ k ≤ cs.length ∧ tx.length ≤ 1000 + 8 * k ∧ Hid (Wr wr w1.heap.size gl lc ns tx tv) ∧ Hid (tx ++ codT ns (cs.drop k) k = TT) ∧ Hid (Fr w1.heap.size w1.heap.size (w1.alloc (.cells #[.slice (some ⟨gl, 0, none⟩) ns.length lc, .slice none 0 0] 70)) wr)) (fun i _ => cs.length - (intOf i).toNat)
    case atStart => exact ⟨0, hb, _, rfl, Nat.zero_le _, by rw [unhide Hdl]; omega, HW, HT, HF3⟩
    case round =>
      obtain ⟨k, tx, tv, rfl, hk, htl, hWk, htt, hFk⟩ := hrel
      have hKk := (unhide hFk).at_ (unhide HK2) (by decide) (by omega) (by omega)
      have hOk : Own wr kb (.slice ao cs.length cap) cs := own_below (unhide HO2) (unhide Hlt2) (unhide hFk).below
      obtain ⟨k0, k1, k2, k3, k4, k5, k6, k7, kf⟩ := At.eight hKk
      have hbl := (unhide hWk).at_.lt
      by_cases hlt : k < cs.length
      · obtain ⟨c, hc⟩ : ∃ c, cs[k]? = some c := ⟨_, List.getElem?_eq_getElem hlt⟩
        obtain ⟨g, rfl, y0, y1, y2, y3, y4, y5, y6, y7, y8, y9, y10⟩ := own_nine hOk hc
        have hgc : cs[k] = c := by rw [List.getElem?_eq_getElem hlt] at hc; exact Option.some.inj hc
        have hst := unhide htt
        rw [List.drop_eq_getElem_cons hlt, hgc, codT] at hst
        have Hst := hide hst
        have hcok := unhide Hcs c (List.mem_of_getElem? hc)
        have hll := lnB_len ns c
        have JM := hide (fun w0 => jumps_any c k (by omega) w0)
        have WL := hide (fun w0 tv0 (h0 : Wr w0 w1.heap.size gl lc ns tx tv0) => writeLine_any h0 (by omega) c hcok)
        have hlI : (k : Int) < (cs.length : Int) := by omega
        obtain ⟨iy, zy, hiy, hzy, hzy0, hzy1⟩ := hcok.yes
        have hiyl : iy < ns.length := (List.getElem?_eq_some_iff.1 hzy).1
        have ey : ns.getD c.yes.toNat 0 = zy := by
          rw [hiy]
          simp only [Int.toNat_natCast, List.getD, hzy, Option.getD_some]
        have hjB : jmB ns c k = if jmp c k = true then [106, hxd (zy / 16), hxd (zy % 16)] else [] := by unfold jmB twoD; rw [ey]
        have HjB := hide hjB
        have Hzy := hide hzy
        clear hst hgc hc hOk hKk htt ey hjB hcok hzy
        unfold Cm.cells at JM WL
        have hAc := At.new wr 74 #[.int .u8 c.kind, .int .i64 c.var, .bool c.xn, .int .i64 c.xv, .int .u8 c.op, .bool c.yn, .int .i64 c.yv, .int .i64 c.yes, .int .i64 c.no, .int .i64 c.sec, .int .i64 c.beh]
        have hWa := (unhide hWk).alloc (.cells #[.int .u8 c.kind, .int .i64 c.var, .bool c.xn, .int .i64 c.xv, .int .u8 c.op, .bool c.yn, .int .i64 c.yv, .int .i64 c.yes, .int .i64 c.no, .int .i64 c.sec, .int .i64 c.beh] 74)
        have hFa := (unhide hFk).alloc (by omega) (.cells #[.int .u8 c.kind, .int .i64 c.var, .bool c.xn, .int .i64 c.xv, .int .u8 c.op, .bool c.yn, .int .i64 c.yv, .int .i64 c.yes, .int .i64 c.no, .int .i64 c.sec, .int .i64 c.beh] 74)
        have HAc := hide hAc
        have HWa := hide hWa
        have HFa := hide hFa
        clear hAc hWa hFa
        have Hiy := hide hiy
        clear hiy
        go_wp2_with fail
        refine (unhide WL _ _ (unhide HWa)).mono ?_
        rintro e w3 ⟨rfl, ⟨tv3, hW3⟩, hF3⟩
        have hA3 := hF3.at_ (unhide HAc) (by decide) (by omega) (by omega)
        have hF3' := (unhide HFa).trans hF3
        obtain ⟨d0, d1, d2, d3, d4, d5, d6, d7, d8, d9, d10, df⟩ := At.elv hA3
        clear k0 k1 k2 k3 k4 k5 k6 k7 kf y0 y1 y2 y3 y4 y5 y6 y7 y8
        cases hj : jmp c k with
        | true =>
          have hfin2 : (((tx ++ lnB ns c) ++ [106]) ++ [hxd (zy / 16), hxd (zy % 16)]) ++ codT ns (cs.drop (k + 1)) (k + 1) = TT := by
            rw [← unhide Hst, unhide HjB, hj, if_pos rfl]; simp
          have Hfin2 := hide hfin2
          rw [hj] at JM
          clear hfin2 hj
          go_wp2_with fail
          refine (unhide JM _).mono ?_
          rintro e w4 ⟨rfl, o, rfl⟩
          have hA4 := hA3.alloc o
          clear d0 d1 d2 d3 d4 d5 d6 d7 d8 d9 d10 df
          go_wp2_with fail
          refine (write_any (hW3.alloc o) (by simp; omega) 106).mono ?_
          rintro e w5 ⟨rfl, ⟨tv5, hW5⟩, hF5⟩
          have hA5 := hF5.at_ hA4 (by decide) (by omega) (by omega)
          obtain ⟨d0, d1, d2, d3, d4, d5, d6, d7, d8, d9, d10, df⟩ := At.elv hA5
          have hsz3 := hF3'.below.size
          have hF5' := (hF3'.alloc (by have := hW3.at_.lt; omega) o).trans hF5
          go_wp2_with fail
          rw [unhide Hiy]
          refine (writeNumber_any hW5 (by simp; omega) iy hiyl zy (unhide Hzy) hzy0 hzy1).mono ?_
          rintro e w6 ⟨rfl, ⟨tv6, hW6⟩, hF6⟩
          go_wp2_with fail
          go_roundw
          case rel => exact ⟨k + 1, _, tv6, by go_num, by omega, by simp; omega, hW6, Hfin2, hF5'.trans hF6⟩
          case measure => simp [intOf]; omega
        | false =>
          have hfin2 : (tx ++ lnB ns c) ++ codT ns (cs.drop (k + 1)) (k + 1) = TT := by
            rw [← unhide Hst, unhide HjB, hj, if_neg (by simp)]; simp
          have Hfin2 := hide hfin2
          rw [hj] at JM
          clear hfin2 hj
          go_wp2_with fail
          refine (unhide JM _).mono ?_
          rintro e w4 ⟨rfl, o, rfl⟩
          go_wp2_with fail
          go_roundw
          case rel => exact ⟨k + 1, _, tv3, by go_num, by omega, by simp; omega, hW3.alloc o, Hfin2, hF3'.alloc (by have := hW3.at_.lt; omega) o⟩
          case measure => simp [intOf]; omega
      · have hst := unhide htt
        rw [List.drop_of_length_le (by omega), codT, List.append_nil] at hst
        have Hst := hide hst
        clear hst htt hOk
        go_wp2_with fail
        refine (write_any (unhide hWk) (by omega) 104).mono ?_
        rintro e w5 ⟨rfl, ⟨tv5, hW5⟩, hF5⟩
        obtain ⟨va5, vc5, rfl⟩ := hW5.row.shape
        obtain ⟨m0, m1, mf⟩ := hW5.two
        have hcv := sn_conv hW5.row
        have hfs : strOfNums (tx ++ [104]) = fin := by rw [unhide Hst]; exact unhide Hfin
        rw [hfs] at hcv
        simp only [List.length_append, List.length_cons, List.length_nil, Nat.zero_add] at hcv
        have hB5 := ((unhide HB2).trans ((unhide hFk).below.mono (by omega))).trans (hF5.below.mono (by omega))
        clear k0 k1 k2 k3 k4 k5 k6 k7 kf
        go_wp2_with fail
        go_ret
        exact ⟨rfl, hB5⟩
end Go.Proofs.Ytnkbfdbbcaffmab
