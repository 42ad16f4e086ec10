import Derived.Test.YtnkbfdbbcaffmaaGreatDoorX35LnC
import Derived.Test.YtnkbfdbbcaffmaaGreatDoorX18RunL
/-
  CheckCode, Exec, Path.
-/
namespace Go.Proofs.YtnkbfdbbcaffmaaGreatDoor
open Go.RowKit

set_option maxHeartbeats 1000000 in
theorem checkCode_any (s : ByteArray) (hmx : s.size ≤ maxLen) (w : World) :
    Calls Tryz.prog 18 #[.string s] w fun e w' => e = .returned (.tuple #[.int .i64 (codP s).e, .int .i64 (codP s).z1]) ∧ Below w.heap.size w w' := by
  have hrk := hide (readCode_pg s hmx w)
  generalize codP s = q at *
  go_enter Tryz.func18, Tryz.ntmps18
  go_wp2_with fail
  refine (unhide hrk).mono ?_
  rintro e w1 ⟨ao, cap, rfl, hB, _⟩
  unfold Pg.val
  go_wp2_with fail
  go_quiet (fail)
  go_wp2_with fail
  go_ret2
  exact ⟨rfl, below_drewN (hB.alloc hB.size _) _⟩

set_option maxHeartbeats 1000000 in
theorem leakExec_any (s : ByteArray) (hmx : s.size ≤ maxLen) (view fuel : Int) (ab ao cin : Nat) (zs : List Int) (hl : zs.length ≤ 9223372036854775807) (w : World) (hL : Lies w ⟨ab, ao, none⟩ zs) (hab : ab < w.heap.size) :
    Calls Tryz.prog 36 #[.string s, .int .i64 view, .slice (some ⟨ab, ao, none⟩) zs.length cin, .int .i64 fuel] w fun e w' => ∃ st, e = .returned (.tuple #[.agg #[.int .i64 ((codP s).run view zs fuel).2.tag, .int .i64 ((codP s).run view zs fuel).2.steps, .string (strOfNums ((codP s).run view zs fuel).2.sn), st], .int .i64 ((codP s).run view zs fuel).1]) ∧ StV w' w.heap.size st ((codP s).run view zs fuel).2.σ ∧ Below w.heap.size w w' := by
  have hrk := readCode_pg s hmx
  have hok : (codP s).e = 0 → (codP s).OK := codP_ok
  generalize codP s = q at *
  have HL := hide hL
  have Hok := hide hok
  have Hrk := hide hrk
  have hsz : ∀ w1 : World, Below w.heap.size w w1 → Lies w1 ⟨ab, ao, none⟩ zs := fun w1 hB => (unhide HL).below hB hab
  have Hsz := hide hsz
  clear hrk hok hL hsz
  generalize hP : q.run view zs fuel = P
  have HP := hide hP
  clear hP
  go_enter Tryz.func36, Tryz.ntmps36
  go_wp2_with fail
  refine (unhide Hrk _).mono ?_
  rintro e w1 ⟨ao', cap', rfl, hB1, hO1⟩
  have hA1 : At w1 w.heap.size 52 #[.int .i64 0, .int .i64 0, .string ⟨#[]⟩, .slice none 0 0] := (At.new w 52 #[.int .i64 0, .int .i64 0, .string ⟨#[]⟩, .slice none 0 0]).below hB1 (by simp)
  have hBa := ((Below.refl w.heap.size w).alloc (Nat.le_refl _) (.cells #[.int .i64 0, .int .i64 0, .string ⟨#[]⟩, .slice none 0 0] 52)).trans (hB1.mono (by simp))
  have hcall := run_gen q (unhide Hok) ao' cap' _ view fuel ab ao cin zs hl w1 hO1 (unhide Hsz w1 hBa)
  rw [unhide HP] at hcall
  have Hcall := hide hcall
  have HA1 := hide hA1
  clear hcall hA1 hO1 Hsz Hok Hrk
  go_wp2_with fail
  refine (unhide Hcall).mono ?_
  rintro e w2 ⟨st, rfl, hst, hB2⟩
  have hA2 := (unhide HA1).below hB2 (unhide HA1).lt
  have hBB := hBa.trans (hB2.mono hBa.size)
  have r0 := hA2.cell 0
  have r1 := hA2.cell 1
  have r2 := hA2.cell 2
  have r3 := hA2.cell 3
  have rf := fun j => hA2.frozen j
  simp at r0 r1 r2 r3
  have hlt := (unhide HA1).lt
  obtain ⟨a1, l1, c1, rfl⟩ : ∃ a1 l1 c1, st = .slice a1 l1 c1 := by
    rcases hst with ⟨_, h⟩ | ⟨gs, h, _⟩
    · exact ⟨_, _, _, h⟩
    · exact ⟨_, _, _, h⟩
  have hst2 : ∀ v0 v1 v2 v3, StV ((((w2.setCell ⟨w.heap.size, 0, none⟩ v0).setCell ⟨w.heap.size, 1, none⟩ v1).setCell ⟨w.heap.size, 2, none⟩ v2).setCell ⟨w.heap.size, 3, none⟩ v3) w.heap.size (.slice a1 l1 c1) P.2.σ := fun v0 v1 v2 v3 => by
    rcases hst with h | ⟨gs, h, hA, hgs⟩
    · exact .inl h
    · exact .inr ⟨gs, h, (((hA.other _ (by show w.heap.size ≠ gs; omega)).other _ (by show w.heap.size ≠ gs; omega)).other _ (by show w.heap.size ≠ gs; omega)).other _ (by show w.heap.size ≠ gs; omega), by omega⟩
  have Hst2 := hide hst2
  clear hst hst2 Hcall HA1
  go_wp2_with fail
  refine bodyPost_ret (v := .tuple #[.agg #[.int .i64 P.2.tag, .int .i64 P.2.steps, .string (strOfNums P.2.sn), .slice a1 l1 c1], .int .i64 P.1]) (by simp [results, Tryz.results36, go_sem, r0, r1, r2, r3]) rfl ⟨.slice a1 l1 c1, rfl, unhide Hst2 _ _ _ _, ?_⟩
  exact (((hBB.setCell (Nat.le_refl _) _).setCell (Nat.le_refl _) _).setCell (Nat.le_refl _) _).setCell (Nat.le_refl _) _

/-- What Path answers: the error, the lines. -/
def pPath (s : ByteArray) (zs : List Int) (fuel : Int) : Int × List Int :=
  if (codP s).e ≠ 0 then ((codP s).e, [])
  else if rfs (codP s).V ((codP s).n + (codP s).m) 0 zs fuel ≠ 0 then (rfs (codP s).V ((codP s).n + (codP s).m) 0 zs fuel, [])
  else (0, pathP (codP s).V 0 (codP s).n (codP s).m fuel.toNat (codP s).cs (fuel.toNat + 1) 0 zs 0)

/-- A list that came out: none, or in a row of its own in new memory. -/
def PtV (w : World) (B : Nat) (pv : Value) (ps : List Int) : Prop := ∃ b, B ≤ b ∧ Pt w b pv ps

set_option maxHeartbeats 1000000 in
theorem leakPath_any (s : ByteArray) (hmx : s.size ≤ maxLen) (fuel : Int) (ab ao cin : Nat) (zs : List Int) (hl : zs.length ≤ 9223372036854775807) (w : World) (hL : Lies w ⟨ab, ao, none⟩ zs) (hab : ab < w.heap.size) :
    Calls Tryz.prog 38 #[.string s, .slice (some ⟨ab, ao, none⟩) zs.length cin, .int .i64 fuel] w fun e w' => ∃ pv, e = .returned (.tuple #[pv, .int .i64 (pPath s zs fuel).1]) ∧ PtV w' w.heap.size pv (pPath s zs fuel).2 ∧ Below w.heap.size w w' := by
  have hrk := readCode_pg s hmx w
  have hok : (codP s).e = 0 → (codP s).OK := codP_ok
  have hPd : pPath s zs fuel = if (codP s).e ≠ 0 then ((codP s).e, [])
    else if rfs (codP s).V ((codP s).n + (codP s).m) 0 zs fuel ≠ 0 then (rfs (codP s).V ((codP s).n + (codP s).m) 0 zs fuel, [])
    else (0, pathP (codP s).V 0 (codP s).n (codP s).m fuel.toNat (codP s).cs (fuel.toNat + 1) 0 zs 0) := rfl
  generalize pPath s zs fuel = P at *
  generalize codP s = q at *
  have HL := hide hL
  have Hrk := hide hrk
  clear hrk hL
  by_cases he : q.e = 0
  · obtain ⟨hw1, hw8, hV, hn, hm, hcs, hcl⟩ := hok he
    rw [if_neg (by rw [he]; simp)] at hPd
    have HPP := hide hPd
    clear hPd hok
    obtain ⟨qe, z1, tx, W, V, n, m, cs⟩ := q
    dsimp only at *
    subst he
    have Hcs := hide hcs
    have HV := hide hV
    clear hcs hV
    unfold Pg.val at Hrk
    dsimp only at Hrk
    go_enter Tryz.func38, Tryz.ntmps38
    go_wp2_with fail
    refine (unhide Hrk).mono ?_
    rintro e w1 ⟨ao', cap', rfl, hB1, hO1⟩
    have hA1 := At.new w1 44 #[.int .i64 0, .int .i64 z1, .string tx, .int .i64 W, .int .i64 V, .int .i64 n, .int .i64 m, .slice ao' cs.length cap']
    have hL1 := ((unhide HL).below hB1 hab).grown (gb_alloc (gb_refl w1 none) (.cells #[.int .i64 0, .int .i64 z1, .string tx, .int .i64 W, .int .i64 V, .int .i64 n, .int .i64 m, .slice ao' cs.length cap'] 44)) (by simp)
    have hO2 := World.ownsRow.alloc hO1 (.cells #[.int .i64 0, .int .i64 z1, .string tx, .int .i64 W, .int .i64 V, .int .i64 n, .int .i64 m, .slice ao' cs.length cap'] 44)
    have hB2 := hB1.alloc hB1.size (.cells #[.int .i64 0, .int .i64 z1, .string tx, .int .i64 W, .int .i64 V, .int .i64 n, .int .i64 m, .slice ao' cs.length cap'] 44)
    have hrf := hide (refusal_any tx z1 (.slice ao' cs.length cap') W V n m 0 fuel ab ao cin zs hl (by omega) (by omega) _ hL1)
    have HA1 := hide hA1
    have HL1 := hide hL1
    have HO2 := hide hO2
    have HB2 := hide hB2
    clear hA1 hL1 hO2 hB2 hO1
    go_wp2_with fail
    refine (unhide hrf).mono ?_
    rintro e w3 ⟨rfl, hg3⟩
    have hK3 := At.grown (unhide HA1) hg3 (by simp)
    have hL3 := Lies.grown (unhide HL1) hg3 (by simp)
    have hO3 := World.ownsRow.kept (unhide HO2) hg3 (by
      cases h' : (Value.slice ao' cs.length cap').ownBlock with
      | none => exact .inl rfl
      | some k => exact .inr (by simp))
    have hB3 : Below w.heap.size w w3 := (unhide HB2).trans ⟨hg3.os, hg3.tape, hg3.output, hg3.size, fun k hk => hg3.block k (by have := hB1.size; simp; omega) (by simp)⟩
    obtain ⟨k0, k1, k2, k3, k4, k5, k6, k7, kf⟩ := At.eight hK3
    have HO3 := hide hO3
    have HL3 := hide hL3
    clear hO3 hL3 hrf
    by_cases hz : rfs V (n + m) 0 zs fuel = 0
    · have hb : (rfs V (n + m) 0 zs fuel != 0) = false := by simpa using hz
      have hP2 : P = (0, pathP V 0 n m fuel.toNat cs (fuel.toNat + 1) 0 zs 0) := by
        have h := unhide HPP
        rw [if_neg (by rw [hz]; simp)] at h; exact h
      have HP2 := hide hP2
      obtain ⟨hv, hin, hfu⟩ := rfs_ok hz
      obtain ⟨hzl, hft⟩ := inB_fits hin
      obtain ⟨fu, rfl⟩ := Int.eq_ofNat_of_zero_le (show 0 ≤ fuel by omega)
      have hrk := mPath_any tx W n m fu cs cap' ao' _ ⟨ab, ao, none⟩ cin zs w3 hw1 hw8 (by rw [← unhide HV]; exact unhide Hcs) (unhide HO3) hcl (unhide HL3) hzl (by omega) (by rw [← unhide HV]; exact hft) (by omega) 0 z1
      rw [← unhide HV] at hrk
      simp only [Int.toNat_natCast] at HP2
      generalize pathP V 0 n m fu cs (fu + 1) 0 zs 0 = R at *
      have Hrk := hide hrk
      have Hz := hide hz
      clear hrk hz hin hP2 hzl hft hv hfu
      go_wp2_with fail
      refine (unhide Hrk).mono ?_
      rintro e w4 ⟨pv, b, rfl, hPt, hbb, hB4⟩
      obtain ⟨pa, pc, rfl⟩ := hPt.shape
      have hs3 := hB3.size
      go_wp2_with fail
      go_ret2
      exact ⟨_, by rw [unhide HP2]; rfl, ⟨b, by omega, by rw [unhide HP2]; exact hPt⟩, hB3.trans (hB4.mono hs3)⟩
    · have hb : (rfs V (n + m) 0 zs fuel != 0) = true := by simpa using hz
      have hP2 : P = (rfs V (n + m) 0 zs fuel, []) := by
        have h := unhide HPP
        rw [if_pos hz] at h; exact h
      have HP2 := hide hP2
      clear hP2 hz
      go_wp2_with fail
      go_ret2
      exact ⟨_, by rw [unhide HP2]; rfl, ⟨w.heap.size, Nat.le_refl _, by rw [unhide HP2]; exact World.ownsRow_nil _ _ _ _⟩, hB3⟩
  · rw [if_pos he] at hPd
    have HPP := hide hPd
    have hb : (q.e != 0) = true := by simpa using he
    clear hPd hok
    obtain ⟨qe, z1, tx, W, V, n, m, cs⟩ := q
    dsimp only at *
    unfold Pg.val at Hrk
    dsimp only at Hrk
    have hrf := hide (fun ao' cap' w0 => refusal_err qe z1 tx W V n m ao' cs.length cap' 0 fuel (some ⟨ab, ao, none⟩) zs.length cin he w0)
    clear he
    go_enter Tryz.func38, Tryz.ntmps38
    go_wp2_with fail
    refine (unhide Hrk).mono ?_
    rintro e w1 ⟨ao', cap', rfl, hB1, _⟩
    go_wp2_with fail
    refine (unhide hrf ao' cap' _).mono ?_
    rintro e w3 ⟨rfl, hg3⟩
    have hB3 : Below w.heap.size w w3 := (hB1.alloc hB1.size _).trans ⟨hg3.os, hg3.tape, hg3.output, hg3.size, fun k hk => hg3.block k (by have := hB1.size; simp; omega) (by simp)⟩
    go_wp2_with fail
    go_ret2
    exact ⟨_, by rw [unhide HPP]; rfl, ⟨w.heap.size, Nat.le_refl _, by rw [unhide HPP]; exact World.ownsRow_nil _ _ _ _⟩, hB3⟩
end Go.Proofs.YtnkbfdbbcaffmaaGreatDoor
/-
  Lines and their texts. (No walk here.)
-/
namespace Go.Proofs.YtnkbfdbbcaffmaaGreatDoor
open Go.RowKit

/-- How long a line is, by its first byte. -/
def szc (c : Int) : Nat := if c = 61 then 5 else if c = 108 then 3 else if c = 115 then 3 else if c = 106 then 3 else if c = 122 then 4 else 1

/-- A digit to the base 16. -/
def IsHx (a : UInt8) (v : Int) : Prop := (48 ≤ (a.toNat : Int) ∧ (a.toNat : Int) ≤ 57 ∧ v = (a.toNat : Int) - 48) ∨ (97 ≤ (a.toNat : Int) ∧ (a.toNat : Int) ≤ 102 ∧ v = (a.toNat : Int) - 87)

/-- A line and its text. -/
def LnT (V : Int) (n : Nat) (c : Cm) (t : List UInt8) : Prop :=
  (∃ v x o y : UInt8, t = [61, v, x, o, y] ∧ c.kind = 61 ∧ (v.toNat : Int) = 97 + c.var ∧ OpRel V n x c.xn c.xv ∧ (o.toNat : Int) = c.op ∧ OpRel V n y c.yn c.yv) ∨
  (∃ v x : UInt8, t = [108, v, x] ∧ c.kind = 108 ∧ (v.toNat : Int) = 97 + c.var ∧ OpRel V n x c.xn c.xv) ∨
  (∃ x y : UInt8, t = [115, x, y] ∧ c.kind = 115 ∧ OpRel V n x c.xn c.xv ∧ OpRel V n y c.yn c.yv) ∨
  (∃ (x a b : UInt8) (u v : Int), t = [122, x, a, b] ∧ c.kind = 122 ∧ OpRel V n x c.xn c.xv ∧ IsHx a u ∧ IsHx b v ∧ c.no = u * 16 + v) ∨
  (∃ (a b : UInt8) (u v : Int), t = [106, a, b] ∧ c.kind = 106 ∧ IsHx a u ∧ IsHx b v ∧ c.yes = u * 16 + v) ∨
  (t = [104] ∧ c.kind = 104)

theorem LnT.yes {V : Int} {n : Nat} {c : Cm} {t : List UInt8} (h : LnT V n c t) (hk : c.kind ≠ 106) (y : Int) : LnT V n { c with yes := y } t := by
  rcases h with h | h | h | h | ⟨_, _, _, _, _, h, _⟩ | h
  · exact .inl h
  · exact .inr (.inl h)
  · exact .inr (.inr (.inl h))
  · exact .inr (.inr (.inr (.inl h)))
  · exact absurd h hk
  · exact .inr (.inr (.inr (.inr (.inr h))))
theorem LnT.lcm {V : Int} {n : Nat} {c : Cm} {t : List UInt8} (h : LnT V n c t) (len : Nat) : LnT V n (lcm c len) t := by
  unfold Proofs.YtnkbfdbbcaffmaaGreatDoor.lcm
  by_cases hk : c.kind = 106
  · rw [if_pos hk]; exact h
  · rw [if_neg hk]; exact h.yes hk _
theorem LnT.fix {V : Int} {n : Nat} {c : Cm} {t : List UInt8} (h : LnT V n c t) (L : Int) : LnT V n (fix1 L c) t := by
  unfold fix1
  split
  · rename_i hk
    exact h.yes (by omega) _
  · exact h
theorem LnT.len {V : Int} {n : Nat} {c : Cm} {t : List UInt8} (h : LnT V n c t) : t.length = szc c.kind ∧ ∃ r, t = UInt8.ofNat c.kind.toNat :: r ∧ (UInt8.ofNat c.kind.toNat).toNat = c.kind.toNat := by
  rcases h with ⟨_, _, _, _, rfl, h, _⟩ | ⟨_, _, rfl, h, _⟩ | ⟨_, _, rfl, h, _⟩ | ⟨_, _, _, _, _, rfl, h, _⟩ | ⟨_, _, _, _, rfl, h, _⟩ | ⟨rfl, h⟩
  all_goals
    rw [h]
    exact ⟨rfl, _, rfl, rfl⟩

section
variable {s : ByteArray} {p : Nat} {a : Bool} {V : Int} {n : Nat}

theorem dgt_eat (h : (dgt s p a).2.1 = false) : a = false ∧ (dgt s p a).1 = p + 1 ∧ ∃ x, Lft s p = x :: Lft s (p + 1) ∧ IsHx x (dgt s p a).2.2 := by
  unfold dgt at *
  by_cases hr : 48 ≤ pk s p a ∧ pk s p a ≤ 57
  · rw [if_pos hr] at h ⊢
    dsimp only at *
    obtain ⟨h1, h2, x, h3, h4, h5, h6⟩ := tb_eat h
    exact ⟨h1, h2, x, h3, .inl ⟨h5, h6, by omega⟩⟩
  · rw [if_neg hr] at h ⊢
    dsimp only at *
    obtain ⟨h1, h2, x, h3, h4, h5, h6⟩ := tb_eat h
    exact ⟨h1, h2, x, h3, .inr ⟨h5, h6, by omega⟩⟩

theorem nmb_eat (h : (nmb s p a).2.1 = false) : a = false ∧ (nmb s p a).1 = p + 2 ∧ ∃ x y u v, Lft s p = x :: y :: Lft s (p + 2) ∧ IsHx x u ∧ IsHx y v ∧ (nmb s p a).2.2 = u * 16 + v := by
  unfold nmb at *
  dsimp only at *
  obtain ⟨h1, h2, y, h3, h4⟩ := dgt_eat h
  obtain ⟨h5, h6, x, h7, h8⟩ := dgt_eat h1
  refine ⟨h5, by omega, x, y, _, _, ?_, h8, h4, rfl⟩
  rw [h7, show p + 1 = (dgt s p a).1 from h6.symm, h3, h6]

theorem lft_first (hp : p < s.size) {k : UInt8} (hk : pk s p false = (k.toNat : Int)) : Lft s p = k :: Lft s (p + 1) := by
  unfold Lft
  rw [drop_at s p hp]
  rw [pk_at s p hp] at hk
  have : s[p] = k := by
    apply UInt8.toNat_inj.1
    omega
  rw [this]

theorem tlin_eat {k : Int} (hb : (tlin s p V n k).2.1 = false) (hp : p < s.size) (hk : pk s p false = k) (hl : isLn k = true) :
    ∃ T, Lft s p = T ++ Lft s (tlin s p V n k).1 ∧ LnT V n (tlin s p V n k).2.2 T ∧ (tlin s p V n k).1 = p + szc k := by
  simp [isLn] at hl
  unfold tlin at *
  by_cases k1 : k = 61
  · rw [if_pos k1] at hb ⊢
    subst k1
    unfold cmSet at hb ⊢
    dsimp only at *
    obtain ⟨a4, b4, y, l4, r4⟩ := opnd_eat hb
    obtain ⟨a3, b3, o, l3, r3, _⟩ := opn_eat a4
    obtain ⟨a2, b2, x, l2, r2⟩ := opnd_eat a3
    obtain ⟨a1, b1, v, l1, r1, _, _⟩ := tb_eat a2
    exact ⟨[61, v, x, o, y], by rw [lft_first hp (k := 61) hk, l1, ← b1, l2, ← b2, l3, ← b3, l4, ← b4]; rfl, .inl ⟨v, x, o, y, rfl, rfl, r1, r2, r3, r4⟩, by simp [szc]; omega⟩
  · rw [if_neg k1] at hb ⊢
    by_cases k2 : k = 108
    · rw [if_pos k2] at hb ⊢
      subst k2
      unfold cmLoad at hb ⊢
      dsimp only at *
      obtain ⟨a2, b2, x, l2, r2⟩ := opnd_eat hb
      obtain ⟨a1, b1, v, l1, r1, _, _⟩ := tb_eat a2
      exact ⟨[108, v, x], by rw [lft_first hp (k := 108) hk, l1, ← b1, l2, ← b2]; rfl, .inr (.inl ⟨v, x, rfl, rfl, r1, r2⟩), by simp [szc]; omega⟩
    · rw [if_neg k2] at hb ⊢
      by_cases k3 : k = 115
      · rw [if_pos k3] at hb ⊢
        subst k3
        unfold cmStore at hb ⊢
        dsimp only at *
        obtain ⟨a2, b2, y, l2, r2⟩ := opnd_eat hb
        obtain ⟨a1, b1, x, l1, r1⟩ := opnd_eat a2
        exact ⟨[115, x, y], by rw [lft_first hp (k := 115) hk, l1, ← b1, l2, ← b2]; rfl, .inr (.inr (.inl ⟨x, y, rfl, rfl, r1, r2⟩)), by simp [szc]; omega⟩
      · rw [if_neg k3] at hb ⊢
        by_cases k4 : k = 122
        · rw [if_pos k4] at hb ⊢
          subst k4
          unfold cmZero at hb ⊢
          dsimp only at *
          obtain ⟨a2, b2, x', y', u, v, l2, r2, r3, r4⟩ := nmb_eat hb
          obtain ⟨a1, b1, x, l1, r1⟩ := opnd_eat a2
          exact ⟨[122, x, x', y'], by rw [lft_first hp (k := 122) hk, l1, ← b1, l2, ← b2]; rfl, .inr (.inr (.inr (.inl ⟨x, x', y', u, v, rfl, rfl, r1, r2, r3, r4⟩))), by simp [szc]; omega⟩
        · rw [if_neg k4] at hb ⊢
          by_cases k5 : k = 106
          · rw [if_pos k5] at hb ⊢
            subst k5
            unfold cmJump at hb ⊢
            dsimp only at *
            obtain ⟨a2, b2, x', y', u, v, l2, r2, r3, r4⟩ := nmb_eat hb
            exact ⟨[106, x', y'], by rw [lft_first hp (k := 106) hk, l2, ← b2]; rfl, .inr (.inr (.inr (.inr (.inl ⟨x', y', u, v, rfl, rfl, r2, r3, r4⟩)))), by simp [szc]; omega⟩
          · obtain rfl : k = 104 := by omega
            rw [if_neg k5]
            unfold cmEnd
            dsimp only at *
            exact ⟨[104], by rw [lft_first hp (k := 104) hk]; rfl, .inr (.inr (.inr (.inr (.inr ⟨rfl, rfl⟩)))), rfl⟩

/-- From p on the text is these lines. -/
def LnsAt (s : ByteArray) (V : Int) (n : Nat) : Nat → List Cm → List ByteArray → Prop
  | p, [], [] => p = s.size
  | p, c :: cs, l :: ls => p < s.size ∧ p + szc (pk s p false) ≤ s.size ∧ l = s.extract p (p + szc (pk s p false)) ∧ LnT V n c l.data.toList ∧ LnsAt s V n (p + szc (pk s p false)) cs ls
  | _, _, _ => False

theorem LnsAt.fix {L : Int} : ∀ {p : Nat} {cs : List Cm} {ls : List ByteArray}, LnsAt s V n p cs ls → LnsAt s V n p (cs.map (fix1 L)) ls
  | _, [], [], h => h
  | _, _ :: _, _ :: _, ⟨h1, h2, h3, h4, h5⟩ => ⟨h1, h2, h3, h4.fix L, h5.fix⟩

theorem rdL_lines : ∀ (f : Nat) (st : PS), Inv s st → lft s st ≤ f → (rdL s V n f st).bad = false → (rdL s V n f st).p = s.size → ∃ cs ls, (rdL s V n f st).cs = st.cs ++ cs ∧ LnsAt s V n st.p cs ls
  | 0, st, _, _, _, hp => ⟨[], [], by simp [rdL], hp⟩
  | f + 1, st, h, hl, hb, hp => by
    unfold rdL at hb hp ⊢
    by_cases hc : isLn (pk s st.p st.bad) = true
    · rw [if_pos hc] at hb hp ⊢
      obtain ⟨nx, lx⟩ := ln1_nxt (hv := V) (hn := (n : Int)) h hc
      have n2 := rdL_nxt s V n f _ nx.2.2 (by omega)
      have hb1 := n2.1.back hb
      obtain ⟨hbad, hpl⟩ := isLn_pk hc
      obtain ⟨cs, ls, e, hL⟩ := rdL_lines f _ nx.2.2 (by omega) hb hp
      have hk : pk s st.p false = pk s st.p st.bad := by rw [hbad]
      obtain ⟨T, e1, e2, e3⟩ := tlin_eat (V := V) (n := n) hb1 hpl hk hc
      have e4 : (ln1 s V n st).p = st.p + szc (pk s st.p false) := by rw [hk]; exact e3
      have hle : st.p + szc (pk s st.p false) ≤ s.size := by rw [← e4]; exact nx.2.2.2
      have hT : T.length = szc (pk s st.p false) := by
        have h1 := congrArg List.length e1
        unfold Lft at h1
        rw [e3, List.length_append, List.length_drop, List.length_drop, ← size_list, ← hk] at h1
        omega
      have hex : (s.extract st.p (st.p + szc (pk s st.p false))).data.toList = T := by
        rw [ext_data]
        show (Lft s st.p).take _ = T
        rw [e1, show st.p + szc (pk s st.p false) - st.p = T.length from by omega]
        simp
      refine ⟨lcm (tlin s st.p V n (pk s st.p st.bad)).2.2 st.cs.length :: cs, s.extract st.p (st.p + szc (pk s st.p false)) :: ls, ?_, hpl, hle, rfl, ?_, ?_⟩
      · rw [e]; unfold ln1; simp
      · rw [hex]; exact e2.lcm _
      · rw [← e4]; exact hL
    · rw [if_neg hc] at hb hp ⊢
      exact ⟨[], [], by simp, hp⟩
end

theorem cod_head {s : ByteArray} (h : codBad s = false) : (hdr s).2.1 = false := by
  simp [codBad] at h
  exact (cod_nxt s).1.back h.1

theorem cod_lines (s : ByteArray) (h : codBad s = false) : ∃ ls, LnsAt s (pw (hdr s).2.2.1) (hdr s).2.2.2.1 (hdr s).1 (cod s).cs ls := by
  have hle := cod_le s
  simp [codBad] at h
  have hI2 : Inv s ⟨(hdr s).1, (hdr s).2.1 || !(isLn (pk s (hdr s).1 (hdr s).2.1)), []⟩ := ⟨Nat.zero_le _, hdr_le s⟩
  obtain ⟨cs, ls, e, hL⟩ := rdL_lines (V := pw (hdr s).2.2.1) (n := (hdr s).2.2.2.1) s.size ⟨(hdr s).1, (hdr s).2.1 || !(isLn (pk s (hdr s).1 (hdr s).2.1)), []⟩ hI2 (by unfold lft; split <;> simp) h.1 (by
    have h2 := h.2
    unfold cod rdLs at h2 hle
    dsimp only at h2 hle
    omega)
  refine ⟨ls, ?_⟩
  have e2 : (cod s).cs = cs.map (fix1 cs.length) := by
    unfold cod rdLs fixE
    dsimp only
    rw [e]; simp
  rw [e2]
  exact hL.fix

theorem LnsAt.len {s : ByteArray} {V : Int} {n : Nat} : ∀ {p : Nat} {cs : List Cm} {ls : List ByteArray}, LnsAt s V n p cs ls → ls.length = cs.length
  | _, [], [], _ => rfl
  | _, _ :: _, _ :: _, ⟨_, _, _, _, h5⟩ => by simp [h5.len]
theorem LnsAt.get {s : ByteArray} {V : Int} {n : Nat} : ∀ {p : Nat} {cs : List Cm} {ls : List ByteArray} {i : Nat} {c : Cm}, LnsAt s V n p cs ls → cs[i]? = some c → ∃ l, ls[i]? = some l ∧ LnT V n c l.data.toList
  | _, [], [], _, _, _, h => by simp at h
  | _, _ :: _, _ :: _, 0, _, ⟨_, _, _, h4, _⟩, h => by
    simp at h; subst h
    exact ⟨_, rfl, h4⟩
  | _, _ :: _, _ :: _, i + 1, _, ⟨_, _, _, _, h5⟩, h => by
    simp at h
    obtain ⟨l, e, hl⟩ := h5.get h
    exact ⟨l, by simpa using e, hl⟩
end Go.Proofs.YtnkbfdbbcaffmaaGreatDoor
