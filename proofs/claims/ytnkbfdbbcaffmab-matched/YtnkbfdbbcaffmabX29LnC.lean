import Derived.Test.YtnkbfdbbcaffmabX26LnS
import Derived.Test.YtnkbfdbbcaffmabX11Kern
import Derived.Test.YtnkbfdbbcaffmabX15Mk
import Derived.Test.YtnkbfdbbcaffmabX13Flow
/-
  ReadCode.
-/
namespace Go.Proofs.Ytnkbfdbbcaffmab
open Go.RowKit

/-- A code as it is read. -/
def codP (s : ByteArray) : Pg :=
  if 1000 < s.size then ⟨1, 0, ⟨#[]⟩, 0, 0, 0, 0, []⟩
  else if codBad s = true then ⟨2, (cod s).p, ⟨#[]⟩, 0, 0, 0, 0, []⟩
  else if 0 ≤ stray (cod s).cs then ⟨3, stray (cod s).cs, ⟨#[]⟩, 0, 0, 0, 0, []⟩
  else ⟨0, 0, s.extract 0 (hdr s).1, (hdr s).2.2.1, pw (hdr s).2.2.1, (hdr s).2.2.2.1, (hdr s).2.2.2.2, (cod s).cs⟩

set_option maxHeartbeats 2000000 in
theorem readCode_pg (s : ByteArray) (hmx : s.size ≤ maxLen) (w : World) :
    Calls Try.prog 25 #[.string s] w fun e w' => ∃ ao cap, e = .returned ((codP s).val ao cap) ∧ Below w.heap.size w w' ∧ Own w' (w.heap.size + 1) (.slice ao (codP s).cs.length cap) (codP s).cs := by
  have hmx' := hmx
  unfold maxLen at hmx'
  have hqq : codP s = if 1000 < s.size then ⟨1, 0, ⟨#[]⟩, 0, 0, 0, 0, []⟩
    else if codBad s = true then ⟨2, (cod s).p, ⟨#[]⟩, 0, 0, 0, 0, []⟩
    else if 0 ≤ stray (cod s).cs then ⟨3, stray (cod s).cs, ⟨#[]⟩, 0, 0, 0, 0, []⟩
    else ⟨0, 0, s.extract 0 (hdr s).1, (hdr s).2.2.1, pw (hdr s).2.2.1, (hdr s).2.2.2.1, (hdr s).2.2.2.2, (cod s).cs⟩ := rfl
  generalize codP s = q at *
  by_cases hbig : 1000 < s.size
  · rw [if_pos hbig] at hqq
    have Hq := hide hqq
    clear hqq
    go_enter Try.func25, Try.ntmps25
    go_wp2_with fail
    refine bodyPost_ret (v := .agg #[.int .i64 1, .int .i64 0, .string ⟨#[]⟩, .int .i64 0, .int .i64 0, .int .i64 0, .int .i64 0, .slice none 0 0]) (by simp [results, Try.results25, go_sem]) rfl ⟨none, 0, by rw [unhide Hq]; rfl, ?_, by rw [unhide Hq]; exact World.ownsRow_nil _ _ _ _⟩
    exact (Below.refl _ _).alloc (Nat.le_refl _) _
  · rw [if_neg hbig] at hqq
    have hsm : s.size ≤ 1000 := by omega
    have hvr := hdr_vars s
    have hpw := pw_bd _ (hdr_wid s).2
    have hI : Inv s ⟨(hdr s).1, (hdr s).2.1, []⟩ := ⟨Nat.zero_le _, hdr_le s⟩
    have hbody := fun w1 h => readLines_any (b := w.heap.size + 1) (s := s) (ht := s.extract 0 (hdr s).1) (hw := (hdr s).2.2.1) (hv := pw (hdr s).2.2.1) (hn := (hdr s).2.2.2.1) (hm := (hdr s).2.2.2.2) hsm (by omega) (by omega) hpw.1 hpw.2 (hdr s).1 (hdr s).2.1 w1 h hI
    have hkp := cod_le s
    have hkl := cod_len s
    rw [show rdLs s (pw (hdr s).2.2.1) (hdr s).2.2.2.1 ⟨(hdr s).1, (hdr s).2.1, []⟩ = cod s from rfl] at hbody
    unfold Reads at hbody
    have Hb := hide hbody
    have hkb : codBad s = ((cod s).bad || decide ((cod s).p < s.size)) := rfl
    have hsb := stray_bd (cod s).cs
    clear hbody hI hvr hpw
    generalize hH : hdr s = H at *
    obtain ⟨hp, hb, hW, hN, hM⟩ := H
    have HH := hide hH
    clear hH
    dsimp only at *
    have Hkb := hide hkb
    clear hkb
    generalize hK : cod s = K at *
    obtain ⟨kp, kb, kcs⟩ := K
    clear hK
    dsimp only at *
    generalize hV : pw hW = V at *
    have HV := hide hV
    clear hV
    generalize hB : codBad s = B at *
    have Hq := hide hqq
    clear hB hqq
    obtain ⟨hsb1, hsb2⟩ := hsb
    go_enter Try.func25, Try.ntmps25
    go_wp2_with fail
    refine (readHead_any (b := w.heap.size + 1) (s := s) (ht := ⟨#[]⟩) (hw := 0) (hv := 0) (hn := 0) (hm := 0) (cv := .slice none 0 0) (by
      have := At.new (w.alloc (.cells #[.int .i64 0, .int .i64 0, .string ⟨#[]⟩, .int .i64 0, .int .i64 0, .int .i64 0, .int .i64 0, .slice none 0 0] 56)) 67 #[.string s, .int .i64 0, .bool false, .string ⟨#[]⟩, .int .i64 0, .int .i64 0, .int .i64 0, .int .i64 0, .slice none 0 0]
      simpa [Rd] using this) hmx).mono ?_
    rintro e w1 ⟨rfl, hR1, hg1⟩
    rw [unhide HH] at hR1
    dsimp only at hR1
    rw [unhide HV] at hR1
    have hA1 := At.grown (At.alloc (At.new w 56 #[.int .i64 0, .int .i64 0, .string ⟨#[]⟩, .int .i64 0, .int .i64 0, .int .i64 0, .int .i64 0, .slice none 0 0]) _) hg1 (by simp)
    have hB1 := gb_below hg1 (by simp)
    have HA1 := hide hA1
    have HB1 := hide (((Below.refl w.heap.size w).alloc (Nat.le_refl _) _).alloc (by simp) _ |>.trans (hB1.mono (Nat.le_succ _)))
    clear hA1 hB1
    go_wp2_with fail
    have hS1 : Stt w1 (w.heap.size + 1) s (s.extract 0 hp) hW V hN hM ⟨hp, hb, []⟩ := ⟨_, hR1, World.ownsRow_nil w1 _ _ _⟩
    refine (unhide Hb w1 hS1).mono ?_
    rintro e w2 ⟨rfl, ⟨cv, hR2, hO2⟩, hB2⟩
    dsimp only at hR2 hO2
    have hA2 : At w2 w.heap.size 56 #[.int .i64 0, .int .i64 0, .string ⟨#[]⟩, .int .i64 0, .int .i64 0, .int .i64 0, .int .i64 0, .slice none 0 0] := (unhide HA1).below hB2 (Nat.lt_succ_self _)
    have hBB := (unhide HB1).trans (hB2.mono (Nat.le_succ _))
    obtain ⟨ao, cap, rfl⟩ := hO2.shape
    obtain ⟨c0, c1, c2, c3, c4, c5, c6, c7, c8, cf⟩ := At.nine hR2
    obtain ⟨r0, r1, r2, r3, r4, r5, r6, r7, rf⟩ := At.eight hA2
    clear HA1 HB1 hA2 hR1 hS1
    cases kb with
    | true =>
      have HB : Hid (B = true) := by rw [unhide Hkb]; rfl
      have hq2 := unhide Hq
      rw [if_pos (unhide HB)] at hq2
      have Hq2 := hide hq2
      clear hq2
      go_wp2_with fail
      refine bodyPost_ret (v := .agg #[.int .i64 2, .int .i64 kp, .string ⟨#[]⟩, .int .i64 0, .int .i64 0, .int .i64 0, .int .i64 0, .slice none 0 0]) (by simp [results, Try.results25, go_sem, r0, r1, r2, r3, r4, r5, r6, r7]) rfl ⟨none, 0, by rw [unhide Hq2]; rfl, ?_, by rw [unhide Hq2]; exact World.ownsRow_nil _ _ _ _⟩
      exact bset8 hBB _ _ _ _ _ _ _ _
    | false =>
      by_cases hlt : kp < s.size
      · have HB : Hid (B = true) := by rw [unhide Hkb]; simp [Hid, hlt]
        have hq2 := unhide Hq
        rw [if_pos (unhide HB)] at hq2
        have Hq2 := hide hq2
        clear hq2
        go_wp2_with fail
        refine bodyPost_ret (v := .agg #[.int .i64 2, .int .i64 kp, .string ⟨#[]⟩, .int .i64 0, .int .i64 0, .int .i64 0, .int .i64 0, .slice none 0 0]) (by simp [results, Try.results25, go_sem, r0, r1, r2, r3, r4, r5, r6, r7]) rfl ⟨none, 0, by rw [unhide Hq2]; rfl, ?_, by rw [unhide Hq2]; exact World.ownsRow_nil _ _ _ _⟩
        exact bset8 hBB _ _ _ _ _ _ _ _
      · have HB : Hid (B = false) := by rw [unhide Hkb]; simp [Hid, hlt]
        have hq2 := unhide Hq
        rw [if_neg (by rw [unhide HB]; simp)] at hq2
        have HO2 := hide hO2
        clear hO2
        by_cases hst : 0 ≤ stray kcs
        · rw [if_pos hst] at hq2
          have Hq2 := hide hq2
          clear hq2
          have hcall := hide (strayLine_any w2 _ ao cap kcs (by omega) (unhide HO2))
          generalize stray kcs = sl at *
          go_wp2_with fail
          refine (unhide hcall).mono ?_
          rintro e w3 ⟨rfl, j, rfl⟩
          go_wp2_with fail
          refine bodyPost_ret (v := .agg #[.int .i64 3, .int .i64 sl, .string ⟨#[]⟩, .int .i64 0, .int .i64 0, .int .i64 0, .int .i64 0, .slice none 0 0]) (by simp [results, Try.results25, go_sem, r0, r1, r2, r3, r4, r5, r6, r7]) rfl ⟨none, 0, by rw [unhide Hq2]; rfl, ?_, by rw [unhide Hq2]; exact World.ownsRow_nil _ _ _ _⟩
          exact bset8 (below_drewN hBB j) _ _ _ _ _ _ _ _
        · rw [if_neg hst] at hq2
          have Hq2 := hide hq2
          have hst2 : decide (0 ≤ stray kcs) = false := by simpa using hst
          clear hq2 hst
          have hcall := hide (strayLine_any w2 _ ao cap kcs (by omega) (unhide HO2))
          generalize stray kcs = sl at *
          go_wp2_with fail
          refine (unhide hcall).mono ?_
          rintro e w3 ⟨rfl, j, rfl⟩
          go_wp2_with fail
          refine bodyPost_ret (v := .agg #[.int .i64 0, .int .i64 0, .string (s.extract 0 hp), .int .i64 hW, .int .i64 V, .int .i64 hN, .int .i64 hM, .slice ao kcs.length cap]) (by simp [results, Try.results25, go_sem, r0, r1, r2, r3, r4, r5, r6, r7]) rfl ⟨ao, cap, by rw [unhide Hq2]; rfl, ?_, ?_⟩
          · exact bset8 (below_drewN hBB j) _ _ _ _ _ _ _ _
          · rw [unhide Hq2]
            exact oset8 (show Own (w2.drewN j) _ _ _ from unhide HO2) _ _ _ _ _ _ _ _

theorem cod_ok {s : ByteArray} (h : (codP s).e = 0) : ¬ 1000 < s.size ∧ codBad s = false ∧ stray (cod s).cs = -1 ∧ codP s = ⟨0, 0, s.extract 0 (hdr s).1, (hdr s).2.2.1, pw (hdr s).2.2.1, (hdr s).2.2.2.1, (hdr s).2.2.2.2, (cod s).cs⟩ := by
  unfold codP at *
  by_cases h1 : 1000 < s.size
  · rw [if_pos h1] at h; cases h
  · rw [if_neg h1] at h ⊢
    by_cases h2 : codBad s = true
    · rw [if_pos h2] at h; cases h
    · rw [if_neg h2] at h ⊢
      by_cases h3 : 0 ≤ stray (cod s).cs
      · rw [if_pos h3] at h; cases h
      · have := stray_bd (cod s).cs
        rw [if_neg h3]
        exact ⟨h1, by simpa using h2, by omega, rfl⟩
end Go.Proofs.Ytnkbfdbbcaffmab
/-
  Lines and their texts. (No walk here.)
-/
namespace Go.Proofs.Ytnkbfdbbcaffmab
open Go.RowKit

/-- How long a line is, by its first byte. -/
def szc (c : Int) : Nat := if c = 61 then 5 else if c = 108 then 3 else if c = 115 then 3 else if c = 106 then 3 else if c = 122 then 4 else 1

/-- A digit to the base 16. -/
def IsHx (a : UInt8) (v : Int) : Prop := (48 ≤ (a.toNat : Int) ∧ (a.toNat : Int) ≤ 57 ∧ v = (a.toNat : Int) - 48) ∨ (97 ≤ (a.toNat : Int) ∧ (a.toNat : Int) ≤ 102 ∧ v = (a.toNat : Int) - 87)

/-- A line and its text. -/
def LnT (V : Int) (n : Nat) (c : Cm) (t : List UInt8) : Prop :=
  (∃ v x o y : UInt8, t = [61, v, x, o, y] ∧ c.kind = 61 ∧ (v.toNat : Int) = 97 + c.var ∧ OpRel V n x c.xn c.xv ∧ (o.toNat : Int) = c.op ∧ OpRel V n y c.yn c.yv) ∨
  (∃ v x : UInt8, t = [108, v, x] ∧ c.kind = 108 ∧ (v.toNat : Int) = 97 + c.var ∧ OpRel V n x c.xn c.xv) ∨
  (∃ x y : UInt8, t = [115, x, y] ∧ c.kind = 115 ∧ OpRel V n x c.xn c.xv ∧ OpRel V n y c.yn c.yv) ∨
  (∃ (x a b : UInt8) (u v : Int), t = [122, x, a, b] ∧ c.kind = 122 ∧ OpRel V n x c.xn c.xv ∧ IsHx a u ∧ IsHx b v ∧ c.no = u * 16 + v) ∨
  (∃ (a b : UInt8) (u v : Int), t = [106, a, b] ∧ c.kind = 106 ∧ IsHx a u ∧ IsHx b v ∧ c.yes = u * 16 + v) ∨
  (t = [104] ∧ c.kind = 104)

theorem LnT.yes {V : Int} {n : Nat} {c : Cm} {t : List UInt8} (h : LnT V n c t) (hk : c.kind ≠ 106) (y : Int) : LnT V n { c with yes := y } t := by
  rcases h with h | h | h | h | ⟨_, _, _, _, _, h, _⟩ | h
  · exact .inl h
  · exact .inr (.inl h)
  · exact .inr (.inr (.inl h))
  · exact .inr (.inr (.inr (.inl h)))
  · exact absurd h hk
  · exact .inr (.inr (.inr (.inr (.inr h))))
theorem LnT.lcm {V : Int} {n : Nat} {c : Cm} {t : List UInt8} (h : LnT V n c t) (len : Nat) : LnT V n (lcm c len) t := by
  unfold Proofs.Ytnkbfdbbcaffmab.lcm
  by_cases hk : c.kind = 106
  · rw [if_pos hk]; exact h
  · rw [if_neg hk]; exact h.yes hk _
theorem LnT.fix {V : Int} {n : Nat} {c : Cm} {t : List UInt8} (h : LnT V n c t) (L : Int) : LnT V n (fix1 L c) t := by
  unfold fix1
  split
  · rename_i hk
    exact h.yes (by omega) _
  · exact h
theorem LnT.len {V : Int} {n : Nat} {c : Cm} {t : List UInt8} (h : LnT V n c t) : t.length = szc c.kind ∧ ∃ r, t = UInt8.ofNat c.kind.toNat :: r ∧ (UInt8.ofNat c.kind.toNat).toNat = c.kind.toNat := by
  rcases h with ⟨_, _, _, _, rfl, h, _⟩ | ⟨_, _, rfl, h, _⟩ | ⟨_, _, rfl, h, _⟩ | ⟨_, _, _, _, _, rfl, h, _⟩ | ⟨_, _, _, _, rfl, h, _⟩ | ⟨rfl, h⟩
  all_goals
    rw [h]
    exact ⟨rfl, _, rfl, rfl⟩

section
variable {s : ByteArray} {p : Nat} {a : Bool} {V : Int} {n : Nat}

theorem dgt_eat (h : (dgt s p a).2.1 = false) : a = false ∧ (dgt s p a).1 = p + 1 ∧ ∃ x, Lft s p = x :: Lft s (p + 1) ∧ IsHx x (dgt s p a).2.2 := by
  unfold dgt at *
  by_cases hr : 48 ≤ pk s p a ∧ pk s p a ≤ 57
  · rw [if_pos hr] at h ⊢
    dsimp only at *
    obtain ⟨h1, h2, x, h3, h4, h5, h6⟩ := tb_eat h
    exact ⟨h1, h2, x, h3, .inl ⟨h5, h6, by omega⟩⟩
  · rw [if_neg hr] at h ⊢
    dsimp only at *
    obtain ⟨h1, h2, x, h3, h4, h5, h6⟩ := tb_eat h
    exact ⟨h1, h2, x, h3, .inr ⟨h5, h6, by omega⟩⟩

theorem nmb_eat (h : (nmb s p a).2.1 = false) : a = false ∧ (nmb s p a).1 = p + 2 ∧ ∃ x y u v, Lft s p = x :: y :: Lft s (p + 2) ∧ IsHx x u ∧ IsHx y v ∧ (nmb s p a).2.2 = u * 16 + v := by
  unfold nmb at *
  dsimp only at *
  obtain ⟨h1, h2, y, h3, h4⟩ := dgt_eat h
  obtain ⟨h5, h6, x, h7, h8⟩ := dgt_eat h1
  refine ⟨h5, by omega, x, y, _, _, ?_, h8, h4, rfl⟩
  rw [h7, show p + 1 = (dgt s p a).1 from h6.symm, h3, h6]

theorem lft_first (hp : p < s.size) {k : UInt8} (hk : pk s p false = (k.toNat : Int)) : Lft s p = k :: Lft s (p + 1) := by
  unfold Lft
  rw [drop_at s p hp]
  rw [pk_at s p hp] at hk
  have : s[p] = k := by
    apply UInt8.toNat_inj.1
    omega
  rw [this]

theorem tlin_eat {k : Int} (hb : (tlin s p V n k).2.1 = false) (hp : p < s.size) (hk : pk s p false = k) (hl : isLn k = true) :
    ∃ T, Lft s p = T ++ Lft s (tlin s p V n k).1 ∧ LnT V n (tlin s p V n k).2.2 T ∧ (tlin s p V n k).1 = p + szc k := by
  simp [isLn] at hl
  unfold tlin at *
  by_cases k1 : k = 61
  · rw [if_pos k1] at hb ⊢
    subst k1
    unfold cmSet at hb ⊢
    dsimp only at *
    obtain ⟨a4, b4, y, l4, r4⟩ := opnd_eat hb
    obtain ⟨a3, b3, o, l3, r3, _⟩ := opn_eat a4
    obtain ⟨a2, b2, x, l2, r2⟩ := opnd_eat a3
    obtain ⟨a1, b1, v, l1, r1, _, _⟩ := tb_eat a2
    exact ⟨[61, v, x, o, y], by rw [lft_first hp (k := 61) hk, l1, ← b1, l2, ← b2, l3, ← b3, l4, ← b4]; rfl, .inl ⟨v, x, o, y, rfl, rfl, r1, r2, r3, r4⟩, by simp [szc]; omega⟩
  · rw [if_neg k1] at hb ⊢
    by_cases k2 : k = 108
    · rw [if_pos k2] at hb ⊢
      subst k2
      unfold cmLoad at hb ⊢
      dsimp only at *
      obtain ⟨a2, b2, x, l2, r2⟩ := opnd_eat hb
      obtain ⟨a1, b1, v, l1, r1, _, _⟩ := tb_eat a2
      exact ⟨[108, v, x], by rw [lft_first hp (k := 108) hk, l1, ← b1, l2, ← b2]; rfl, .inr (.inl ⟨v, x, rfl, rfl, r1, r2⟩), by simp [szc]; omega⟩
    · rw [if_neg k2] at hb ⊢
      by_cases k3 : k = 115
      · rw [if_pos k3] at hb ⊢
        subst k3
        unfold cmStore at hb ⊢
        dsimp only at *
        obtain ⟨a2, b2, y, l2, r2⟩ := opnd_eat hb
        obtain ⟨a1, b1, x, l1, r1⟩ := opnd_eat a2
        exact ⟨[115, x, y], by rw [lft_first hp (k := 115) hk, l1, ← b1, l2, ← b2]; rfl, .inr (.inr (.inl ⟨x, y, rfl, rfl, r1, r2⟩)), by simp [szc]; omega⟩
      · rw [if_neg k3] at hb ⊢
        by_cases k4 : k = 122
        · rw [if_pos k4] at hb ⊢
          subst k4
          unfold cmZero at hb ⊢
          dsimp only at *
          obtain ⟨a2, b2, x', y', u, v, l2, r2, r3, r4⟩ := nmb_eat hb
          obtain ⟨a1, b1, x, l1, r1⟩ := opnd_eat a2
          exact ⟨[122, x, x', y'], by rw [lft_first hp (k := 122) hk, l1, ← b1, l2, ← b2]; rfl, .inr (.inr (.inr (.inl ⟨x, x', y', u, v, rfl, rfl, r1, r2, r3, r4⟩))), by simp [szc]; omega⟩
        · rw [if_neg k4] at hb ⊢
          by_cases k5 : k = 106
          · rw [if_pos k5] at hb ⊢
            subst k5
            unfold cmJump at hb ⊢
            dsimp only at *
            obtain ⟨a2, b2, x', y', u, v, l2, r2, r3, r4⟩ := nmb_eat hb
            exact ⟨[106, x', y'], by rw [lft_first hp (k := 106) hk, l2, ← b2]; rfl, .inr (.inr (.inr (.inr (.inl ⟨x', y', u, v, rfl, rfl, r2, r3, r4⟩)))), by simp [szc]; omega⟩
          · obtain rfl : k = 104 := by omega
            rw [if_neg k5]
            unfold cmEnd
            dsimp only at *
            exact ⟨[104], by rw [lft_first hp (k := 104) hk]; rfl, .inr (.inr (.inr (.inr (.inr ⟨rfl, rfl⟩)))), rfl⟩

/-- From p on the text is these lines. -/
def LnsAt (s : ByteArray) (V : Int) (n : Nat) : Nat → List Cm → List ByteArray → Prop
  | p, [], [] => p = s.size
  | p, c :: cs, l :: ls => p < s.size ∧ p + szc (pk s p false) ≤ s.size ∧ l = s.extract p (p + szc (pk s p false)) ∧ LnT V n c l.data.toList ∧ LnsAt s V n (p + szc (pk s p false)) cs ls
  | _, _, _ => False

theorem LnsAt.fix {L : Int} : ∀ {p : Nat} {cs : List Cm} {ls : List ByteArray}, LnsAt s V n p cs ls → LnsAt s V n p (cs.map (fix1 L)) ls
  | _, [], [], h => h
  | _, _ :: _, _ :: _, ⟨h1, h2, h3, h4, h5⟩ => ⟨h1, h2, h3, h4.fix L, h5.fix⟩

theorem rdL_lines : ∀ (f : Nat) (st : PS), Inv s st → lft s st ≤ f → (rdL s V n f st).bad = false → (rdL s V n f st).p = s.size → ∃ cs ls, (rdL s V n f st).cs = st.cs ++ cs ∧ LnsAt s V n st.p cs ls
  | 0, st, _, _, _, hp => ⟨[], [], by simp [rdL], hp⟩
  | f + 1, st, h, hl, hb, hp => by
    unfold rdL at hb hp ⊢
    by_cases hc : isLn (pk s st.p st.bad) = true
    · rw [if_pos hc] at hb hp ⊢
      obtain ⟨nx, lx⟩ := ln1_nxt (hv := V) (hn := (n : Int)) h hc
      have n2 := rdL_nxt s V n f _ nx.2.2 (by omega)
      have hb1 := n2.1.back hb
      obtain ⟨hbad, hpl⟩ := isLn_pk hc
      obtain ⟨cs, ls, e, hL⟩ := rdL_lines f _ nx.2.2 (by omega) hb hp
      have hk : pk s st.p false = pk s st.p st.bad := by rw [hbad]
      obtain ⟨T, e1, e2, e3⟩ := tlin_eat (V := V) (n := n) hb1 hpl hk hc
      have e4 : (ln1 s V n st).p = st.p + szc (pk s st.p false) := by rw [hk]; exact e3
      have hle : st.p + szc (pk s st.p false) ≤ s.size := by rw [← e4]; exact nx.2.2.2
      have hT : T.length = szc (pk s st.p false) := by
        have h1 := congrArg List.length e1
        unfold Lft at h1
        rw [e3, List.length_append, List.length_drop, List.length_drop, ← size_list, ← hk] at h1
        omega
      have hex : (s.extract st.p (st.p + szc (pk s st.p false))).data.toList = T := by
        rw [ext_data]
        show (Lft s st.p).take _ = T
        rw [e1, show st.p + szc (pk s st.p false) - st.p = T.length from by omega]
        simp
      refine ⟨lcm (tlin s st.p V n (pk s st.p st.bad)).2.2 st.cs.length :: cs, s.extract st.p (st.p + szc (pk s st.p false)) :: ls, ?_, hpl, hle, rfl, ?_, ?_⟩
      · rw [e]; unfold ln1; simp
      · rw [hex]; exact e2.lcm _
      · rw [← e4]; exact hL
    · rw [if_neg hc] at hb hp ⊢
      exact ⟨[], [], by simp, hp⟩
end

theorem cod_head {s : ByteArray} (h : codBad s = false) : (hdr s).2.1 = false := by
  simp [codBad] at h
  exact (cod_nxt s).1.back h.1

theorem cod_lines (s : ByteArray) (h : codBad s = false) : ∃ ls, LnsAt s (pw (hdr s).2.2.1) (hdr s).2.2.2.1 (hdr s).1 (cod s).cs ls := by
  have hle := cod_le s
  simp [codBad] at h
  have hI2 : Inv s ⟨(hdr s).1, (hdr s).2.1 || !(isLn (pk s (hdr s).1 (hdr s).2.1)), []⟩ := ⟨Nat.zero_le _, hdr_le s⟩
  obtain ⟨cs, ls, e, hL⟩ := rdL_lines (V := pw (hdr s).2.2.1) (n := (hdr s).2.2.2.1) s.size ⟨(hdr s).1, (hdr s).2.1 || !(isLn (pk s (hdr s).1 (hdr s).2.1)), []⟩ hI2 (by unfold lft; split <;> simp) h.1 (by
    have h2 := h.2
    unfold cod rdLs at h2 hle
    dsimp only at h2 hle
    omega)
  refine ⟨ls, ?_⟩
  have e2 : (cod s).cs = cs.map (fix1 cs.length) := by
    unfold cod rdLs fixE
    dsimp only
    rw [e]; simp
  rw [e2]
  exact hL.fix

theorem LnsAt.len {s : ByteArray} {V : Int} {n : Nat} : ∀ {p : Nat} {cs : List Cm} {ls : List ByteArray}, LnsAt s V n p cs ls → ls.length = cs.length
  | _, [], [], _ => rfl
  | _, _ :: _, _ :: _, ⟨_, _, _, _, h5⟩ => by simp [h5.len]
theorem LnsAt.get {s : ByteArray} {V : Int} {n : Nat} : ∀ {p : Nat} {cs : List Cm} {ls : List ByteArray} {i : Nat} {c : Cm}, LnsAt s V n p cs ls → cs[i]? = some c → ∃ l, ls[i]? = some l ∧ LnT V n c l.data.toList
  | _, [], [], _, _, _, h => by simp at h
  | _, _ :: _, _ :: _, 0, _, ⟨_, _, _, h4, _⟩, h => by
    simp at h; subst h
    exact ⟨_, rfl, h4⟩
  | _, _ :: _, _ :: _, i + 1, _, ⟨_, _, _, _, h5⟩, h => by
    simp at h
    obtain ⟨l, e, hl⟩ := h5.get h
    exact ⟨l, by simpa using e, hl⟩
end Go.Proofs.Ytnkbfdbbcaffmab
