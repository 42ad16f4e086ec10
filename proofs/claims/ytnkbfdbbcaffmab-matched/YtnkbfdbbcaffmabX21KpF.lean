import Derived.Test.YtnkbfdbbcaffmabX18KpE
import Derived.Test.YtnkbfdbbcaffmabX20RunM
/-
  How a run begins; Body, ended, sameInts, begins, alikeEnds.
-/
namespace Go.Proofs.Ytnkbfdbbcaffmab
open Go.RowKit

/-- The byte that a command shows first; 0: it shows none. -/
def shB (σ : List Int) (c : Cm) : Int :=
  if c.kind = 61 then (if isDiv c.op = true then (if vl σ c.yn c.yv.toNat = 0 then 120 else 118) else 0)
  else if c.kind = 108 ∨ c.kind = 115 then 109
  else if vl σ c.xn c.xv.toNat = 0 then 102 else 116

theorem shB_ev (view : Int) (σ : List Int) (m : Nat) (c : Cm) (h4 : ¬ (c.kind = 106 ∨ c.kind = 104)) : shB σ c = 0 ∨ ∃ t, flatE view (evOf σ m c) = shB σ c :: t := by
  unfold shB evOf
  split
  · split
    · exact .inr ⟨_, by simp [flatE, evB]; rfl⟩
    · exact .inl rfl
  · split
    · exact .inr ⟨_, by simp [flatE, evB]; rfl⟩
    · right
      split <;> rename_i h <;> exact ⟨[], by simp [flatE, evB, Ev.tf, h]⟩

theorem Does.noJump {V : Int} {n : Nat} {c : Cm} {t a b : List UInt8} (h : Does V n c t a b) : ¬ (c.kind = 106 ∨ c.kind = 104) := by
  rcases h with ⟨v, x, o, y, r, rfl, rfl, hk, _, _, _, _⟩ | ⟨v, x, r, rfl, rfl, hk, _, _⟩ | ⟨x, y, r, rfl, rfl, hk, _, _⟩ | ⟨x, A, B, r, rfl, rfl, rfl, hk, _, _, _⟩ | ⟨x, A, r, rfl, rfl, rfl, hk, _, _⟩ <;> omega

/-- A run begins as its first command says. -/
def Starts (V : Int) (n : Nat) (B : List UInt8) (zs : List Int) (fuel : Nat) (R : Res) : Prop :=
  (B = [] ∧ R = ⟨1, 0, [], zs⟩) ∨ (B ≠ [] ∧ fuel = 0 ∧ R = ⟨3, 0, [], zs⟩) ∨ (0 < fuel ∧ 0 < R.steps ∧ ∃ c a b, Does V n c B a b ∧ (shB zs c = 0 ∨ ∃ t, R.sn = shB zs c :: t))

section
variable {s ks : ByteArray} {W n m : Nat}
theorem KOK.first (h : KOK s ks W n m) : (Lft s (3 + n + m) = [] ∧ (krn s).cs = []) ∨ ∃ c a b, (krn s).cs[0]? = some c ∧ Does (pw W) n c (Lft s (3 + n + m)) a b := by
  obtain ⟨κ, h0, he, hf, _⟩ := krn_flow s h.size h.good
  rw [h.at_] at h0
  rw [h.wid, h.vars] at hf
  by_cases hl : (krn s).cs.length = 0
  · left
    rw [hl, h0] at he
    exact ⟨he, List.eq_nil_of_length_eq_zero hl⟩
  · right
    obtain ⟨c, y, o, hc, _, _, _, _, _, _, hd⟩ := hf 0 (Nat.le_refl _) (by omega)
    rw [h0] at hd
    exact ⟨c, _, _, hc, hd⟩

theorem KOK.starts (h : KOK s ks W n m) (view : Int) (zs : List Int) (f : Nat) : Starts (pw W) n (Lft s (3 + n + m)) zs f (runP (pw W) view n m f (krn s).cs (f + 1) 0 zs [] 0) := by
  rcases h.first with ⟨h1, h2⟩ | ⟨c, a, b, hc, hd⟩
  · left
    refine ⟨h1, ?_⟩
    rw [runP_none]
    rw [h2]; rfl
  · right
    have hc' : (krn s).cs[(0 : Int).toNat]? = some c := hc
    have hne : Lft s (3 + n + m) ≠ [] := by
      intro e
      have := hd.pos
      rw [e] at this; simp at this
    by_cases hf : f ≤ 0
    · left
      exact ⟨hne, by omega, runP_dry _ _ _ _ _ hc' hf⟩
    · right
      refine ⟨by omega, ?_⟩
      by_cases ht : (act (pw W) view n m zs c).2.2.1 = true
      · rw [runP_trap _ _ _ _ _ hc' hf ht]
        refine ⟨by simp, c, a, b, hd, ?_⟩
        rw [List.nil_append, act_ev]
        exact shB_ev view zs m c hd.noJump
      · rw [runP_step _ _ _ _ _ hc' hf ht]
        obtain ⟨g1, t, g2⟩ := runP_mono (pw W) view n m (krn s).cs f f (act (pw W) view n m zs c).2.2.2 (act (pw W) view n m zs c).1 ([] ++ (act (pw W) view n m zs c).2.1) (0 + 1)
        refine ⟨by omega, c, a, b, hd, ?_⟩
        rw [g2, List.nil_append, act_ev]
        rcases shB_ev view zs m c hd.noJump with e | ⟨u, e⟩
        · exact .inl e
        · exact .inr ⟨u ++ t, by rw [e]; rfl⟩

theorem KOK.long (h : KOK s ks W n m) : 3 + ks.size ≤ s.size := by
  have hf := head_facts (krn_head h.good)
  obtain ⟨_, _, _, _, _, h5, _⟩ := hf
  rw [h.vars, h.words] at h5
  have := h.kinds
  omega
end

set_option maxHeartbeats 2000000 in
theorem Body_any (s ks : ByteArray) (W n : Int) (hs : s.size ≤ 300) (hk : 3 + ks.size ≤ s.size) (w : World) :
    Calls Try.prog 26 #[.agg #[.string s, .string ks, .int .i64 W, .int .i64 n]] w fun e w' => ∃ b : ByteArray, e = .returned (.string b) ∧ b.data.toList = Lft s (3 + ks.size) ∧ Below w.heap.size w w' := by
  have hd : decide ((s.size : Int) < 3 + (ks.size : Int)) = false := by simp; omega
  have hx := ext_list s (3 + ks.size)
  go_enter Try.func26, Try.ntmps26
  go_wp2_with fail
  go_ret
  exact ⟨_, rfl, hx, (Below.refl _ _).alloc (Nat.le_refl _) _⟩

set_option maxHeartbeats 2000000 in
theorem ended_any (s ks : ByteArray) (W n : Int) (tag steps : Int) (str : ByteArray) (st : Option Addr) (L cap : Nat) (ht : tag = 1 ∨ tag = 2 ∨ tag = 3) (hL : ks.size = L) (hL2 : L ≤ 100) (w : World) :
    Calls Try.prog 11 #[.agg #[.string s, .string ks, .int .i64 W, .int .i64 n], .agg #[.int .i64 tag, .int .i64 steps, .string str, .slice st L cap], .int .i64 0] w fun e w' => e = .returned (.bool true) ∧ Below w.heap.size w w' := by
  subst hL
  rcases ht with rfl | rfl | rfl
  all_goals
    go_enter Try.func11, Try.ntmps11
    go_wp2_with fail
    go_ret
    exact ⟨rfl, ((Below.refl _ _).alloc (Nat.le_refl _) _).alloc (by simp) _⟩

set_option maxHeartbeats 1000000 in
theorem sameInts_gen (a1 a2 : Option Addr) (c1 c2 : Nat) (zs ys : List Int) (hle : ys.length = zs.length) (hl : zs.length ≤ 9223372036854775807) (w : World) (h1 : LiesO w a1 zs) (h2 : LiesO w a2 ys) :
    Calls Try.prog 27 #[.slice a1 zs.length c1, .slice a2 zs.length c2] w fun e w' => ∃ bb, e = .returned (.bool bb) ∧ (zs = ys → bb = true) ∧ Below w.heap.size w w' := by
  have H1 := hide h1
  have H2 := hide h2
  clear h1 h2
  go_enter Try.func27, Try.ntmps27
  go_wp2_with fail
  go_loopw [5] (fun i wr => ∃ k : Nat, i = .int .i64 k ∧ k ≤ zs.length ∧ ∃ j, wr = w.drewN j) (fun i _ => zs.length - (intOf i).toNat)
  case atStart => exact ⟨0, rfl, Nat.zero_le _, 0, rfl⟩
  case round =>
    obtain ⟨k, rfl, hk, j, rfl⟩ := hrel
    by_cases hlt : k < zs.length
    · rcases unhide H1 with hn | ⟨ab, off, rfl, hL1, _⟩
      · rw [hn] at hlt; simp at hlt
      rcases unhide H2 with hn | ⟨ab2, off2, rfl, hL2, _⟩
      · rw [hn] at hle; simp at hle; omega
      have q1 := hL1.at_ k hlt
      have q2 := hL2.at_ k (by omega)
      clear hL1 hL2
      have hlI : (k : Int) < (zs.length : Int) := by omega
      by_cases hq : zs.getD k 0 = ys.getD k 0
      · rw [← hq] at q2
        clear hq
        generalize zs.getD k 0 = z at *
        go_wp2_with fail
        go_quiet (fail)
        go_wp2_with fail
        go_roundw
        case rel => exact ⟨k + 1, by go_num, by omega, _, rfl⟩
        case measure => simp [intOf]; omega
      · have Hq := hide (show zs = ys → False from fun e => hq (by rw [e]))
        have hq2 : (zs.getD k 0 != ys.getD k 0) = true := by simpa using hq
        clear hq
        generalize zs.getD k 0 = z at *
        generalize ys.getD k 0 = y at *
        go_wp2_with fail
        go_quiet (fail)
        go_wp2_with fail
        go_ret
        exact ⟨false, rfl, fun e => (unhide Hq e).elim, below_drewN (below_drewN (Below.refl _ _) _) _⟩
    · go_wp2_with fail
      go_ret
      exact ⟨true, rfl, fun _ => rfl, below_drewN (Below.refl _ _) _⟩
end Go.Proofs.Ytnkbfdbbcaffmab
/-
  alikeEnds, begins, value, shown, shows, starts.
-/
namespace Go.Proofs.Ytnkbfdbbcaffmab
open Go.RowKit

set_option maxHeartbeats 2000000 in
theorem begins_any (s t : ByteArray) (h : s.extract 0 t.size = t) (hl : t.size ≤ s.size) (w : World) :
    Calls Try.prog 12 #[.string s, .string t] w fun e w' => e = .returned (.bool true) ∧ Below w.heap.size w w' := by
  go_enter Try.func12, Try.ntmps12
  go_wp2_with fail
  go_ret
  exact ⟨rfl, Below.refl _ _⟩

theorem sh_pw (W : Nat) (h : W ≤ 8) : wrap64 (2 ^ W) = pw W := by
  have hb := pw_bd W h
  have e : ∀ k : Nat, (2 : Int) ^ k = pw k := by
    intro k
    induction k with
    | zero => rfl
    | succ k ih => rw [Int.pow_succ, ih]; rfl
  rw [e W]
  unfold wrap64
  omega

set_option maxHeartbeats 2000000 in
theorem kvalue_any (s ks : ByteArray) (W : Nat) (n : Int) (hW1 : 1 ≤ W) (hW : W ≤ 8) (ao : Option Addr) (cin : Nat) (zs : List Int) (hz : zs.length ≤ 100) (c : UInt8) (h0 : 48 ≤ (c.toNat : Int)) (h1 : 97 ≤ (c.toNat : Int) → ((c.toNat : Int) - 97).toNat < zs.length) (w : World) (hL : LiesO w ao zs) :
    Calls Try.prog 65 #[.agg #[.string s, .string ks, .int .i64 W, .int .i64 n], .slice ao zs.length cin, .int .u8 c.toNat] w fun e w' => e = .returned (.int .i64 (vb (pw W) zs c.toNat)) ∧ Below w.heap.size w w' := by
  have hpw := sh_pw W hW
  have hpb := pw_bd W hW
  by_cases hc : 97 ≤ (c.toNat : Int)
  · have hk := h1 hc
    obtain ⟨k, hkk⟩ : ∃ k : Nat, (c.toNat : Int) = 97 + k := ⟨((c.toNat : Int) - 97).toNat, by omega⟩
    have hk2 : k < zs.length := by omega
    rcases hL with hn | ⟨ab, off, rfl, hLL, hab⟩
    · rw [hn] at hk2; simp at hk2
    have q := hLL.at_ k hk2
    have hv : vb (pw W) zs c.toNat = zs.getD k 0 := by
      unfold vb; rw [if_pos hc]; congr 1; omega
    rw [hv]
    generalize zs.getD k 0 = z at *
    clear hv hLL
    have hlI : (k : Int) < (zs.length : Int) := by omega
    have hi : (c.toNat : Int) - 97 = k := by omega
    have Hh := hide h0
    rw [hkk]
    clear hi h1 hk hc h0
    go_enter Try.func65, Try.ntmps65
    go_wp2_with fail
    go_ret
    exact ⟨rfl, (Below.refl _ _).alloc (Nat.le_refl _) _⟩
  · have hv : vb (pw W) zs c.toNat = pck ((c.toNat : Int) - 48) (pw W) := by
      unfold vb pck; rw [if_neg hc, if_neg (by omega)]
    rw [hv]
    have hp := hide (fun w0 => pick_any ((c.toNat : Int) - 48) (pw W) (by omega) (by omega) (by unfold inI; omega) w0)
    generalize pck ((c.toNat : Int) - 48) (pw W) = r at *
    clear hv
    go_enter Try.func65, Try.ntmps65
    go_wp2_with fail
    refine (unhide hp _).mono ?_
    rintro e w1 ⟨rfl, rfl⟩
    go_wp2_with fail
    go_ret
    exact ⟨rfl, (Below.refl _ _).alloc (Nat.le_refl _) _⟩
end Go.Proofs.Ytnkbfdbbcaffmab
