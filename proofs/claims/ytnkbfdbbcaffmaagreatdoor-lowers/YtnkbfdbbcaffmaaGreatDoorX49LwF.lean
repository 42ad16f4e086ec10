import Derived.Test.YtnkbfdbbcaffmaaGreatDoorX48LwE
import Derived.Test.YtnkbfdbbcaffmaaGreatDoorX36ExA
import Derived.Test.YtnkbfdbbcaffmaaGreatDoorX06Agree2
import Derived.Test.YtnkbfdbbcaffmaaGreatDoorX35LnC
/-
  What Lower tells is read as a code. (No walk here.)
-/
namespace Go.Proofs.YtnkbfdbbcaffmaaGreatDoor
open Go.RowKit

section
variable {t : ByteArray} {p : Nat} {V : Int} {n : Nat} {R : List UInt8} {x y : UInt8}

theorem lft_cons (h : Lft t p = x :: R) : p < t.size ∧ pk t p false = (x.toNat : Int) ∧ Lft t (p + 1) = R := by
  have hp : p < t.size := by
    by_cases hp : p < t.size
    · exact hp
    · unfold Lft at h
      rw [List.drop_of_length_le (by rw [← size_list]; omega)] at h
      cases h
  have h2 := h
  unfold Lft at h2 ⊢
  rw [drop_at t p hp] at h2
  simp at h2
  refine ⟨hp, ?_, h2.2⟩
  rw [pk_at t p hp, h2.1]

theorem tk_read (h : Lft t p = x :: R) {c : Int} (hc : (x.toNat : Int) = c) : tk t p false c = (p + 1, false) := by
  obtain ⟨hp, hk, _⟩ := lft_cons h
  unfold tk
  rw [if_neg (by simp), if_pos ⟨by omega, hp⟩]
theorem tb_read (h : Lft t p = x :: R) {lo hi : Int} (h1 : lo ≤ (x.toNat : Int)) (h2 : (x.toNat : Int) ≤ hi) : tb t p false lo hi = (p + 1, false, (x.toNat : Int) - lo) := by
  obtain ⟨hp, hk, _⟩ := lft_cons h
  unfold tb
  rw [hk, if_pos ⟨h1, h2⟩, tk_read h rfl]
theorem opnd_read (h : Lft t p = x :: R) {nm : Bool} {v : Int} (hx : OpRel V n x nm v) : opnd t p false V n = (p + 1, false, nm, v) := by
  obtain ⟨hp, hk, _⟩ := lft_cons h
  unfold opnd
  rw [hk]
  rcases hx with ⟨rfl, h1, h2, h3⟩ | ⟨rfl, h1, h2, h3⟩
  · rw [if_neg (by omega), tb_read h (by omega) (by omega)]
    simp only [Prod.mk.injEq, true_and]
    omega
  · rw [if_pos ⟨h1, h2⟩, tb_read h h1 h2, h3]
theorem opn_read (h : Lft t p = x :: R) (ho : isOp (x.toNat : Int) = true) : opn t p false = (p + 1, false, (x.toNat : Int)) := by
  obtain ⟨hp, hk, _⟩ := lft_cons h
  unfold opn
  rw [hk, if_pos ho, tk_read h rfl]
theorem dgt_read (h : Lft t p = x :: R) {u : Int} (hx : IsHx x u) : dgt t p false = (p + 1, false, u) := by
  obtain ⟨hp, hk, _⟩ := lft_cons h
  unfold dgt
  rw [hk]
  rcases hx with ⟨h1, h2, h3⟩ | ⟨h1, h2, h3⟩
  · rw [if_pos ⟨h1, h2⟩, tb_read h h1 h2, h3]
  · rw [if_neg (by omega), tb_read h h1 h2]
    simp only [Prod.mk.injEq, true_and]
    omega
theorem nmb_read (h : Lft t p = x :: y :: R) {u v : Int} (hx : IsHx x u) (hy : IsHx y v) : nmb t p false = (p + 2, false, u * 16 + v) := by
  have h2 := (lft_cons h).2.2
  unfold nmb
  rw [dgt_read h hx]
  dsimp only
  rw [dgt_read h2 hy]

/-- A line as takeCommand leaves it. -/
def RawL (V : Int) (n : Nat) (c : Cm) (T : List UInt8) : Prop :=
  (∃ v x o y : UInt8, T = [61, v, x, o, y] ∧ c = ⟨61, c.var, c.xn, c.xv, c.op, c.yn, c.yv, 0, 0, 0, 0⟩ ∧ (v.toNat : Int) = 97 + c.var ∧ 0 ≤ c.var ∧ c.var < n ∧ OpRel V n x c.xn c.xv ∧ (o.toNat : Int) = c.op ∧ isOp c.op = true ∧ OpRel V n y c.yn c.yv) ∨
  (∃ v x : UInt8, T = [108, v, x] ∧ c = ⟨108, c.var, c.xn, c.xv, 0, false, 0, 0, 0, 0, 0⟩ ∧ (v.toNat : Int) = 97 + c.var ∧ 0 ≤ c.var ∧ c.var < n ∧ OpRel V n x c.xn c.xv) ∨
  (∃ x y : UInt8, T = [115, x, y] ∧ c = ⟨115, 0, c.xn, c.xv, 0, c.yn, c.yv, 0, 0, 0, 0⟩ ∧ OpRel V n x c.xn c.xv ∧ OpRel V n y c.yn c.yv) ∨
  (∃ (x a b : UInt8) (u v : Int), T = [122, x, a, b] ∧ c = ⟨122, 0, c.xn, c.xv, 0, false, 0, 0, u * 16 + v, 0, 0⟩ ∧ OpRel V n x c.xn c.xv ∧ IsHx a u ∧ IsHx b v) ∨
  (∃ (a b : UInt8) (u v : Int), T = [106, a, b] ∧ c = ⟨106, 0, false, 0, 0, false, 0, u * 16 + v, 0, 0, 0⟩ ∧ IsHx a u ∧ IsHx b v) ∨
  (T = [104] ∧ c = ⟨104, 0, false, 0, 0, false, 0, 0, 0, 0, 0⟩)

theorem tlin_read {c : Cm} {T : List UInt8} (hc : RawL V n c T) (h : Lft t p = T ++ R) : isLn (pk t p false) = true ∧ tlin t p V n (pk t p false) = (p + T.length, false, c) ∧ Lft t (p + T.length) = R := by
  rcases hc with ⟨v, x, o, y, rfl, hcc, hv, hv0, hv1, hx, ho, hio, hy⟩ | ⟨v, x, rfl, hcc, hv, hv0, hv1, hx⟩ | ⟨x, y, rfl, hcc, hx, hy⟩ | ⟨x, a, b, u, v, rfl, hcc, hx, ha, hb⟩ | ⟨a, b, u, v, rfl, hcc, ha, hb⟩ | ⟨rfl, hcc⟩
  · have l0 : Lft t p = 61 :: v :: x :: o :: y :: R := h
    obtain ⟨_, k0, l1⟩ := lft_cons l0
    obtain ⟨_, _, l2⟩ := lft_cons l1
    obtain ⟨_, _, l3⟩ := lft_cons l2
    obtain ⟨_, _, l4⟩ := lft_cons l3
    obtain ⟨_, _, l5⟩ := lft_cons l4
    have k0' : pk t p false = 61 := k0
    rw [k0']
    refine ⟨rfl, ?_, l5⟩
    unfold tlin
    rw [if_pos rfl]
    unfold cmSet
    rw [tb_read l1 (by omega) (by omega)]
    dsimp only
    rw [opnd_read l2 hx]
    dsimp only
    rw [opn_read l3 (by rw [ho]; exact hio)]
    dsimp only
    rw [opnd_read l4 hy, hcc]
    dsimp only
    rw [ho, show (v.toNat : Int) - 97 = c.var from by omega]
    rfl
  · have l0 : Lft t p = 108 :: v :: x :: R := h
    obtain ⟨_, k0, l1⟩ := lft_cons l0
    obtain ⟨_, _, l2⟩ := lft_cons l1
    obtain ⟨_, _, l3⟩ := lft_cons l2
    have k0' : pk t p false = 108 := k0
    rw [k0']
    refine ⟨rfl, ?_, l3⟩
    unfold tlin
    rw [if_neg (by decide), if_pos rfl]
    unfold cmLoad
    rw [tb_read l1 (by omega) (by omega)]
    dsimp only
    rw [opnd_read l2 hx, hcc]
    dsimp only
    rw [show (v.toNat : Int) - 97 = c.var from by omega]
    rfl
  · have l0 : Lft t p = 115 :: x :: y :: R := h
    obtain ⟨_, k0, l1⟩ := lft_cons l0
    obtain ⟨_, _, l2⟩ := lft_cons l1
    obtain ⟨_, _, l3⟩ := lft_cons l2
    have k0' : pk t p false = 115 := k0
    rw [k0']
    refine ⟨rfl, ?_, l3⟩
    unfold tlin
    rw [if_neg (by decide), if_neg (by decide), if_pos rfl]
    unfold cmStore
    rw [opnd_read l1 hx]
    dsimp only
    rw [opnd_read l2 hy, hcc]
    rfl
  · have l0 : Lft t p = 122 :: x :: a :: b :: R := h
    obtain ⟨_, k0, l1⟩ := lft_cons l0
    obtain ⟨_, _, l2⟩ := lft_cons l1
    obtain ⟨_, _, l3⟩ := lft_cons l2
    obtain ⟨_, _, l4⟩ := lft_cons l3
    have k0' : pk t p false = 122 := k0
    rw [k0']
    refine ⟨rfl, ?_, l4⟩
    unfold tlin
    rw [if_neg (by decide), if_neg (by decide), if_neg (by decide), if_pos rfl]
    unfold cmZero
    rw [opnd_read l1 hx]
    dsimp only
    rw [nmb_read l2 ha hb, hcc]
    rfl
  · have l0 : Lft t p = 106 :: a :: b :: R := h
    obtain ⟨_, k0, l1⟩ := lft_cons l0
    obtain ⟨_, _, l2⟩ := lft_cons l1
    obtain ⟨_, _, l3⟩ := lft_cons l2
    have k0' : pk t p false = 106 := k0
    rw [k0']
    refine ⟨rfl, ?_, l3⟩
    unfold tlin
    rw [if_neg (by decide), if_neg (by decide), if_neg (by decide), if_neg (by decide), if_pos rfl]
    unfold cmJump
    rw [nmb_read l1 ha hb, hcc]
    rfl
  · have l0 : Lft t p = 104 :: R := h
    obtain ⟨_, k0, l1⟩ := lft_cons l0
    have k0' : pk t p false = 104 := k0
    rw [k0']
    refine ⟨rfl, ?_, l1⟩
    unfold tlin
    rw [if_neg (by decide), if_neg (by decide), if_neg (by decide), if_neg (by decide), if_neg (by decide), hcc]
    rfl

/-- Lines with their texts. -/
def lcms : List Cm → Nat → List Cm
  | [], _ => []
  | c :: r, j => lcm c j :: lcms r (j + 1)
theorem lcms_get : ∀ (cs : List Cm) (j i : Nat), (lcms cs j)[i]? = (cs[i]?).map fun c => lcm c (j + i)
  | [], j, i => by simp [lcms]
  | c :: r, j, 0 => by simp [lcms]
  | c :: r, j, i + 1 => by
    have := lcms_get r (j + 1) i
    simp only [lcms, List.getElem?_cons_succ, this]
    congr 1
    funext c
    rw [show j + 1 + i = j + (i + 1) from by omega]
theorem lcms_len (cs : List Cm) (j : Nat) : (lcms cs j).length = cs.length := by
  induction cs generalizing j with
  | nil => rfl
  | cons c r ih => simp [lcms, ih]

theorem RawL.pos {c : Cm} {T : List UInt8} (h : RawL V n c T) : 0 < T.length := by
  rcases h with ⟨_, _, _, _, rfl, _⟩ | ⟨_, _, rfl, _⟩ | ⟨_, _, rfl, _⟩ | ⟨_, _, _, _, _, rfl, _⟩ | ⟨_, _, _, _, rfl, _⟩ | ⟨rfl, _⟩ <;> simp

theorem rdL_read : ∀ (ls : List (List UInt8 × Cm)) (p f : Nat) (pre : List Cm), (∀ q ∈ ls, RawL V n q.2 q.1) → Lft t p = (ls.map (·.1)).flatten → p ≤ t.size → t.size - p ≤ f → rdL t V n f ⟨p, false, pre⟩ = ⟨t.size, false, pre ++ lcms (ls.map (·.2)) pre.length⟩
  | [], p, f, pre, _, h, hp, hf => by
    have hpe : p = t.size := by
      unfold Lft at h
      have := congrArg List.length h
      rw [List.length_drop, ← size_list] at this
      simp at this
      omega
    subst hpe
    simp only [List.map_nil, lcms, List.append_nil]
    cases f with
    | zero => rfl
    | succ f => rw [rdL, if_neg (by dsimp only; rw [pk_end t t.size (by omega)]; decide)]
  | (T, c) :: r, p, f, pre, hr, h, hp, hf => by
    have hT := hr (T, c) (List.mem_cons_self ..)
    have hpos := hT.pos
    simp only [List.map_cons, List.flatten_cons] at h
    obtain ⟨k1, k2, k3⟩ := tlin_read hT h
    have hlen : p + T.length ≤ t.size := by
      unfold Lft at h
      have := congrArg List.length h
      rw [List.length_drop, ← size_list, List.length_append] at this
      dsimp only at this hpos
      omega
    dsimp only at k1 k2 k3 hpos hlen
    obtain ⟨f, rfl⟩ : ∃ f', f = f' + 1 := ⟨f - 1, by omega⟩
    rw [rdL, if_pos k1]
    have e : ln1 t V n ⟨p, false, pre⟩ = ⟨p + T.length, false, pre ++ [lcm c pre.length]⟩ := by
      unfold ln1
      dsimp only
      rw [k2]
    rw [e, rdL_read r (p + T.length) f (pre ++ [lcm c pre.length]) (fun q hq => hr q (List.mem_cons_of_mem _ hq)) k3 hlen (by omega)]
    simp [lcms]
end
end Go.Proofs.YtnkbfdbbcaffmaaGreatDoor
/-
  What Lower tells is a code with the kernel's head, whose lines are the kernel's commands. (No walk here.)
-/
namespace Go.Proofs.YtnkbfdbbcaffmaaGreatDoor
open Go.RowKit

section
variable {s t : ByteArray}
theorem tk_congr {p : Nat} {a : Bool} {c : Int} (hk : pk t p false = pk s p false) (hs : p < s.size) (ht : p < t.size) : tk t p a c = tk s p a c := by
  unfold tk
  rw [hk]
  simp only [hs, ht]
theorem pk_congr {p : Nat} {a : Bool} (hk : pk t p false = pk s p false) : pk t p a = pk s p a := by
  cases a with
  | true => rw [pk_bad, pk_bad]
  | false => exact hk
theorem tb_congr {p : Nat} {a : Bool} {lo hi : Int} (hk : pk t p false = pk s p false) (hs : p < s.size) (ht : p < t.size) : tb t p a lo hi = tb s p a lo hi := by
  unfold tb
  rw [pk_congr hk, tk_congr hk hs ht]
theorem cnt_congr : ∀ (f p : Nat), (∀ j, j ≤ cnt s false f p → pk t (p + j) false = pk s (p + j) false) → cnt t false f p = cnt s false f p
  | 0, p, _ => rfl
  | f + 1, p, h => by
    have h0 := h 0 (Nat.zero_le _)
    rw [Nat.add_zero] at h0
    unfold cnt at h ⊢
    rw [h0]
    by_cases hl : pk s p false = 112 ∨ pk s p false = 115
    · rw [if_pos hl] at h ⊢
      rw [if_pos hl, cnt_congr f (p + 1) (fun j hj => by
        have := h (j + 1) (by omega)
        rw [show p + (j + 1) = p + 1 + j from by omega] at this
        exact this)]
    · rw [if_neg hl, if_neg hl]

/-- A head is read alike where it stands alike. -/
theorem hdr_congr (h : (hdr s).2.1 = false) (hk : ∀ j, j < (hdr s).1 → pk t j false = pk s j false) (ht : (hdr s).1 ≤ t.size) : hdr t = hdr s := by
  have hle := hdr_le s
  unfold hdr at h hk ht hle ⊢
  dsimp only at *
  obtain ⟨h1, g1, g2, g3⟩ := tk_good h
  obtain ⟨h2, h3, h4, g4⟩ := tk_good h1
  simp only [Bool.or_eq_false_iff] at h2
  obtain ⟨h5, h6⟩ := h2
  have ht0 : (tb s 0 false 49 56).1 = 1 ∧ 0 < s.size := by
    unfold tb at h5 ⊢
    by_cases hr : 49 ≤ pk s 0 false ∧ pk s 0 false ≤ 56
    · rw [if_pos hr] at h5 ⊢
      dsimp only at *
      have := tk_good h5
      exact ⟨this.2.2.2, this.2.1⟩
    · rw [if_neg hr] at h5
      cases h5
  obtain ⟨q1, q2⟩ := ht0
  have e0 : 0 < t.size → pk t 0 false = pk s 0 false → tb t 0 false 49 56 = tb s 0 false 49 56 := fun a b => tb_congr b q2 a
  generalize tb s 0 false 49 56 = T0 at *
  obtain ⟨p0, b0, z0⟩ := T0
  dsimp only at *
  subst h5 q1
  generalize hn : cnt s false 8 1 = N at *
  generalize hu : tk s (1 + N) (false || N == 0) 47 = U at *
  obtain ⟨u, bu⟩ := U
  dsimp only at *
  subst h1 g4
  generalize hm : cnt s false 16 (1 + N + 1) = M at *
  rw [g3] at hk ht
  have k0 := e0 (by omega) (hk 0 (by omega))
  rw [k0]
  dsimp only
  have e1 : cnt t false 8 1 = N := (cnt_congr (s := s) (t := t) 8 1 (fun j hj => hk (1 + j) (by rw [hn] at hj; omega))).trans hn
  rw [e1]
  have e2 : tk t (1 + N) (false || N == 0) 47 = (1 + N + 1, false) := (tk_congr (hk _ (by omega)) h3 (by omega)).trans hu
  rw [e2]
  dsimp only
  have e3 : cnt t false 16 (1 + N + 1) = M := (cnt_congr (s := s) (t := t) 16 (1 + N + 1) (fun j hj => hk (1 + N + 1 + j) (by rw [hm] at hj; omega))).trans hm
  rw [e3]
  have e4 : tk t (1 + N + 1 + M) false 58 = tk s (1 + N + 1 + M) false 58 := tk_congr (hk _ (by omega)) g1 (by omega)
  rw [e4]
end

/-- The lines of a command, as they are written, with their texts. -/
def u8 (z : Int) : UInt8 := UInt8.ofNat z.toNat
def lnC (ns : List Int) (c : Cm) : Cm :=
  if c.kind = 61 then ⟨61, c.var, c.xn, c.xv, c.op, c.yn, c.yv, 0, 0, 0, 0⟩ else if c.kind = 108 then ⟨108, c.var, c.xn, c.xv, 0, false, 0, 0, 0, 0, 0⟩
  else if c.kind = 115 then ⟨115, 0, c.xn, c.xv, 0, c.yn, c.yv, 0, 0, 0, 0⟩ else ⟨122, 0, c.xn, c.xv, 0, false, 0, 0, ns.getD c.no.toNat 0, 0, 0⟩
def jmC (ns : List Int) (c : Cm) : Cm := ⟨106, 0, false, 0, 0, false, 0, ns.getD c.yes.toNat 0, 0, 0, 0⟩
def prs (ns : List Int) : List Cm → Nat → List (List UInt8 × Cm)
  | [], _ => []
  | c :: r, i => ((lnB ns c).map u8, lnC ns c) :: ((if jmp c i = true then [((jmB ns c i).map u8, jmC ns c)] else []) ++ prs ns r (i + 1))

theorem prs_text (ns : List Int) : ∀ (cs : List Cm) (i : Nat), ((prs ns cs i).map (·.1)).flatten = (codT ns cs i).map u8
  | [], i => rfl
  | c :: r, i => by
    have := prs_text ns r (i + 1)
    unfold prs codT
    by_cases hj : jmp c i = true
    · rw [if_pos hj]
      simp only [List.map_cons, List.flatten_cons, List.cons_append, List.nil_append, List.map_append, this, List.append_assoc]
    · rw [if_neg hj]
      have e : jmB ns c i = [] := by unfold jmB; rw [if_neg hj]
      rw [e]
      simp only [List.map_cons, List.flatten_cons, List.nil_append, List.map_append, this, List.append_nil]

theorem u8_nat {z : Int} (h0 : 0 ≤ z) (h1 : z ≤ 255) : ((u8 z).toNat : Int) = z := by
  unfold u8
  rw [UInt8.toNat_ofNat']
  omega

theorem hxd_hx {z : Int} (h0 : 0 ≤ z) (h1 : z ≤ 15) : IsHx (u8 (hxd z)) z := by
  unfold hxd
  by_cases h : z < 10
  · rw [if_pos h]
    have := u8_nat (z := 48 + z) (by omega) (by omega)
    exact .inl ⟨by omega, by omega, by omega⟩
  · rw [if_neg h]
    have e : (87 + z : Int) = 97 + (z - 10) := by omega
    have := u8_nat (z := 87 + z) (by omega) (by omega)
    exact .inr ⟨by omega, by omega, by omega⟩

theorem opW_rel {V : Int} {n : Nat} {x : UInt8} {nm : Bool} {v : Int} (h : OpRel V n x nm v) (hV : 1 ≤ V) (hn : n ≤ 8) : OpRel V n (u8 (opW nm v)) nm v := by
  have hs := h.small hV hn
  rcases h with ⟨rfl, h1, h2, h3⟩ | ⟨rfl, h1, h2, h3⟩
  · have e : opW true v = 97 + v := rfl
    rw [e]
    exact .inl ⟨rfl, u8_nat (by omega) (by omega), h2, h3⟩
  · have e : opW false v = 48 + v := by
      show hxd v = 48 + v
      unfold hxd; rw [if_pos (by omega)]
    rw [e]
    have := u8_nat (z := 48 + v) (by omega) (by omega)
    refine .inr ⟨rfl, by omega, by omega, ?_⟩
    rw [this, show 48 + v - 48 = v from by omega, Int.emod_eq_of_lt hs.1 (hs.2.2 rfl)]

/-- Commands whose lines can be read back. -/
structure BackOK (V : Int) (n : Nat) (ns : List Int) (c : Cm) : Prop where
  kind : isCmd c.kind = true
  v : c.kind = 61 ∨ c.kind = 108 → 0 ≤ c.var ∧ c.var < n
  x : ∃ x, OpRel V n x c.xn c.xv
  y : c.kind = 61 ∨ c.kind = 115 → ∃ y, OpRel V n y c.yn c.yv
  op : c.kind = 61 → isOp c.op = true
  yes : 0 ≤ ns.getD c.yes.toNat 0 ∧ ns.getD c.yes.toNat 0 ≤ 255
  no : 0 ≤ ns.getD c.no.toNat 0 ∧ ns.getD c.no.toNat 0 ≤ 255

theorem lnC_raw {V : Int} {n : Nat} {ns : List Int} {c : Cm} (h : BackOK V n ns c) (hV : 1 ≤ V) (hn : n ≤ 8) : RawL V n (lnC ns c) ((lnB ns c).map u8) := by
  obtain ⟨kd, hv, ⟨x, hx⟩, hy, hop, _, ⟨z0, z1⟩⟩ := h
  have hx' := opW_rel hx hV hn
  simp [isCmd] at kd
  unfold lnC lnB
  by_cases k1 : c.kind = 61
  · rw [if_pos k1, if_pos k1]
    obtain ⟨y, hy1⟩ := hy (.inl k1)
    have hv1 := hv (.inl k1)
    have ho := hop k1
    have hob : 0 ≤ c.op ∧ c.op ≤ 255 := by simp [isOp] at ho; omega
    exact .inl ⟨u8 (97 + c.var), u8 (opW c.xn c.xv), u8 c.op, u8 (opW c.yn c.yv), rfl, rfl, u8_nat (by omega) (by omega), hv1.1, hv1.2, hx', u8_nat hob.1 hob.2, ho, opW_rel hy1 hV hn⟩
  · rw [if_neg k1, if_neg k1]
    by_cases k2 : c.kind = 108
    · rw [if_pos k2, if_pos k2]
      have hv1 := hv (.inr k2)
      exact .inr (.inl ⟨u8 (97 + c.var), u8 (opW c.xn c.xv), rfl, rfl, u8_nat (by omega) (by omega), hv1.1, hv1.2, hx'⟩)
    · rw [if_neg k2, if_neg k2]
      by_cases k3 : c.kind = 115
      · rw [if_pos k3, if_pos k3]
        obtain ⟨y, hy1⟩ := hy (.inr k3)
        exact .inr (.inr (.inl ⟨u8 (opW c.xn c.xv), u8 (opW c.yn c.yv), rfl, rfl, hx', opW_rel hy1 hV hn⟩))
      · rw [if_neg k3, if_neg k3]
        refine .inr (.inr (.inr (.inl ⟨u8 (opW c.xn c.xv), u8 (hxd (ns.getD c.no.toNat 0 / 16)), u8 (hxd (ns.getD c.no.toNat 0 % 16)), ns.getD c.no.toNat 0 / 16, ns.getD c.no.toNat 0 % 16, rfl, ?_, hx', hxd_hx (by omega) (by omega), hxd_hx (by omega) (by omega)⟩)))
        rw [show ns.getD c.no.toNat 0 / 16 * 16 + ns.getD c.no.toNat 0 % 16 = ns.getD c.no.toNat 0 from by omega]
theorem jmC_raw {V : Int} {n : Nat} {ns : List Int} {c : Cm} {i : Nat} (h : BackOK V n ns c) (hj : jmp c i = true) : RawL V n (jmC ns c) ((jmB ns c i).map u8) := by
  obtain ⟨_, _, _, _, _, ⟨z0, z1⟩, _⟩ := h
  unfold jmC jmB
  rw [if_pos hj]
  refine .inr (.inr (.inr (.inr (.inl ⟨u8 (hxd (ns.getD c.yes.toNat 0 / 16)), u8 (hxd (ns.getD c.yes.toNat 0 % 16)), ns.getD c.yes.toNat 0 / 16, ns.getD c.yes.toNat 0 % 16, rfl, ?_, hxd_hx (by omega) (by omega), hxd_hx (by omega) (by omega)⟩))))
  rw [show ns.getD c.yes.toNat 0 / 16 * 16 + ns.getD c.yes.toNat 0 % 16 = ns.getD c.yes.toNat 0 from by omega]

theorem prs_raw {V : Int} {n : Nat} {ns : List Int} (hV : 1 ≤ V) (hn : n ≤ 8) : ∀ (cs : List Cm) (i : Nat), (∀ c ∈ cs, BackOK V n ns c) → ∀ q ∈ prs ns cs i, RawL V n q.2 q.1
  | [], i, _, q, hq => by simp [prs] at hq
  | c :: r, i, h, q, hq => by
    unfold prs at hq
    rcases List.mem_cons.1 hq with rfl | hq
    · exact lnC_raw (h c (List.mem_cons_self ..)) hV hn
    · rcases List.mem_append.1 hq with hq | hq
      · by_cases hj : jmp c i = true
        · rw [if_pos hj] at hq
          simp at hq
          subst hq
          exact jmC_raw (h c (List.mem_cons_self ..)) hj
        · rw [if_neg hj] at hq; simp at hq
      · exact prs_raw hV hn r (i + 1) (fun c hc => h c (List.mem_cons_of_mem _ hc)) q hq

/-- Where the lines of a command stand. -/
theorem prs_at {ns : List Int} : ∀ (cs : List Cm) (i nx j : Nat) (c : Cm), cs[j]? = some c → ∃ z : Nat, (lno cs i nx)[j]? = some (z : Int) ∧ nx ≤ z ∧ ((prs ns cs i).map (·.2))[z - nx]? = some (lnC ns c) ∧ (jmp c (i + j) = true → ((prs ns cs i).map (·.2))[z - nx + 1]? = some (jmC ns c)) ∧
    (lno cs i nx)[j + 1]? = some ((z + (if jmp c (i + j) = true then 2 else 1) : Nat) : Int)
  | [], i, nx, j, c, h => by simp at h
  | d :: r, i, nx, 0, c, h => by
    simp at h
    subst h
    refine ⟨nx, rfl, Nat.le_refl _, by simp [prs], fun hj => ?_, ?_⟩
    · rw [Nat.add_zero] at hj
      unfold prs
      rw [if_pos hj]
      simp
    · rw [Nat.add_zero]
      simp only [lno, List.getElem?_cons_succ]
      cases r <;> simp [lno]
  | d :: r, i, nx, j + 1, c, h => by
    obtain ⟨z, e1, e2, e3, e4, e5⟩ := prs_at (ns := ns) r (i + 1) (nx + (if jmp d i = true then 2 else 1)) j c (by simpa using h)
    rw [show i + 1 + j = i + (j + 1) from by omega] at e4 e5
    unfold prs
    by_cases hj : jmp d i = true
    · rw [if_pos hj] at e1 e2 e3 e4 e5
      refine ⟨z, by simpa [lno, hj] using e1, by omega, ?_, fun h' => ?_, by simpa [lno, hj] using e5⟩
      · rw [if_pos hj]
        simp only [List.map_cons, List.cons_append, List.nil_append]
        rw [show z - nx = (z - (nx + 2)) + 1 + 1 from by omega, List.getElem?_cons_succ, List.getElem?_cons_succ]
        exact e3
      · rw [if_pos hj]
        simp only [List.map_cons, List.cons_append, List.nil_append]
        rw [show z - nx + 1 = (z - (nx + 2) + 1) + 1 + 1 from by omega, List.getElem?_cons_succ, List.getElem?_cons_succ]
        exact e4 h'
    · rw [if_neg hj] at e1 e2 e3 e4 e5
      refine ⟨z, by simpa [lno, hj] using e1, by omega, ?_, fun h' => ?_, by simpa [lno, hj] using e5⟩
      · rw [if_neg hj]
        simp only [List.map_cons, List.nil_append]
        rw [show z - nx = (z - (nx + 1)) + 1 from by omega, List.getElem?_cons_succ]
        exact e3
      · rw [if_neg hj]
        simp only [List.map_cons, List.nil_append]
        rw [show z - nx + 1 = (z - (nx + 1) + 1) + 1 from by omega, List.getElem?_cons_succ]
        exact e4 h'

theorem prs_cons (ns : List Int) (c : Cm) (r : List Cm) (i : Nat) : prs ns (c :: r) i = ((lnB ns c).map u8, lnC ns c) :: ((if jmp c i = true then [((jmB ns c i).map u8, jmC ns c)] else []) ++ prs ns r (i + 1)) := rfl
theorem prs_len {ns : List Int} : ∀ (cs : List Cm) (i nx : Nat), (lno cs i nx)[cs.length]? = some ((nx + (prs ns cs i).length : Nat) : Int)
  | [], i, nx => by simp [lno, prs]
  | c :: r, i, nx => by
    have := prs_len (ns := ns) r (i + 1) (nx + (if jmp c i = true then 2 else 1))
    simp only [List.length_cons, lno, List.getElem?_cons_succ, this]
    rw [prs_cons]
    by_cases hj : jmp c i = true
    · simp [hj]; omega
    · simp [hj]; omega
end Go.Proofs.YtnkbfdbbcaffmaaGreatDoor
