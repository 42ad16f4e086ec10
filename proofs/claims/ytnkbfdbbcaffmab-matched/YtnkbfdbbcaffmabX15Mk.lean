import Derived.Test.YtnkbfdbbcaffmabX14Agree2
import Derived.Test.YtnkbfdbbcaffmabX12Inp
/-
  Texts that are made piece by piece, and are kernels.
-/
namespace Go.Proofs.Ytnkbfdbbcaffmab
open Go.RowKit

/-- The form that stands behind some bytes. -/
def goF (n : Int) : List UInt8 → List UInt8 → Option (List UInt8)
  | f, [] => some f
  | f, c :: t => match nxtL c.toNat n f with
    | none => none
    | some f' => goF n f' t

theorem goF_append (n : Int) : ∀ (a b f : List UInt8), goF n f (a ++ b) = (goF n f a).bind fun g => goF n g b
  | [], b, f => rfl
  | c :: a, b, f => by
    rw [List.cons_append, goF, goF]
    cases nxtL c.toNat n f with
    | none => rfl
    | some f' => exact goF_append n a b f'
theorem goF_snoc {n : Int} {a f g h : List UInt8} {c : UInt8} (h1 : goF n f a = some g) (h2 : nxtL c.toNat n g = some h) : goF n f (a ++ [c]) = some h := by
  rw [goF_append, h1]
  show goF n g [c] = _
  rw [goF, h2]; rfl
theorem shL_goF (n : Int) : ∀ (a f : List UInt8), goF n f a = some [66] → shL n a f = none
  | [], f, h => by
    rw [goF] at h
    rw [shL, if_pos (.inl (Option.some.inj h))]
  | c :: a, f, h => by
    rw [goF] at h
    rw [shL]
    cases hx : nxtL c.toNat n f with
    | none => rw [hx] at h; cases h
    | some f' =>
      rw [hx] at h
      dsimp only at h ⊢
      rw [shL_goF n a f' h]; rfl

def isLet (c : UInt8) : Prop := c = 112 ∨ c = 115
theorem nxt_eq {n : Int} {x c : UInt8} {t : List UInt8} (hx : plainB x) (h : stn x.toNat c.toNat n = true) : nxtL c.toNat n (x :: t) = some t := by
  rw [nxt_plain hx, if_pos h]
theorem nxt_let {n : Int} {c : UInt8} {t : List UInt8} (h : isLet c) : nxtL c.toNat n (75 :: t) = some t := by
  rw [nxtL, if_neg (by decide)]
  rcases h with rfl | rfl
  · rw [if_pos (by rfl)]
  · rw [if_pos (by rfl)]
theorem goF_lets (n : Int) : ∀ (j : Nat) (L ψ : List UInt8), (∀ c ∈ L, isLet c) → L.length ≤ j → goF n (List.replicate j 75 ++ ψ) L = some (List.replicate (j - L.length) 75 ++ ψ)
  | j, [], ψ, _, _ => rfl
  | 0, c :: L, ψ, _, h => by simp at h
  | j + 1, c :: L, ψ, hl, h => by
    rw [List.replicate_succ, List.cons_append, goF, nxt_let (hl c (by simp))]
    dsimp only
    rw [goF_lets n j L ψ (fun d hd => hl d (by simp [hd])) (by simp at h; exact h)]
    simp
theorem nxt_skip {n : Int} {x c : UInt8} {t : List UInt8} (hx : plainB x) (h : stn x.toNat c.toNat n = true) (hc : ¬ isLet c) : ∀ j, nxtL c.toNat n (List.replicate j 75 ++ x :: t) = some t
  | 0 => nxt_eq hx h
  | j + 1 => by
    rw [List.replicate_succ, List.cons_append, nxtL, if_neg (by decide)]
    have e : stn ((75 : UInt8).toNat : Int) c.toNat n = false := by
      show (((c.toNat : Int) == 112) || ((c.toNat : Int) == 115)) = false
      cases hb : (((c.toNat : Int) == 112) || ((c.toNat : Int) == 115)) with
      | false => rfl
      | true =>
        exfalso
        apply hc
        simp at hb
        rcases hb with hb | hb
        · exact .inl (UInt8.toNat_inj.1 (by simpa using (by omega : c.toNat = 112)))
        · exact .inr (UInt8.toNat_inj.1 (by simpa using (by omega : c.toNat = 115)))
    rw [e, if_neg (by simp), if_pos (by rfl)]
    exact nxt_skip hx h hc j

/-- A head leads to the body. -/
theorem goF_head (n : Int) (d : UInt8) (vs ws : List UInt8) (hd : 49 ≤ (d.toNat : Int) ∧ (d.toNat : Int) ≤ 56) (hv : ∀ c ∈ vs, isLet c) (hw : ∀ c ∈ ws, isLet c) (h1 : 1 ≤ vs.length) (h2 : vs.length ≤ 8) (h3 : ws.length ≤ 16) :
    goF n kernF (d :: (vs ++ 47 :: (ws ++ [58]))) = some [66] := by
  have e0 : kernF = 87 :: 107 :: (List.replicate 7 75 ++ 47 :: (List.replicate 16 75 ++ 58 :: [66])) := rfl
  have k1 : nxtL d.toNat n kernF = some (107 :: (List.replicate 7 75 ++ 47 :: (List.replicate 16 75 ++ 58 :: [66]))) := by
    rw [e0]
    refine nxt_eq (by unfold plainB; decide) ?_
    show (decide (49 ≤ (d.toNat : Int)) && decide ((d.toNat : Int) ≤ 56)) = true
    simp; omega
  rw [goF, k1]
  dsimp only
  obtain ⟨v, vt, rfl⟩ : ∃ v vt, vs = v :: vt := by
    cases vs with
    | nil => simp at h1
    | cons v vt => exact ⟨v, vt, rfl⟩
  have k2 : nxtL v.toNat n (107 :: (List.replicate 7 75 ++ 47 :: (List.replicate 16 75 ++ 58 :: [66]))) = some (List.replicate 7 75 ++ 47 :: (List.replicate 16 75 ++ 58 :: [66])) := by
    refine nxt_eq (by unfold plainB; decide) ?_
    rcases hv v (by simp) with rfl | rfl <;> rfl
  rw [List.cons_append, goF, k2]
  dsimp only
  rw [goF_append, goF_lets n 7 vt _ (fun c hc => hv c (by simp [hc])) (by simp at h2; omega)]
  show goF n _ (47 :: (ws ++ [58])) = _
  rw [goF, nxt_skip (x := 47) (by unfold plainB; decide) (by rfl) (by unfold isLet; decide) _]
  dsimp only
  rw [goF_append, goF_lets n 16 ws _ hw h3]
  show goF n _ [58] = _
  rw [goF, nxt_skip (x := 58) (by unfold plainB; decide) (by rfl) (by unfold isLet; decide) _]
  rfl

def pend : List UInt8 → Nat
  | [] => 0
  | c :: t => (if c = 66 then 0 else 1) + pend t
def prf : List UInt8 → Nat
  | [] => 0
  | c :: t => if c = 66 then 0 else 1 + prf t
def symB (c : UInt8) : Prop := c = 118 ∨ c = 120 ∨ c = 111 ∨ c = 40 ∨ c = 41
/-- What is left to be made: behind each body a bracket shuts, or nothing is. -/
def Wft : List UInt8 → Prop
  | [] => True
  | c :: t => ((c = 66 ∧ (t = [] ∨ ∃ t', t = 41 :: t')) ∨ (symB c ∧ t ≠ [])) ∧ Wft t

theorem wft_s {c : UInt8} {t : List UInt8} (h : symB c) (ht : Wft t) (hn : t ≠ []) : Wft (c :: t) := ⟨.inr ⟨h, hn⟩, ht⟩
theorem wft_b {t : List UInt8} (ht : Wft (41 :: t)) : Wft (66 :: 41 :: t) := ⟨.inl ⟨rfl, .inr ⟨t, rfl⟩⟩, ht⟩

theorem pend_append : ∀ a b, pend (a ++ b) = pend a + pend b
  | [], b => by simp [pend]
  | c :: a, b => by simp only [List.cons_append, pend, pend_append a b]; omega

/-- What was made so far: T; what is left: todo. -/
structure MI (n : Int) (T todo : List UInt8) : Prop where
  form : ∃ F, goF n kernF T = some F ∧ ((F = todo ∧ todo ≠ []) ∨ (F = 66 :: todo ∧ (todo = [] ∨ ∃ t, todo = 41 :: t)))
  wf : Wft todo
  sum : T.length + pend todo ≤ 246
  low : pend todo ≤ T.length + 2 * prf todo

theorem symB_plain {c : UInt8} (h : symB c) : plainB c := by
  rcases h with rfl | rfl | rfl | rfl | rfl <;> (unfold plainB; decide)

theorem MI.emit {n : Int} {T t : List UInt8} {e c : UInt8} (h : MI n T (e :: t)) (he : e ≠ 66) (hs : stn e.toNat c.toNat n = true) : MI n (T ++ [c]) t := by
  obtain ⟨⟨F, hF, hm⟩, ⟨hw, hwt⟩, hsum, hlow⟩ := h
  have hsy : symB e ∧ t ≠ [] := by
    rcases hw with ⟨h1, _⟩ | h1
    · exact absurd h1 he
    · exact h1
  have hn : nxtL c.toNat n F = some t := by
    rcases hm with ⟨rfl, _⟩ | ⟨rfl, h2⟩
    · exact nxt_eq (symB_plain hsy.1) hs
    · rcases h2 with h2 | ⟨t', h2⟩
      · cases h2
      · obtain ⟨rfl, rfl⟩ := List.cons.inj h2
        have hc : (c.toNat : Int) = 41 := by
          have : ((c.toNat : Int) == 41) = true := hs
          simpa using this
        rw [nxtL, if_pos (.inl rfl)]
        have e1 : opB ((66 : UInt8).toNat : Int) (c.toNat : Int) = false := by rw [hc]; rfl
        rw [if_neg (by rw [e1]; simp), if_neg (by decide)]
        exact nxt_eq (by unfold plainB; decide) hs
  refine ⟨⟨t, goF_snoc hF hn, .inl ⟨rfl, hsy.2⟩⟩, hwt, ?_, ?_⟩
  · simp only [pend, if_neg he] at hsum
    rw [List.length_append]; simp; omega
  · simp only [pend, prf, if_neg he] at hlow
    rw [List.length_append]; simp; omega

theorem MI.pop {n : Int} {T t : List UInt8} (h : MI n T (66 :: t)) : MI n T t := by
  obtain ⟨⟨F, hF, hm⟩, ⟨hw, hwt⟩, hsum, hlow⟩ := h
  have ht : t = [] ∨ ∃ t', t = 41 :: t' := by
    rcases hw with ⟨_, h1⟩ | ⟨h1, _⟩
    · exact h1
    · rcases h1 with h1 | h1 | h1 | h1 | h1 <;> exact absurd h1 (by decide)
  have hFe : F = 66 :: t := by
    rcases hm with ⟨h1, _⟩ | ⟨_, h2⟩
    · exact h1
    · rcases h2 with h2 | ⟨t', h2⟩
      · cases h2
      · exact absurd (List.cons.inj h2).1 (by decide)
  refine ⟨⟨F, hF, .inr ⟨hFe, ht⟩⟩, hwt, ?_, ?_⟩
  · simpa [pend] using hsum
  · simp [pend, prf] at hlow; omega

theorem MI.cmd {n : Int} {T t : List UInt8} {c : UInt8} (h : MI n T (66 :: t)) (hT : T.length ≤ 120) (hc : c = 61 ∨ c = 108 ∨ c = 115 ∨ c = 63 ∨ c = 33) : MI n (T ++ [c]) (opS c.toNat ++ 66 :: t) := by
  obtain ⟨⟨F, hF, hm⟩, ⟨hw, hwt⟩, hsum, hlow⟩ := h
  have ht : t = [] ∨ ∃ t', t = 41 :: t' := by
    rcases hw with ⟨_, h1⟩ | ⟨h1, _⟩
    · exact h1
    · rcases h1 with h1 | h1 | h1 | h1 | h1 <;> exact absurd h1 (by decide)
  have hFe : F = 66 :: t := by
    rcases hm with ⟨h1, _⟩ | ⟨_, h2⟩
    · exact h1
    · rcases h2 with h2 | ⟨t', h2⟩
      · cases h2
      · exact absurd (List.cons.inj h2).1 (by decide)
  subst hFe
  have hn : nxtL c.toNat n (66 :: t) = some (opS c.toNat ++ 66 :: t) := by
    rw [nxtL, if_pos (.inl rfl)]
    have e1 : opB ((66 : UInt8).toNat : Int) (c.toNat : Int) = true := by rcases hc with rfl | rfl | rfl | rfl | rfl <;> rfl
    rw [if_pos e1, if_neg (by decide)]
  have hne : opS c.toNat ++ 66 :: t ≠ [] := by simp
  have hwt2 : Wft (66 :: t) := ⟨.inl ⟨rfl, ht⟩, hwt⟩
  simp [pend, prf] at hlow hsum
  refine ⟨⟨_, goF_snoc hF hn, .inl ⟨rfl, hne⟩⟩, ?_, ?_, ?_⟩
  · have s1 : symB 118 := .inl rfl
    have s2 : symB 120 := .inr (.inl rfl)
    have s3 : symB 111 := .inr (.inr (.inl rfl))
    have s4 : symB 40 := .inr (.inr (.inr (.inl rfl)))
    have s5 : symB 41 := .inr (.inr (.inr (.inr rfl)))
    rcases hc with rfl | rfl | rfl | rfl | rfl
    · exact wft_s s1 (wft_s s2 (wft_s s3 (wft_s s2 hwt2 (by simp)) (by simp)) (by simp)) (by simp)
    · exact wft_s s1 (wft_s s2 hwt2 (by simp)) (by simp)
    · exact wft_s s2 (wft_s s2 hwt2 (by simp)) (by simp)
    · exact wft_s s2 (wft_s s4 (wft_b (wft_s s5 (wft_s s4 (wft_b (wft_s s5 hwt2 (by simp))) (by simp)) (by simp))) (by simp)) (by simp)
    · exact wft_s s2 (wft_s s4 (wft_b (wft_s s5 hwt2 (by simp))) (by simp)) (by simp)
  · rw [List.length_append, pend_append]
    rcases hc with rfl | rfl | rfl | rfl | rfl
    all_goals
      simp only [show opS ((61 : UInt8).toNat : Int) = [118, 120, 111, 120] from rfl, show opS ((108 : UInt8).toNat : Int) = [118, 120] from rfl, show opS ((115 : UInt8).toNat : Int) = [120, 120] from rfl, show opS ((63 : UInt8).toNat : Int) = [120, 40, 66, 41, 40, 66, 41] from rfl, show opS ((33 : UInt8).toNat : Int) = [120, 40, 66, 41] from rfl]
      simp [pend]
      omega
  · rw [List.length_append, pend_append]
    rcases hc with rfl | rfl | rfl | rfl | rfl
    all_goals
      simp only [show opS ((61 : UInt8).toNat : Int) = [118, 120, 111, 120] from rfl, show opS ((108 : UInt8).toNat : Int) = [118, 120] from rfl, show opS ((115 : UInt8).toNat : Int) = [120, 120] from rfl, show opS ((63 : UInt8).toNat : Int) = [120, 40, 66, 41, 40, 66, 41] from rfl, show opS ((33 : UInt8).toNat : Int) = [120, 40, 66, 41] from rfl]
      simp [pend, prf]
      omega

theorem MI.start (n : Int) (d : UInt8) (vs ws : List UInt8) (hd : 49 ≤ (d.toNat : Int) ∧ (d.toNat : Int) ≤ 56) (hv : ∀ c ∈ vs, isLet c) (hw : ∀ c ∈ ws, isLet c) (h1 : 1 ≤ vs.length) (h2 : vs.length ≤ 8) (h3 : ws.length ≤ 16) :
    MI n (d :: (vs ++ 47 :: (ws ++ [58]))) [66] :=
  ⟨⟨[66], goF_head n d vs ws hd hv hw h1 h2 h3, .inl ⟨rfl, by simp⟩⟩, ⟨.inl ⟨rfl, .inl rfl⟩, trivial⟩, by simp [pend]; omega, by simp [pend]⟩

theorem fnd_list {s : ByteArray} {A B : List UInt8} {x : UInt8} (h : s.data.toList = A ++ x :: B) (hA : ∀ a ∈ A, (a.toNat : Int) ≠ x.toNat) : fnd s x.toNat s.size 0 = A.length := by
  have hsz : s.size = A.length + 1 + B.length := by rw [size_list, h]; simp; omega
  have hl : ∀ j, j < A.length → pk s (0 + j) false ≠ x.toNat ∧ 0 + j < s.size := by
    intro j hj
    have hjs : 0 + j < s.size := by omega
    rw [pk_at s (0 + j) hjs]
    refine ⟨?_, hjs⟩
    have e : s.data.toList[0 + j]? = some A[j] := by rw [h, Nat.zero_add, List.getElem?_append_left hj, List.getElem?_eq_getElem hj]
    rw [byte_eq hjs e]
    exact hA _ (List.getElem_mem hj)
  have hf := fnd_skip (s := s) x.toNat (s.size - A.length) A.length 0 hl
  rw [show s.size - A.length + A.length = s.size from by omega] at hf
  obtain ⟨f, hf2⟩ : ∃ f, s.size - A.length = f + 1 := ⟨s.size - A.length - 1, by omega⟩
  have hp : 0 + A.length < s.size := by omega
  have e : s.data.toList[0 + A.length]? = some x := by rw [h, Nat.zero_add]; simp
  rw [hf, hf2, fnd, dif_pos hp, if_pos (by rw [byte_eq hp e])]
  omega

/-- A kernel's text, its letters, its width, its numbers of variables and words. -/
structure KOK (s ks : ByteArray) (W n m : Nat) : Prop where
  size : s.size ≤ 300
  good : krnBad s = false
  wid : (hdr s).2.2.1 = W
  vars : (hdr s).2.2.2.1 = n
  words : (hdr s).2.2.2.2 = m
  at_ : (hdr s).1 = 3 + n + m
  kinds : ks.size = n + m
  n1 : 1 ≤ n
  n8 : n ≤ 8
  m16 : m ≤ 16
  w1 : 1 ≤ W
  w8 : W ≤ 8

theorem made_ok {s ks : ByteArray} {d : UInt8} {vs ws B : List UInt8} {W : Nat} (hs : s.data.toList = d :: (vs ++ 47 :: (ws ++ 58 :: B))) (h : MI vs.length s.data.toList []) (hd : (d.toNat : Int) = 48 + W) (hW1 : 1 ≤ W) (hW : W ≤ 8) (hv : ∀ c ∈ vs, isLet c) (hw : ∀ c ∈ ws, isLet c) (h1 : 1 ≤ vs.length) (h2 : vs.length ≤ 8) (h3 : ws.length ≤ 16) (hk : ks.size = vs.length + ws.length) :
    KOK s ks W vs.length ws.length := by
  have hlet : ∀ c, isLet c → (c.toNat : Int) ≠ 47 ∧ (c.toNat : Int) ≠ 58 := fun c hc => by rcases hc with rfl | rfl <;> decide
  have f1 : fnd s 47 s.size 0 = 1 + vs.length := by
    have := fnd_list (s := s) (A := d :: vs) (x := 47) (B := ws ++ 58 :: B) (by rw [hs]; simp) (by
      intro a ha
      rcases List.mem_cons.1 ha with rfl | ha
      · show (a.toNat : Int) ≠ 47; omega
      · exact (hlet a (hv a ha)).1)
    rw [show ((47 : UInt8).toNat : Int) = 47 from rfl] at this
    rw [this]; simp; omega
  have f2 : fnd s 58 s.size 0 = 2 + vs.length + ws.length := by
    have := fnd_list (s := s) (A := d :: (vs ++ 47 :: ws)) (x := 58) (B := B) (by rw [hs]; simp) (by
      intro a ha
      rcases List.mem_cons.1 ha with rfl | ha
      · show (a.toNat : Int) ≠ 58; omega
      · rcases List.mem_append.1 ha with ha | ha
        · exact (hlet a (hv a ha)).2
        · rcases List.mem_cons.1 ha with rfl | ha
          · decide
          · exact (hlet a (hw a ha)).2)
    rw [show ((58 : UInt8).toNat : Int) = 58 from rfl] at this
    rw [this]; simp; omega
  have hn : nvar s = vs.length := by unfold nvar; rw [f1]; omega
  obtain ⟨⟨F, hF, hm⟩, _, hsum, _⟩ := h
  have hF66 : F = [66] := by
    rcases hm with ⟨_, h'⟩ | ⟨h', _⟩
    · exact absurd rfl h'
    · exact h'
  rw [hF66] at hF
  have hgood : krnBad s = false := by
    have h1 := shape_kernel s
    rw [hn, shL_goF _ _ _ hF] at h1
    cases hb : krnBad s with
    | false => rfl
    | true => rw [hb, if_pos rfl] at h1; cases h1
  obtain ⟨h0, e0, e1, e2, e3, e4, e5⟩ := head_facts (krn_head hgood)
  have ed : s[0] = d := byte_eq h0 (by rw [hs]; rfl)
  rw [ed] at e0
  have w1 : (hdr s).2.2.1 = W := by omega
  have w2 : (hdr s).2.2.2.1 = vs.length := by omega
  have w3 : (hdr s).2.2.2.2 = ws.length := by omega
  refine ⟨?_, hgood, w1, w2, w3, by rw [e3, w2, w3], hk, h1, h2, h3, hW1, hW⟩
  rw [size_list]; simp only [pend] at hsum; omega
end Go.Proofs.Ytnkbfdbbcaffmab
/-
  Lists of numbers in memory.
-/
namespace Go.Proofs.Ytnkbfdbbcaffmab
open Go.RowKit

/-- A list of numbers, wherever it lies. -/
def LiesO (w : World) (ao : Option Addr) (zs : List Int) : Prop := zs = [] ∨ ∃ ab off, ao = some ⟨ab, off, none⟩ ∧ Lies w ⟨ab, off, none⟩ zs ∧ ab < w.heap.size

theorem LiesO.grown {w w' : World} {ao : Option Addr} {zs : List Int} (h : LiesO w ao zs) (hg : w.grownBy w' none) : LiesO w' ao zs := by
  rcases h with h | ⟨ab, off, e, hL, hlt⟩
  · exact .inl h
  · exact .inr ⟨ab, off, e, hL.grown hg (by simp), Nat.lt_of_lt_of_le hlt hg.size⟩

/-- A list of numbers below block b. -/
def LiesB (w : World) (b : Nat) (ao : Option Addr) (zs : List Int) : Prop := zs = [] ∨ ∃ ab off, ao = some ⟨ab, off, none⟩ ∧ Lies w ⟨ab, off, none⟩ zs ∧ ab < b
theorem LiesB.toO {w : World} {b : Nat} {ao : Option Addr} {zs : List Int} (h : LiesB w b ao zs) (hb : b ≤ w.heap.size) : LiesO w ao zs := by
  rcases h with h | ⟨ab, off, e, hL, hlt⟩
  · exact .inl h
  · exact .inr ⟨ab, off, e, hL, by omega⟩
theorem Lies.below {w w' : World} {ab off b : Nat} {zs : List Int} (h : Lies w ⟨ab, off, none⟩ zs) (hB : Below b w w') (hab : ab < b) : Lies w' ⟨ab, off, none⟩ zs := fun j v hv => by
  have h' := h j v hv
  rw [Addr.add_lit] at h' ⊢
  rw [hB.cell (p := ⟨ab, off + j, none⟩) hab]; exact h'
theorem LiesB.below {w w' : World} {b B : Nat} {ao : Option Addr} {zs : List Int} (h : LiesB w b ao zs) (hB : Below B w w') (hb : b ≤ B) : LiesB w' b ao zs := by
  rcases h with h | ⟨ab, off, e, hL, hlt⟩
  · exact .inl h
  · exact .inr ⟨ab, off, e, hL.below hB (by omega), hlt⟩
theorem below_gb {w w' : World} (h : Below w.heap.size w w') : w.grownBy w' none := ⟨h.os, h.tape, h.output, h.size, fun k hk _ => h.block k hk⟩
theorem At.below {w w' : World} {b B : Nat} {t : TypeId} {cs : Array Value} (h : At w b t cs) (hB : Below B w w') (hb : b < B) : At w' b t cs := by
  unfold At at *
  rw [hB.block b hb]; exact h
end Go.Proofs.Ytnkbfdbbcaffmab
