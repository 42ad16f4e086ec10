import Derived.Test.YtnkbfdbbcaffmabX23KpJ
import Derived.Test.YtnkbfdbbcaffmabX32LwK
/-
  Matched: Exec of what Lower tells, sameEnds, begins.
-/
namespace Go.Proofs.Ytnkbfdbbcaffmab
open Go.RowKit

/-- The run of a kernel's code. -/
def eR (s : ByteArray) (W n m : Nat) (view : Int) (zs : List Int) (fuel : Nat) : Res := runP (pw W) view n m fuel (lowC (krn s).cs) (fuel + 1) 0 zs [] 0

section
variable {s ks : ByteArray} {W n m : Nat}
theorem KOK.ker (K : KOK s ks W n m) : (kerP s).e = 0 := by rw [kerP_e, K.chk]

theorem KOK.erun (K : KOK s ks W n m) (view : Int) (hv0 : 0 ≤ view) (hv8 : view ≤ 8) (zs : List Int) (hz : zs.length = n + m) (hf : Fits (pw W) zs) (fuel : Nat) (hfu : fuel ≤ 10000) : (codP (lowS s)).run view zs fuel = (0, eR s W n m view zs fuel) := by
  have hin : inB (pw W) (n + m) zs = true := by
    simp [inB, okV, hz]
    exact hf
  rw [low_code K.ker]
  unfold Pg.run
  dsimp only
  rw [K.wid, K.vars, K.words, if_neg (fun k => k rfl)]
  have hr : rfs (pw W) (n + m) view zs fuel = 0 := by
    unfold rfs
    rw [if_neg (by omega), if_neg (by rw [hin]; simp), if_neg (by omega)]
  rw [hr, if_neg (fun k => k rfl)]
  simp [eR]

theorem eR_len (view : Int) (zs : List Int) (fuel : Nat) : (eR s W n m view zs fuel).σ.length = zs.length := runP_len _ _ _ _ _ _ _ _ _ _ _
theorem eR_tag (view : Int) (zs : List Int) (fuel : Nat) : (eR s W n m view zs fuel).tag = 1 ∨ (eR s W n m view zs fuel).tag = 2 ∨ (eR s W n m view zs fuel).tag = 3 := runP_tag _ _ _ _ _ _ _ _ _ _ _

theorem exec_ok (K : KOK s ks W n m) (view : Int) (hv0 : 0 ≤ view) (hv8 : view ≤ 8) (zs : List Int) (hz : zs.length = n + m) (hf : Fits (pw W) zs) (fuel : Nat) (hfu : fuel ≤ 10000) (g cap : Nat) (w : World) (hL : Lies w ⟨g, 0, none⟩ zs) (hg : g < w.heap.size) :
    Calls Try.prog 10 #[.string (lowS s), .int .i64 view, .slice (some ⟨g, 0, none⟩) zs.length cap, .int .i64 fuel] w fun e w' => ∃ gs, e = .returned (.tuple #[.agg #[.int .i64 (eR s W n m view zs fuel).tag, .int .i64 (eR s W n m view zs fuel).steps, .string (strOfNums (eR s W n m view zs fuel).sn), .slice (some ⟨gs, 0, none⟩) zs.length zs.length], .int .i64 0]) ∧ At w' gs 3 (intsV (eR s W n m view zs fuel).σ) ∧ w.heap.size ≤ gs ∧ Below w.heap.size w w' := by
  have hn1 := K.n1
  have hn8 := K.n8
  have hm16 := K.m16
  have hsz := (low_read K.ker).2.2.1
  refine (leakExec_any (lowS s) (by unfold maxLen; omega) view fuel g 0 cap zs (by omega) w hL hg).mono ?_
  rintro e w' ⟨st, he, hst, hB⟩
  rw [K.erun view hv0 hv8 zs hz hf fuel hfu] at he hst
  have hlen := eR_len (s := s) (W := W) (n := n) (m := m) view zs fuel
  rcases hst with ⟨h0, _⟩ | ⟨gs, hst, hA, hgs⟩
  · dsimp only at h0
    rw [h0] at hlen; simp at hlen; omega
  · dsimp only at hst hA
    rw [hlen] at hst
    subst hst
    exact ⟨gs, he, hA, hgs, hB⟩

theorem KOK.agr (K : KOK s ks W n m) (view : Int) (hv0 : 0 ≤ view) (hv8 : view ≤ 8) (zs : List Int) (hz : zs.length = n + m) (hf : Fits (pw W) zs) (a b : Nat) (ha : a ≤ 10000) (hb : b ≤ 10000) :
    Agr a b (kR s W n m view zs a) (eR s W n m view zs b) ∧ (kR s W n m view zs a).steps ≤ 10000 ∧ (eR s W n m view zs b).steps ≤ 10000 := by
  have h1 := K.prun view hv0 hv8 zs hz hf a ha
  have h2 := K.erun view hv0 hv8 zs hz hf b hb
  have h := low_agr (view := view) (zs := zs) (a := a) (b := b) K.ker (by rw [h1]) (by rw [h2])
  rw [h1, h2] at h
  dsimp only at h
  simp only [Int.toNat_natCast] at h
  exact ⟨h.1, h.2.2.2.1, h.2.2.2.2.1⟩

theorem KOK.front (K : KOK s ks W n m) : (lowS s).extract 0 (s.extract 0 (3 + ks.size)).size = s.extract 0 (3 + ks.size) ∧ (s.extract 0 (3 + ks.size)).size ≤ (lowS s).size ∧ 3 + ks.size ≤ s.size := by
  obtain ⟨l1, l2, _⟩ := low_read K.ker
  have h1 := hdr_le s
  have h2 := hdr_le (lowS s)
  rw [l1] at h2
  have h3 := K.at_
  have h4 := K.kinds
  have e : 3 + ks.size = (hdr s).1 := by omega
  rw [e]
  have e2 : (s.extract 0 (hdr s).1).size = (hdr s).1 := by rw [ByteArray.size_extract]; omega
  rw [e2]
  exact ⟨l2, h2, h1⟩
end

set_option maxHeartbeats 1000000 in
theorem begins_gen (s t : ByteArray) (w : World) :
    Calls Try.prog 12 #[.string s, .string t] w fun e w' => ∃ bb, e = .returned (.bool bb) ∧ (s.extract 0 t.size = t → t.size ≤ s.size → bb = true) ∧ w' = w := by
  by_cases hl : t.size ≤ s.size
  · go_enter Try.func12, Try.ntmps12
    go_wp2_with fail
    go_ret
    exact ⟨_, rfl, fun e _ => by rw [e]; simp, rfl⟩
  · have Hl := hide hl
    have hd : decide ((s.size : Int) ≥ (t.size : Int)) = false := by simp; omega
    go_enter Try.func12, Try.ntmps12
    go_wp2_with fail
    go_ret
    exact ⟨_, rfl, fun _ e => (unhide Hl e).elim, rfl⟩

set_option maxHeartbeats 2000000 in
theorem sameEnds_any (tr sr te se : Int) (Sr' Se : ByteArray) (a1 a2 : Option Addr) (c1 c2 : Nat) (zs ys : List Int) (hle : ys.length = zs.length) (hl : zs.length ≤ 9223372036854775807) (w : World) (h1 : LiesO w a1 zs) (h2 : LiesO w a2 ys) :
    Calls Try.prog 14 #[.agg #[.int .i64 tr, .int .i64 sr, .string Sr', .slice a1 zs.length c1], .agg #[.int .i64 te, .int .i64 se, .string Se, .slice a2 zs.length c2]] w fun e w' => ∃ bb, e = .returned (.bool bb) ∧ (tr = te → zs = ys → Sr' = Se → bb = true) ∧ Below w.heap.size w w' := by
  have hg := gb_alloc (gb_alloc (gb_refl w none) (.cells #[.int .i64 tr, .int .i64 sr, .string Sr', .slice a1 zs.length c1] 32)) (.cells #[.int .i64 te, .int .i64 se, .string Se, .slice a2 zs.length c2] 32)
  have hs := hide (sameInts_gen a1 a2 c1 c2 zs ys hle hl _ (h1.grown hg) (h2.grown hg))
  clear h1 h2
  have hT := hide (show ∀ x, (tr == te) = x → x = false → tr ≠ te from fun x h h' e => by subst e; simp [h'] at h)
  go_enter Try.func14, Try.ntmps14
  go_wp2_with fail
  refine (unhide hs).mono ?_
  rintro e w1 ⟨bb, rfl, hb, hB⟩
  have Hb := hide hb
  clear hb
  have r0 := hB.cell (p := ⟨w.heap.size, 0, none⟩) (by simp; omega)
  have r1 := hB.cell (p := ⟨w.heap.size, 2, none⟩) (by simp; omega)
  have r2 := hB.cell (p := ⟨w.heap.size + 1, 0, none⟩) (by simp)
  have r3 := hB.cell (p := ⟨w.heap.size + 1, 2, none⟩) (by simp)
  simp at r0 r1 r2 r3
  have HB := hide ((((Below.refl w.heap.size w).alloc (Nat.le_refl _) (.cells #[.int .i64 tr, .int .i64 sr, .string Sr', .slice a1 zs.length c1] 32)).alloc (by simp) (.cells #[.int .i64 te, .int .i64 se, .string Se, .slice a2 zs.length c2] 32)).trans (hB.mono (by simp; omega)))
  clear hB
  cases bb with
  | false =>
    go_wp2_with fail
    go_ret
    exact ⟨_, rfl, fun _ e _ => absurd (unhide Hb e) (by simp), unhide HB⟩
  | true =>
    cases hq : (tr == te) with
    | false =>
      go_wp2_with fail
      go_ret
      exact ⟨_, rfl, fun e => absurd e (unhide hT _ hq rfl), unhide HB⟩
    | true =>
      go_wp2_with fail
      go_ret
      refine ⟨_, rfl, fun _ _ e => ?_, unhide HB⟩
      subst e; simp
end Go.Proofs.Ytnkbfdbbcaffmab
/-
  Matched.
-/
namespace Go.Proofs.Ytnkbfdbbcaffmab
open Go.RowKit

/-- A list of numbers that was handed in. -/
structure Nums (w : World) (ao : Option Addr) (zs : List Int) : Prop where
  len : zs.length ≤ 9223372036854775806
  num : ∀ z ∈ zs, inI z
  lies : LiesO w ao zs

theorem Nums.below {w w' : World} {ao : Option Addr} {zs : List Int} (h : Nums w ao zs) (hB : Below w.heap.size w w') : Nums w' ao zs := ⟨h.len, h.num, h.lies.grown (below_gb hB)⟩

/-- A kernel, an input, two results in memory. -/
structure Two (w : World) (kb rb qb g gs gt : Nat) (s ks : ByteArray) (W n : Nat) (zs : List Int) (R1 R2 : Res) : Prop where
  k : At w kb 24 #[.string s, .string ks, .int .i64 W, .int .i64 n]
  r : At w rb 32 #[.int .i64 R1.tag, .int .i64 R1.steps, .string (strOfNums R1.sn), .slice (some ⟨gs, 0, none⟩) zs.length zs.length]
  q : At w qb 32 #[.int .i64 R2.tag, .int .i64 R2.steps, .string (strOfNums R2.sn), .slice (some ⟨gt, 0, none⟩) zs.length zs.length]
  l : Lies w ⟨g, 0, none⟩ zs
  x : At w gs 3 (intsV R1.σ)
  y : At w gt 3 (intsV R2.σ)
  lt : g < w.heap.size

theorem Two.below {w w' : World} {kb rb qb g gs gt : Nat} {s ks : ByteArray} {W n : Nat} {zs : List Int} {R1 R2 : Res} (h : Two w kb rb qb g gs gt s ks W n zs R1 R2) (hB : Below w.heap.size w w') : Two w' kb rb qb g gs gt s ks W n zs R1 R2 :=
  ⟨h.k.below hB h.k.lt, h.r.below hB h.r.lt, h.q.below hB h.q.lt, h.l.below hB h.lt, h.x.below hB h.x.lt, h.y.below hB h.y.lt, Nat.lt_of_lt_of_le h.lt hB.size⟩

theorem mt_ways {n m : Nat} {R E : Res} (G : Agr n m R E) (bb : Bool) (hb : R.tag = E.tag → R.σ = E.σ → strOfNums R.sn = strOfNums E.sn → bb = true) :
    (R.tag = 3 ∨ (R.tag ≠ 3 ∧ ¬ 2 * (R.steps : Int) + 2 ≤ m) ∨ (R.tag ≠ 3 ∧ 2 * (R.steps : Int) + 2 ≤ m ∧ bb = true)) ∧
    (E.tag = 3 ∨ (E.tag ≠ 3 ∧ ¬ (E.steps : Int) ≤ n) ∨ (E.tag ≠ 3 ∧ (E.steps : Int) ≤ n ∧ bb = true)) ∧
    ∀ c k : Bool, ((strOfNums R.sn).extract 0 (strOfNums E.sn).size = strOfNums E.sn → (strOfNums E.sn).size ≤ (strOfNums R.sn).size → c = true) → ((strOfNums E.sn).extract 0 (strOfNums R.sn).size = strOfNums R.sn → (strOfNums R.sn).size ≤ (strOfNums E.sn).size → k = true) →
      (c = true ∨ (c = false ∧ k = true ∧ ¬ (m : Int) ≤ n)) ∧ ((m : Int) < 2 * n + 2 ∨ (¬ (m : Int) < 2 * n + 2 ∧ k = true)) := by
  obtain ⟨g1, g2, g3, g4, g5⟩ := G
  refine ⟨?_, ?_, ?_⟩
  · by_cases a : R.tag = 3
    · exact .inl a
    · by_cases b : 2 * (R.steps : Int) + 2 ≤ m
      · obtain ⟨x, y, z⟩ := g1 a (by omega)
        exact .inr (.inr ⟨a, b, hb x.symm y.symm (by rw [z])⟩)
      · exact .inr (.inl ⟨a, b⟩)
  · by_cases a : E.tag = 3
    · exact .inl a
    · by_cases b : (E.steps : Int) ≤ n
      · obtain ⟨x, y, z⟩ := g2 a (by omega)
        exact .inr (.inr ⟨a, b, hb x.symm y.symm (by rw [z])⟩)
      · exact .inr (.inl ⟨a, b⟩)
  · intro c k h1 h2
    constructor
    · cases c with
      | true => exact .inl rfl
      | false =>
        refine .inr ⟨rfl, ?_, ?_⟩
        · rcases g3 with x | x
          · have := h1 (strP x).1 (strP x).2; cases this
          · exact h2 (strP x).1 (strP x).2
        · intro hh
          have x := g4 (by omega)
          have := h1 (strP x).1 (strP x).2; cases this
    · by_cases hh : (m : Int) < 2 * n + 2
      · exact .inl hh
      · have x := g5 (by omega)
        exact .inr ⟨hh, h2 (strP x).1 (strP x).2⟩

set_option maxRecDepth 20000 in
set_option maxHeartbeats 4000000 in
theorem matched_walk (a1 a2 : Option Addr) (c1 c2 : Nat) (l a : List Int) (view fuel more : Int) (hv : inI view) (hle : inI fuel) (hmo : inI more) (w : World) (h1 : Nums w a1 l) (h2 : Nums w a2 a) :
    Calls Try.prog 3 #[.slice a1 l.length c1, .slice a2 a.length c2, .int .i64 view, .int .i64 fuel, .int .i64 more] w fun e w' => e = .returned (.bool true) ∧ Below w.heap.size w w' := by
  have H1 := hide h1
  have H2 := hide h2
  clear h1 h2
  go_enter Try.func3, Try.ntmps3
  go_wp2_with fail
  refine (kernel_any a1 c1 l (unhide H1).len (unhide H1).num w (unhide H1).lies).mono ?_
  rintro e w1 ⟨s, ks, W, n, m, rfl, hK, hB1⟩
  have HK := hide hK
  have hks := hK.kinds
  have hn1 := hK.n1
  have hn8 := hK.n8
  have hm16 := hK.m16
  have hks100 : ks.size ≤ 100 := by omega
  have Hks := hide hks
  have hA1 := At.new w1 24 #[.string s, .string ks, .int .i64 W, .int .i64 n]
  have H2' := hide (((unhide H2).lies.grown (below_gb hB1)).grown (gb_alloc (gb_refl w1 none) (.cells #[.string s, .string ks, .int .i64 W, .int .i64 n] 24)))
  have hB1' := hide (hB1.alloc hB1.size (.cells #[.string s, .string ks, .int .i64 W, .int .i64 n] 24))
  have hz1 := hB1.size
  clear hK hks
  go_wp2_with fail
  refine (input_any s ks W n (unhide HK).w1 (unhide HK).w8 hks100 a2 c2 a (unhide H2).num _ (unhide H2')).mono ?_
  rintro e w2 ⟨iv, rfl, hI2, hB2⟩
  have hzl := inp_len (pw W) a ks.size
  have hfit := inp_fits (pw_bd W (unhide HK).w8).1 a ks.size
  obtain ⟨g, cap, rfl, hg1, hg2, hL2⟩ := hI2.open_ (by have := unhide Hks; omega)
  have hA2 := hA1.below hB2 (by simp)
  have hB2' := hide ((unhide hB1').trans (hB2.mono (by simp; omega)))
  generalize inp (pw W) a ks.size = zs at *
  have hz := hB2.size
  simp at hz hg1
  have hzs : zs.length ≤ 100 := by omega
  have hz0 : zs.length = n + m := by have := unhide Hks; omega
  have Hz := hide hz0
  have Hfit := hide hfit
  have HL2 := hide hL2
  clear hI2 hB2 hfit hL2 hB1 hA1 hzl hz0 H1 H2 H2'
  obtain ⟨k0, k1, k2, k3⟩ := hA2.four
  go_wp2_with fail
  refine (pick_any view 9 (by omega) (by omega) hv _).mono ?_
  rintro e w3 ⟨rfl, rfl⟩
  obtain ⟨v, hvv⟩ : ∃ v : Nat, pck view 9 = (v : Int) := ⟨(pck view 9).toNat, by have := pck_bd view (n := 9) (by omega); omega⟩
  have hv8 : v ≤ 8 := by have := pck_bd view (n := 9) (by omega); omega
  rw [hvv]
  clear hvv hv
  go_wp2_with fail
  refine (pick_any fuel 10001 (by omega) (by omega) hle _).mono ?_
  rintro e w4 ⟨rfl, rfl⟩
  obtain ⟨f, hff⟩ : ∃ f : Nat, pck fuel 10001 = (f : Int) := ⟨(pck fuel 10001).toNat, by have := pck_bd fuel (n := 10001) (by omega); omega⟩
  have hf8 : f ≤ 10000 := by have := pck_bd fuel (n := 10001) (by omega); omega
  rw [hff]
  clear hff hle
  go_wp2_with fail
  refine (pick_any more 10001 (by omega) (by omega) hmo _).mono ?_
  rintro e w5 ⟨rfl, rfl⟩
  obtain ⟨d, hdd⟩ : ∃ d : Nat, pck more 10001 = (d : Int) := ⟨(pck more 10001).toNat, by have := pck_bd more (n := 10001) (by omega); omega⟩
  have hd8 : d ≤ 10000 := by have := pck_bd more (n := 10001) (by omega); omega
  rw [hdd]
  clear hdd hmo
  have hlow := hide (fun w0 => leakLower_any s (by have := (unhide HK).size; unfold maxLen; omega) w0)
  rw [(unhide HK).ker] at hlow
  have hmore := hide ((unhide HK).agr v (by omega) (by omega) zs (unhide Hz) (unhide Hfit) f d hf8 hd8)
  have hfront := hide (unhide HK).front
  have hst1 := hide ((unhide HK).begun v zs f)
  have htg1 := hide (kR_tag (s := s) (W := W) (n := n) (m := m) v zs f)
  have htg2 := hide (eR_tag (s := s) (W := W) (n := n) (m := m) v zs d)
  have hln1 := hide (kR_len (s := s) (W := W) (n := n) (m := m) v zs f)
  have hln2 := hide (eR_len (s := s) (W := W) (n := n) (m := m) v zs d)
  have hrun1 := hide (fun w0 h hg => run_ok (unhide HK) v (by omega) (by omega) zs (unhide Hz) (unhide Hfit) f (by omega) g cap w0 h hg)
  have hrun2 := hide (fun w0 h hg => exec_ok (unhide HK) v (by omega) (by omega) zs (unhide Hz) (unhide Hfit) d (by omega) g cap w0 h hg)
  generalize kR s W n m v zs f = R1 at *
  generalize eR s W n m v zs d = R2 at *
  generalize lowS s = lo at *
  go_wp2_with fail
  refine (unhide hlow _).mono ?_
  rintro e w5 ⟨rfl, hB5⟩
  have hz5 := hB5.size
  have hA5 := hA2.below hB5 (by omega)
  have hL5 := hide ((unhide HL2).below hB5 hg2)
  have hB5' := hide ((unhide hB2').trans (hB5.mono (by omega)))
  have hg5 : g < w5.heap.size := by omega
  clear k0 k1 k2 k3 hB5 hA2 HL2 hB2' hlow
  obtain ⟨k0, k1, k2, k3⟩ := hA5.four
  go_wp2_with fail
  refine (unhide hrun1 _ (unhide hL5) hg5).mono ?_
  rintro e w6 ⟨gs, rfl, hS6, hgs6, hB6⟩
  have hz6 := hB6.size
  have hA6 := (hA5.below hB6 (by omega)).alloc (.cells #[.int .i64 R1.tag, .int .i64 R1.steps, .string (strOfNums R1.sn), .slice (some ⟨gs, 0, none⟩) zs.length zs.length] 32)
  have hL6 := ((unhide hL5).below hB6 hg5).grown (gb_alloc (gb_refl w6 none) (.cells #[.int .i64 R1.tag, .int .i64 R1.steps, .string (strOfNums R1.sn), .slice (some ⟨gs, 0, none⟩) zs.length zs.length] 32)) (by simp)
  have hS6' := hS6.alloc (.cells #[.int .i64 R1.tag, .int .i64 R1.steps, .string (strOfNums R1.sn), .slice (some ⟨gs, 0, none⟩) zs.length zs.length] 32)
  have hR6 := At.new w6 32 #[.int .i64 R1.tag, .int .i64 R1.steps, .string (strOfNums R1.sn), .slice (some ⟨gs, 0, none⟩) zs.length zs.length]
  have hB6' := hide (((unhide hB5').trans (hB6.mono (by omega))).alloc (by omega) (.cells #[.int .i64 R1.tag, .int .i64 R1.steps, .string (strOfNums R1.sn), .slice (some ⟨gs, 0, none⟩) zs.length zs.length] 32))
  have hgl6 := hS6.lt
  have HL6 := hide hL6
  have HS6 := hide hS6'
  clear k0 k1 k2 k3 hS6 hB6 hL6 hS6' hA5 hL5 hB5'
  obtain ⟨k0, k1, k2, k3⟩ := hA6.four
  go_wp2_with fail
  refine (unhide hrun2 _ (unhide HL6) (by simp; omega)).mono ?_
  rintro e w7 ⟨gt, rfl, hS7, hgs7, hB7⟩
  have hz7 := hB7.size
  simp at hz7 hgs7
  have hA7 := (hA6.below hB7 (by simp; omega)).alloc (.cells #[.int .i64 R2.tag, .int .i64 R2.steps, .string (strOfNums R2.sn), .slice (some ⟨gt, 0, none⟩) zs.length zs.length] 32)
  have hL7 := ((unhide HL6).below hB7 (by simp; omega)).grown (gb_alloc (gb_refl w7 none) (.cells #[.int .i64 R2.tag, .int .i64 R2.steps, .string (strOfNums R2.sn), .slice (some ⟨gt, 0, none⟩) zs.length zs.length] 32)) (by simp)
  have hS7' := hS7.alloc (.cells #[.int .i64 R2.tag, .int .i64 R2.steps, .string (strOfNums R2.sn), .slice (some ⟨gt, 0, none⟩) zs.length zs.length] 32)
  have hQ7 := ((unhide HS6).below hB7 (by simp; omega)).alloc (.cells #[.int .i64 R2.tag, .int .i64 R2.steps, .string (strOfNums R2.sn), .slice (some ⟨gt, 0, none⟩) zs.length zs.length] 32)
  have hR7 := (hR6.below hB7 (by simp)).alloc (.cells #[.int .i64 R2.tag, .int .i64 R2.steps, .string (strOfNums R2.sn), .slice (some ⟨gt, 0, none⟩) zs.length zs.length] 32)
  have hT7 := At.new w7 32 #[.int .i64 R2.tag, .int .i64 R2.steps, .string (strOfNums R2.sn), .slice (some ⟨gt, 0, none⟩) zs.length zs.length]
  have hB7' := hide (((unhide hB6').trans (hB7.mono (by simp; omega))).alloc (by omega) (.cells #[.int .i64 R2.tag, .int .i64 R2.steps, .string (strOfNums R2.sn), .slice (some ⟨gt, 0, none⟩) zs.length zs.length] 32))
  have hgl7 := hS7.lt
  have HL7 := hide hL7
  have HS7 := hide hS7'
  have HQ7 := hide hQ7
  clear k0 k1 k2 k3 hS7 hB7 hL7 hS7' hQ7 hA6 hR6 HL6 HS6 hB6' hrun1 hrun2
  obtain ⟨k0, k1, k2, k3⟩ := hA7.four
  obtain ⟨p0, p1, p2, p3⟩ := hR7.four
  obtain ⟨q0, q1, q2, q3⟩ := hT7.four
  have hT : Two (w7.alloc (.cells #[.int .i64 R2.tag, .int .i64 R2.steps, .string (strOfNums R2.sn), .slice (some ⟨gt, 0, none⟩) zs.length zs.length] 32)) w1.heap.size w6.heap.size w7.heap.size g gs gt s ks W n zs R1 R2 := ⟨hA7, hR7, hT7, unhide HL7, unhide HQ7, unhide HS7, by simp; omega⟩
  have HT := hide hT
  clear hT hA7 hR7 hT7 HL7 HS7 HQ7
  go_wp2_with fail
  refine (ended_any s ks W n R1.tag R1.steps (strOfNums R1.sn) (some ⟨gs, 0, none⟩) zs.length zs.length (unhide htg1) (by have := unhide Hks; have := unhide Hz; omega) hzs _).mono ?_
  rintro e w8 ⟨rfl, hB8⟩
  have HT8 := hide ((unhide HT).below hB8)
  have hB8' := hide ((unhide hB7').trans (hB8.mono (by simp; omega)))
  have hz8 := hB8.size
  simp at hz8
  clear k0 k1 k2 k3 p0 p1 p2 p3 q0 q1 q2 q3 hB8 HT hB7'
  obtain ⟨k0, k1, k2, k3⟩ := (unhide HT8).k.four
  obtain ⟨p0, p1, p2, p3⟩ := (unhide HT8).r.four
  obtain ⟨q0, q1, q2, q3⟩ := (unhide HT8).q.four
  go_wp2_with fail
  refine (ended_any s ks W n R2.tag R2.steps (strOfNums R2.sn) (some ⟨gt, 0, none⟩) zs.length zs.length (unhide htg2) (by have := unhide Hks; have := unhide Hz; omega) hzs _).mono ?_
  rintro e w9 ⟨rfl, hB9⟩
  have HT9 := hide ((unhide HT8).below hB9)
  have hB9' := hide ((unhide hB8').trans (hB9.mono (by omega)))
  have hz9 := hB9.size
  clear k0 k1 k2 k3 p0 p1 p2 p3 q0 q1 q2 q3 hB9 HT8 hB8'
  obtain ⟨k0, k1, k2, k3⟩ := (unhide HT9).k.four
  obtain ⟨p0, p1, p2, p3⟩ := (unhide HT9).r.four
  obtain ⟨q0, q1, q2, q3⟩ := (unhide HT9).q.four
  have hfr3 := (unhide hfront).2.2
  go_wp2_with fail
  refine (begins_gen lo (s.extract 0 (3 + ks.size)) w9).mono ?_
  rintro e w9' ⟨bh, rfl, hbh, rfl⟩
  obtain rfl : bh = true := hbh (unhide hfront).1 (unhide hfront).2.1
  clear hfr3 hbh hfront
  go_wp2_with fail
  refine (starts_any (cin := cap) (unhide HK) (unhide Hz) (liesO_of (unhide HT9).l (unhide HT9).lt) f R1 (unhide hst1) (some ⟨gs, 0, none⟩) zs.length (unhide hln1) (liesO_of (at_lies (unhide HT9).x) (unhide HT9).x.lt)).mono ?_
  rintro e wa ⟨rfl, hBa⟩
  have HTa := hide ((unhide HT9).below hBa)
  have hBa' := hide ((unhide hB9').trans (hBa.mono (by omega)))
  have hza := hBa.size
  clear k0 k1 k2 k3 p0 p1 p2 p3 q0 q1 q2 q3 hBa HT9 hB9' hst1
  obtain ⟨p0, p1, p2, p3⟩ := (unhide HTa).r.four
  obtain ⟨q0, q1, q2, q3⟩ := (unhide HTa).q.four
  have hal := hide (sameEnds_any R1.tag R1.steps R2.tag R2.steps (strOfNums R1.sn) (strOfNums R2.sn) (some ⟨gs, 0, none⟩) (some ⟨gt, 0, none⟩) zs.length zs.length R1.σ R2.σ (by rw [unhide hln1, unhide hln2]) (by rw [unhide hln1]; omega) wa (liesO_of (at_lies (unhide HTa).x) (unhide HTa).x.lt) (liesO_of (at_lies (unhide HTa).y) (unhide HTa).y.lt))
  rw [unhide hln1] at hal
  have hb1 := hide (fun w0 => begins_gen (strOfNums R1.sn) (strOfNums R2.sn) w0)
  have hb2 := hide (fun w0 => begins_gen (strOfNums R2.sn) (strOfNums R1.sn) w0)
  have HM := hide (mt_ways (unhide hmore).1)
  have hs1 := (unhide hmore).2.1
  have hs2 := (unhide hmore).2.2
  have HTr := hide (unhide HTa).r
  have HTq := hide (unhide HTa).q
  clear hmore htg1 htg2 hln1 hln2 HTa
  generalize strOfNums R1.sn = str1 at *
  generalize strOfNums R2.sn = str2 at *
  generalize R1.tag = t1 at *
  generalize R2.tag = t2 at *
  generalize R1.steps = u1 at *
  generalize R2.steps = u2 at *
  generalize R1.σ = σ1 at *
  generalize R2.σ = σ2 at *
  go_wp2_with fail
  refine (unhide hal).mono ?_
  rintro e wc ⟨bb, rfl, hbb, hBc⟩
  have HTr2 := hide ((unhide HTr).below hBc (unhide HTr).lt)
  have HTq2 := hide ((unhide HTq).below hBc (unhide HTq).lt)
  have hBc' := hide ((unhide hBa').trans (hBc.mono (by omega)))
  clear p0 p1 p2 p3 q0 q1 q2 q3 hBc hBa' hal HTr HTq
  obtain ⟨p0, p1, p2, p3⟩ := (unhide HTr2).four
  obtain ⟨q0, q1, q2, q3⟩ := (unhide HTq2).four
  obtain ⟨e1, e2, hc⟩ := unhide HM bb hbb
  have E1 := hide e1
  have E2 := hide e2
  have HC := hide hc
  clear e1 e2 hc hbb HM
  rcases unhide E1 with rfl | ⟨h, h'⟩ | ⟨h, h', rfl⟩ <;> rcases unhide E2 with rfl | ⟨k, k'⟩ | ⟨k, k', e⟩
  all_goals (try subst e)
  all_goals
    clear E1 E2
    go_wp2_with fail
    refine (unhide hb1 _).mono ?_
    rintro e w2 ⟨bc, rfl, hbc, rfl⟩
    have Hbc := hide hbc
    clear hbc
    go_wp2_with fail
    refine (unhide hb2 _).mono ?_
    rintro e w3 ⟨bk, rfl, hbk, rfl⟩
    obtain ⟨t1, t2⟩ := unhide HC bc bk (unhide Hbc) hbk
    clear Hbc hbk HC hb1 hb2
    rcases t1 with rfl | ⟨rfl, rfl, t1⟩
    · by_cases t3 : (d : Int) ≤ f
      all_goals
        rcases t2 with t2 | ⟨t2, rfl⟩
        all_goals
          go_wp2_with fail
          go_ret
          exact ⟨rfl, unhide hBc'⟩
    · rcases t2 with t2 | ⟨t2, _⟩
      all_goals
        go_wp2_with fail
        go_ret
        exact ⟨rfl, unhide hBc'⟩
end Go.Proofs.Ytnkbfdbbcaffmab
