import Derived.Test.YtnkbfdbbcaffmaaX23KpJ
/-
  Longer.
-/
namespace Go.Proofs.Ytnkbfdbbcaffmaa
open Go.RowKit

/-- A list of numbers that was handed in. -/
structure Nums (w : World) (ao : Option Addr) (zs : List Int) : Prop where
  len : zs.length ≤ 9223372036854775806
  num : ∀ z ∈ zs, inI z
  lies : LiesO w ao zs

theorem Nums.below {w w' : World} {ao : Option Addr} {zs : List Int} (h : Nums w ao zs) (hB : Below w.heap.size w w') : Nums w' ao zs := ⟨h.len, h.num, h.lies.grown (below_gb hB)⟩

/-- A kernel, an input, two results in memory. -/
structure Two (w : World) (kb rb qb g gs gt : Nat) (s ks : ByteArray) (W n : Nat) (zs : List Int) (R1 R2 : Res) : Prop where
  k : At w kb 24 #[.string s, .string ks, .int .i64 W, .int .i64 n]
  r : At w rb 29 #[.int .i64 R1.tag, .int .i64 R1.steps, .string (strOfNums R1.sn), .slice (some ⟨gs, 0, none⟩) zs.length zs.length]
  q : At w qb 29 #[.int .i64 R2.tag, .int .i64 R2.steps, .string (strOfNums R2.sn), .slice (some ⟨gt, 0, none⟩) zs.length zs.length]
  l : Lies w ⟨g, 0, none⟩ zs
  x : At w gs 3 (intsV R1.σ)
  y : At w gt 3 (intsV R2.σ)
  lt : g < w.heap.size

theorem Two.below {w w' : World} {kb rb qb g gs gt : Nat} {s ks : ByteArray} {W n : Nat} {zs : List Int} {R1 R2 : Res} (h : Two w kb rb qb g gs gt s ks W n zs R1 R2) (hB : Below w.heap.size w w') : Two w' kb rb qb g gs gt s ks W n zs R1 R2 :=
  ⟨h.k.below hB h.k.lt, h.r.below hB h.r.lt, h.q.below hB h.q.lt, h.l.below hB h.lt, h.x.below hB h.x.lt, h.y.below hB h.y.lt, Nat.lt_of_lt_of_le h.lt hB.size⟩

set_option maxRecDepth 20000 in
set_option maxHeartbeats 4000000 in
theorem longer_walk (a1 a2 : Option Addr) (c1 c2 : Nat) (l a : List Int) (view less more : Int) (hv : inI view) (hle : inI less) (hmo : inI more) (w : World) (h1 : Nums w a1 l) (h2 : Nums w a2 a) :
    Calls Try.prog 4 #[.slice a1 l.length c1, .slice a2 a.length c2, .int .i64 view, .int .i64 less, .int .i64 more] w fun e w' => e = .returned (.bool true) ∧ Below w.heap.size w w' := by
  have H1 := hide h1
  have H2 := hide h2
  clear h1 h2
  go_enter Try.func4, Try.ntmps4
  go_wp2_with fail
  refine (kernel_any a1 c1 l (unhide H1).len (unhide H1).num w (unhide H1).lies).mono ?_
  rintro e w1 ⟨s, ks, W, n, m, rfl, hK, hB1⟩
  have HK := hide hK
  have hks := hK.kinds
  have hn1 := hK.n1
  have hn8 := hK.n8
  have hm16 := hK.m16
  have hks100 : ks.size ≤ 100 := by omega
  have Hks := hide hks
  have hA1 := At.new w1 24 #[.string s, .string ks, .int .i64 W, .int .i64 n]
  have H2' := hide (((unhide H2).lies.grown (below_gb hB1)).grown (gb_alloc (gb_refl w1 none) (.cells #[.string s, .string ks, .int .i64 W, .int .i64 n] 24)))
  have hB1' := hide (hB1.alloc hB1.size (.cells #[.string s, .string ks, .int .i64 W, .int .i64 n] 24))
  have hz1 := hB1.size
  clear hK hks
  go_wp2_with fail
  refine (input_any s ks W n (unhide HK).w1 (unhide HK).w8 hks100 a2 c2 a (unhide H2).num _ (unhide H2')).mono ?_
  rintro e w2 ⟨iv, rfl, hI2, hB2⟩
  have hzl := inp_len (pw W) a ks.size
  have hfit := inp_fits (pw_bd W (unhide HK).w8).1 a ks.size
  obtain ⟨g, cap, rfl, hg1, hg2, hL2⟩ := hI2.open_ (by have := unhide Hks; omega)
  have hA2 := hA1.below hB2 (by simp)
  have hB2' := hide ((unhide hB1').trans (hB2.mono (by simp; omega)))
  generalize inp (pw W) a ks.size = zs at *
  have hz := hB2.size
  simp at hz hg1
  have hzs : zs.length ≤ 100 := by omega
  have hz0 : zs.length = n + m := by have := unhide Hks; omega
  have Hz := hide hz0
  have Hfit := hide hfit
  have HL2 := hide hL2
  clear hI2 hB2 hfit hL2 hB1 hA1 hzl hz0 H1 H2 H2'
  obtain ⟨k0, k1, k2, k3⟩ := hA2.four
  go_wp2_with fail
  refine (pick_any view 9 (by omega) (by omega) hv _).mono ?_
  rintro e w3 ⟨rfl, rfl⟩
  obtain ⟨v, hvv⟩ : ∃ v : Nat, pck view 9 = (v : Int) := ⟨(pck view 9).toNat, by have := pck_bd view (n := 9) (by omega); omega⟩
  have hv8 : v ≤ 8 := by have := pck_bd view (n := 9) (by omega); omega
  rw [hvv]
  clear hvv hv
  go_wp2_with fail
  refine (pick_any less 10001 (by omega) (by omega) hle _).mono ?_
  rintro e w4 ⟨rfl, rfl⟩
  obtain ⟨f, hff⟩ : ∃ f : Nat, pck less 10001 = (f : Int) := ⟨(pck less 10001).toNat, by have := pck_bd less (n := 10001) (by omega); omega⟩
  have hf8 : f ≤ 10000 := by have := pck_bd less (n := 10001) (by omega); omega
  rw [hff]
  clear hff hle
  go_wp2_with fail
  refine (pick_any more (10001 - f) (by omega) (by omega) hmo _).mono ?_
  rintro e w5 ⟨rfl, rfl⟩
  obtain ⟨d, hdd⟩ : ∃ d : Nat, pck more (10001 - f) = (d : Int) := ⟨(pck more (10001 - f)).toNat, by have := pck_bd more (n := 10001 - f) (by omega); omega⟩
  have hd8 : f + d ≤ 10000 := by have := pck_bd more (n := 10001 - f) (by omega); omega
  rw [hdd]
  clear hdd hmo
  have hmore := hide (kR_more (s := s) (W := W) (n := n) (m := m) v zs f (f + d) (by omega))
  have hst1 := hide ((unhide HK).begun v zs f)
  have hst2 := hide ((unhide HK).begun v zs (f + d))
  have htg1 := hide (kR_tag (s := s) (W := W) (n := n) (m := m) v zs f)
  have htg2 := hide (kR_tag (s := s) (W := W) (n := n) (m := m) v zs (f + d))
  have hln1 := hide (kR_len (s := s) (W := W) (n := n) (m := m) v zs f)
  have hln2 := hide (kR_len (s := s) (W := W) (n := n) (m := m) v zs (f + d))
  have hrun1 := hide (fun w0 h hg => run_ok (unhide HK) v (by omega) (by omega) zs (unhide Hz) (unhide Hfit) f (by omega) g cap w0 h hg)
  have hrun2 := hide (fun w0 h hg => by
    have h' := run_ok (unhide HK) v (by omega) (by omega) zs (unhide Hz) (unhide Hfit) (f + d) (by omega) g cap w0 h hg
    rw [Int.natCast_add] at h'; exact h')
  generalize kR s W n m v zs f = R1 at *
  generalize kR s W n m v zs (f + d) = R2 at *
  go_wp2_with fail
  refine (unhide hrun1 _ (unhide HL2) hg2).mono ?_
  rintro e w6 ⟨gs, rfl, hS6, hgs6, hB6⟩
  have hz6 := hB6.size
  have hA6 := (hA2.below hB6 (by omega)).alloc (.cells #[.int .i64 R1.tag, .int .i64 R1.steps, .string (strOfNums R1.sn), .slice (some ⟨gs, 0, none⟩) zs.length zs.length] 29)
  have hL6 := ((unhide HL2).below hB6 hg2).grown (gb_alloc (gb_refl w6 none) (.cells #[.int .i64 R1.tag, .int .i64 R1.steps, .string (strOfNums R1.sn), .slice (some ⟨gs, 0, none⟩) zs.length zs.length] 29)) (by simp)
  have hS6' := hS6.alloc (.cells #[.int .i64 R1.tag, .int .i64 R1.steps, .string (strOfNums R1.sn), .slice (some ⟨gs, 0, none⟩) zs.length zs.length] 29)
  have hR6 := At.new w6 29 #[.int .i64 R1.tag, .int .i64 R1.steps, .string (strOfNums R1.sn), .slice (some ⟨gs, 0, none⟩) zs.length zs.length]
  have hB6' := hide (((unhide hB2').trans (hB6.mono (by omega))).alloc (by omega) (.cells #[.int .i64 R1.tag, .int .i64 R1.steps, .string (strOfNums R1.sn), .slice (some ⟨gs, 0, none⟩) zs.length zs.length] 29))
  have hgl6 := hS6.lt
  have HL6 := hide hL6
  have HS6 := hide hS6'
  clear k0 k1 k2 k3 hS6 hB6 hL6 hS6' hA2 HL2 hB2'
  obtain ⟨k0, k1, k2, k3⟩ := hA6.four
  go_wp2_with fail
  refine (unhide hrun2 _ (unhide HL6) (by simp; omega)).mono ?_
  rintro e w7 ⟨gt, rfl, hS7, hgs7, hB7⟩
  have hz7 := hB7.size
  simp at hz7 hgs7
  have hA7 := (hA6.below hB7 (by simp; omega)).alloc (.cells #[.int .i64 R2.tag, .int .i64 R2.steps, .string (strOfNums R2.sn), .slice (some ⟨gt, 0, none⟩) zs.length zs.length] 29)
  have hL7 := ((unhide HL6).below hB7 (by simp; omega)).grown (gb_alloc (gb_refl w7 none) (.cells #[.int .i64 R2.tag, .int .i64 R2.steps, .string (strOfNums R2.sn), .slice (some ⟨gt, 0, none⟩) zs.length zs.length] 29)) (by simp)
  have hS7' := hS7.alloc (.cells #[.int .i64 R2.tag, .int .i64 R2.steps, .string (strOfNums R2.sn), .slice (some ⟨gt, 0, none⟩) zs.length zs.length] 29)
  have hQ7 := ((unhide HS6).below hB7 (by simp; omega)).alloc (.cells #[.int .i64 R2.tag, .int .i64 R2.steps, .string (strOfNums R2.sn), .slice (some ⟨gt, 0, none⟩) zs.length zs.length] 29)
  have hR7 := (hR6.below hB7 (by simp)).alloc (.cells #[.int .i64 R2.tag, .int .i64 R2.steps, .string (strOfNums R2.sn), .slice (some ⟨gt, 0, none⟩) zs.length zs.length] 29)
  have hT7 := At.new w7 29 #[.int .i64 R2.tag, .int .i64 R2.steps, .string (strOfNums R2.sn), .slice (some ⟨gt, 0, none⟩) zs.length zs.length]
  have hB7' := hide (((unhide hB6').trans (hB7.mono (by simp; omega))).alloc (by omega) (.cells #[.int .i64 R2.tag, .int .i64 R2.steps, .string (strOfNums R2.sn), .slice (some ⟨gt, 0, none⟩) zs.length zs.length] 29))
  have hgl7 := hS7.lt
  have HL7 := hide hL7
  have HS7 := hide hS7'
  have HQ7 := hide hQ7
  clear k0 k1 k2 k3 hS7 hB7 hL7 hS7' hQ7 hA6 hR6 HL6 HS6 hB6' hrun1 hrun2
  obtain ⟨k0, k1, k2, k3⟩ := hA7.four
  obtain ⟨p0, p1, p2, p3⟩ := hR7.four
  obtain ⟨q0, q1, q2, q3⟩ := hT7.four
  have hT : Two (w7.alloc (.cells #[.int .i64 R2.tag, .int .i64 R2.steps, .string (strOfNums R2.sn), .slice (some ⟨gt, 0, none⟩) zs.length zs.length] 29)) w1.heap.size w6.heap.size w7.heap.size g gs gt s ks W n zs R1 R2 := ⟨hA7, hR7, hT7, unhide HL7, unhide HQ7, unhide HS7, by simp; omega⟩
  have HT := hide hT
  clear hT hA7 hR7 hT7 HL7 HS7 HQ7
  go_wp2_with fail
  refine (ended_any s ks W n R1.tag R1.steps (strOfNums R1.sn) (some ⟨gs, 0, none⟩) zs.length zs.length (unhide htg1) (by have := unhide Hks; have := unhide Hz; omega) hzs _).mono ?_
  rintro e w8 ⟨rfl, hB8⟩
  have HT8 := hide ((unhide HT).below hB8)
  have hB8' := hide ((unhide hB7').trans (hB8.mono (by simp; omega)))
  have hz8 := hB8.size
  simp at hz8
  clear k0 k1 k2 k3 p0 p1 p2 p3 q0 q1 q2 q3 hB8 HT hB7'
  obtain ⟨k0, k1, k2, k3⟩ := (unhide HT8).k.four
  obtain ⟨p0, p1, p2, p3⟩ := (unhide HT8).r.four
  obtain ⟨q0, q1, q2, q3⟩ := (unhide HT8).q.four
  go_wp2_with fail
  refine (ended_any s ks W n R2.tag R2.steps (strOfNums R2.sn) (some ⟨gt, 0, none⟩) zs.length zs.length (unhide htg2) (by have := unhide Hks; have := unhide Hz; omega) hzs _).mono ?_
  rintro e w9 ⟨rfl, hB9⟩
  have HT9 := hide ((unhide HT8).below hB9)
  have hB9' := hide ((unhide hB8').trans (hB9.mono (by omega)))
  have hz9 := hB9.size
  clear k0 k1 k2 k3 p0 p1 p2 p3 q0 q1 q2 q3 hB9 HT8 hB8'
  obtain ⟨k0, k1, k2, k3⟩ := (unhide HT9).k.four
  obtain ⟨p0, p1, p2, p3⟩ := (unhide HT9).r.four
  obtain ⟨q0, q1, q2, q3⟩ := (unhide HT9).q.four
  go_wp2_with fail
  refine (starts_any (cin := cap) (unhide HK) (unhide Hz) (liesO_of (unhide HT9).l (unhide HT9).lt) f R1 (unhide hst1) (some ⟨gs, 0, none⟩) zs.length (unhide hln1) (liesO_of (at_lies (unhide HT9).x) (unhide HT9).x.lt)).mono ?_
  rintro e wa ⟨rfl, hBa⟩
  have HTa := hide ((unhide HT9).below hBa)
  have hBa' := hide ((unhide hB9').trans (hBa.mono (by omega)))
  have hza := hBa.size
  clear k0 k1 k2 k3 p0 p1 p2 p3 q0 q1 q2 q3 hBa HT9 hB9'
  obtain ⟨k0, k1, k2, k3⟩ := (unhide HTa).k.four
  obtain ⟨p0, p1, p2, p3⟩ := (unhide HTa).r.four
  obtain ⟨q0, q1, q2, q3⟩ := (unhide HTa).q.four
  have hs2 := starts_any (cin := cap) (unhide HK) (unhide Hz) (liesO_of (unhide HTa).l (unhide HTa).lt) (f + d) R2 (unhide hst2) (some ⟨gt, 0, none⟩) zs.length (unhide hln2) (liesO_of (at_lies (unhide HTa).y) (unhide HTa).y.lt)
  rw [Int.natCast_add] at hs2
  have Hs2 := hide hs2
  clear hs2
  go_wp2_with fail
  refine (unhide Hs2).mono ?_
  rintro e wb ⟨rfl, hBb⟩
  have HTb := hide ((unhide HTa).below hBb)
  have hBb' := hide ((unhide hBa').trans (hBb.mono (by omega)))
  have hzb := hBb.size
  clear k0 k1 k2 k3 p0 p1 p2 p3 q0 q1 q2 q3 hBb HTa hBa' Hs2 hst1 hst2
  obtain ⟨p0, p1, p2, p3⟩ := (unhide HTb).r.four
  obtain ⟨q0, q1, q2, q3⟩ := (unhide HTb).q.four
  have hsteps : ¬ f < R1.steps := by
    have := (unhide hmore).1
    omega
  have hal := hide (alike_some R1.tag R1.steps R2.tag R2.steps (strOfNums R1.sn) (strOfNums R2.sn) (some ⟨gs, 0, none⟩) (some ⟨gt, 0, none⟩) zs.length zs.length R1.σ R2.σ (by rw [unhide hln1, unhide hln2]) (by rw [unhide hln1]; omega) wb (liesO_of (at_lies (unhide HTb).x) (unhide HTb).x.lt) (liesO_of (at_lies (unhide HTb).y) (unhide HTb).y.lt))
  rw [unhide hln1] at hal
  go_wp2_with fail
  refine (unhide hal).mono ?_
  rintro e wc ⟨bb, rfl, hbb, hBc⟩
  have HTc := hide ((unhide HTb).below hBc)
  have hBc' := hide ((unhide hBb').trans (hBc.mono (by omega)))
  clear p0 p1 p2 p3 q0 q1 q2 q3 hBc HTb hBb' hal
  obtain ⟨p0, p1, p2, p3⟩ := (unhide HTc).r.four
  obtain ⟨q0, q1, q2, q3⟩ := (unhide HTc).q.four
  by_cases ht3 : R1.tag = 3
  · obtain ⟨hs1, hs2, t, hpre⟩ := (unhide hmore).2.2 ht3
    obtain ⟨hx1, hx2⟩ := str_prefix hpre
    have hbg := hide (fun w0 => begins_any _ _ hx1 hx2 w0)
    clear hx1 hx2 hpre hmore
    generalize strOfNums R1.sn = str1 at *
    generalize strOfNums R2.sn = str2 at *
    have ht4 : (R1.tag != 3) = false := by simpa using ht3
    rw [hs1] at p1
    clear ht3 hs1 hsteps
    go_wp2_with fail
    refine (unhide hbg _).mono ?_
    rintro e wd ⟨rfl, hBd⟩
    have hzc := hBd.size
    rw [← hBd.cell (p := ⟨w6.heap.size, 1, none⟩) (unhide HTc).r.lt] at p1
    rw [← hBd.cell (p := ⟨w7.heap.size, 1, none⟩) (unhide HTc).q.lt] at q1
    go_wp2_with fail
    go_ret
    exact ⟨rfl, (unhide hBc').trans (hBd.mono (by have := (unhide hBc').size; omega))⟩
  · have hsm := (unhide hmore).2.1 ht3
    have hb1 : bb = true := hbb ⟨by rw [hsm], by rw [hsm], by rw [hsm]⟩
    subst hb1
    have hsn : strOfNums R2.sn = strOfNums R1.sn := by rw [hsm]
    rw [hsn] at q2
    have ht4 : (R1.tag != 3) = true := by simpa using ht3
    clear hmore hsm ht3 hbb hsn
    generalize strOfNums R1.sn = str1 at *
    go_wp2_with fail
    go_ret
    exact ⟨rfl, unhide hBc'⟩
end Go.Proofs.Ytnkbfdbbcaffmaa
