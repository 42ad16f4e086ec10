import Derived.Test.YtnkbfdbbcaffmaaX29KbA
import Derived.Test.YtnkbfdbbcaffmaaX24LoW
/-
  Blind.
-/
namespace Go.Proofs.Ytnkbfdbbcaffmaa
open Go.RowKit

theorem Ir.put {w : World} {base h cap : Nat} {zs : List Int} (hI : Ir w base (.slice (some ⟨h, 0, none⟩) zs.length cap) zs) (i : Nat) (hi : i < zs.length) (z : Int) :
    w.cell? ⟨h, i, none⟩ = some (.int .i64 (zs.getD i 0)) ∧ w.frozen? ⟨h, i, none⟩ = false ∧ Lies (w.setCell ⟨h, i, none⟩ (.int .i64 z)) ⟨h, 0, none⟩ (zs.set i z) := by
  rcases hI.2 with ⟨h0, _⟩ | ⟨g, cap', cur, e, _, hh, hn, _, hs, ht⟩
  · cases h0
  · simp at e
    obtain ⟨rfl, rfl⟩ := e
    have hA : At w h 3 cur := hh
    have hcur : ∀ j, j < zs.length → cur[j]? = some (.int .i64 (zs.getD j 0)) := by
      intro j hj
      have h1 : (cur.toList.take (zs.length * 1))[j]? = (intsL zs)[j]? := by rw [ht]
      rw [List.getElem?_take] at h1
      simp [hj, intsL, List.getD] at h1 ⊢
      exact h1
    refine ⟨by rw [hA.cell]; exact hcur i hi, hA.frozen i, fun j v hv => ?_⟩
    have h2 := hA.set i (.int .i64 z)
    rw [Addr.add_lit, Nat.zero_add, h2.cell j]
    obtain ⟨hj, hv'⟩ := List.getElem?_eq_some_iff.1 hv
    simp at hj
    have hjc : j < cur.size := by
      have := hcur j hj
      exact (Array.getElem?_eq_some_iff.1 this).1
    by_cases e : i = j
    · subst e
      simp at hv'
      rw [hv']
      simp [hjc]
    · rw [Array.getElem?_setIfInBounds_ne e, hcur j hj]
      rw [List.getElem_set_ne e] at hv'
      simp [List.getD, hj, hv']

theorem KOK.blind {s ks : ByteArray} {W n m i : Nat} {x y : Int} (K : KOK s ks W n m) (view : Int) (zs ys : List Int) (f : Nat) (hb : Br n i x y zs ys) (hn : NoRead n i (Lft s (3 + n + m))) :
    ∃ τ', kR s W n m view ys f = ⟨(kR s W n m view zs f).tag, (kR s W n m view zs f).steps, (kR s W n m view zs f).sn, τ'⟩ ∧ Br n i x y (kR s W n m view zs f).σ τ' := by
  obtain ⟨κ, h0, he, hf, _⟩ := krn_flow s K.size K.good
  rw [K.at_] at h0
  rw [K.wid, K.vars] at hf
  have hcs := krn_ok s K.good
  rw [K.wid, K.vars] at hcs
  exact runP_blind (view := view) (m := m) hcs hf (B := Lft s (3 + n + m)) hn.1 hn.2 f (f + 1) 0 zs ys [] 0 (Nat.zero_le _) (fun z hz => by rw [h0] at hz; exact hz) hb

theorem br_set (n : Nat) {i : Nat} {zs : List Int} (hi : i < zs.length) (z : Int) : Br n i (zs.getD i 0) z zs (zs.set i z) := by
  refine ⟨by simp, hi, fun j hj => ?_, .inl ⟨rfl, ?_⟩⟩
  · rw [getD_set, if_neg (fun h => hj h.1.symm)]
  · rw [getD_set, if_pos ⟨rfl, hi⟩]

/-- A kernel, two inputs, two results in memory. -/
structure Bld (w : World) (kb rb qb g h gs gt : Nat) (s ks : ByteArray) (W n : Nat) (zs ys : List Int) (R1 R2 : Res) : Prop where
  k : At w kb 24 #[.string s, .string ks, .int .i64 W, .int .i64 n]
  r : At w rb 29 #[.int .i64 R1.tag, .int .i64 R1.steps, .string (strOfNums R1.sn), .slice (some ⟨gs, 0, none⟩) zs.length zs.length]
  q : At w qb 29 #[.int .i64 R2.tag, .int .i64 R2.steps, .string (strOfNums R2.sn), .slice (some ⟨gt, 0, none⟩) zs.length zs.length]
  l : Lies w ⟨g, 0, none⟩ zs
  o : Lies w ⟨h, 0, none⟩ ys
  x : At w gs 3 (intsV R1.σ)
  y : At w gt 3 (intsV R2.σ)
  lt : g < w.heap.size
  lo : h < w.heap.size

theorem Bld.below {w w' : World} {kb rb qb g h gs gt : Nat} {s ks : ByteArray} {W n : Nat} {zs ys : List Int} {R1 R2 : Res} (d : Bld w kb rb qb g h gs gt s ks W n zs ys R1 R2) (hB : Below w.heap.size w w') : Bld w' kb rb qb g h gs gt s ks W n zs ys R1 R2 :=
  ⟨d.k.below hB d.k.lt, d.r.below hB d.r.lt, d.q.below hB d.q.lt, d.l.below hB d.lt, d.o.below hB d.lo, d.x.below hB d.x.lt, d.y.below hB d.y.lt, Nat.lt_of_lt_of_le d.lt hB.size, Nat.lt_of_lt_of_le d.lo hB.size⟩

theorem lies_cell {w : World} {g : Nat} {zs : List Int} (h : Lies w ⟨g, 0, none⟩ zs) {L : Nat} (hl : zs.length = L) (J : Nat) (hJ : J < L) : w.cell? ⟨g, J, none⟩ = some (.int .i64 (zs.getD J 0)) := by
  have h1 := h.at_ J (by omega)
  rw [Nat.zero_add] at h1; exact h1

theorem Br.key {n i : Nat} {z : Int} {zs ys σ τ : List Int} (h : Br n i (zs.getD i 0) z σ τ) (hy : ys.getD i 0 = z) (J : Nat) : (J ≠ i ∧ σ.getD J 0 = τ.getD J 0) ∨ (J = i ∧ σ.getD J 0 = zs.getD J 0 ∧ τ.getD J 0 = ys.getD J 0) ∨ (J = i ∧ σ.getD J 0 = τ.getD J 0) := by
  by_cases e : J = i
  · subst e
    rcases h.here with ⟨e1, e2⟩ | ⟨_, e2⟩
    · exact .inr (.inl ⟨rfl, e1, e2.trans hy.symm⟩)
    · exact .inr (.inr ⟨rfl, e2⟩)
  · exact .inl ⟨e, h.other J e⟩

theorem Br.end_ {n i : Nat} {z : Int} {zs ys σ τ : List Int} (h : Br n i (zs.getD i 0) z σ τ) (hy : ys.getD i 0 = z) : n ≤ i ∨ (σ.getD i 0 = zs.getD i 0 ∧ τ.getD i 0 = ys.getD i 0) := by
  rcases h.here with ⟨e1, e2⟩ | ⟨e1, _⟩
  · exact .inr ⟨e1, e2.trans hy.symm⟩
  · exact .inl e1

set_option maxRecDepth 20000 in
set_option maxHeartbeats 4000000 in
theorem blind_walk (a1 a2 : Option Addr) (c1 c2 : Nat) (l a : List Int) (view fuel which value : Int) (hv : inI view) (hfu : inI fuel) (hwh : inI which) (hva : inI value) (w : World) (h1 : Nums w a1 l) (h2 : Nums w a2 a) :
    Calls Try.prog 5 #[.slice a1 l.length c1, .slice a2 a.length c2, .int .i64 view, .int .i64 fuel, .int .i64 which, .int .i64 value] w fun e w' => e = .returned (.bool true) ∧ Below w.heap.size w w' := by
  have H1 := hide h1
  have H2 := hide h2
  clear h1 h2
  go_enter Try.func5, Try.ntmps5
  go_wp2_with fail
  refine (kernel_any a1 c1 l (unhide H1).len (unhide H1).num w (unhide H1).lies).mono ?_
  rintro e w1 ⟨s, ks, W, n, m, rfl, hK, hB1⟩
  have HK := hide hK
  have hks := hK.kinds
  have hn1 := hK.n1
  have hn8 := hK.n8
  have hm16 := hK.m16
  have hks100 : ks.size ≤ 100 := by omega
  have Hks := hide hks
  have hA1 := At.new w1 24 #[.string s, .string ks, .int .i64 W, .int .i64 n]
  have H2' := hide (((unhide H2).lies.grown (below_gb hB1)).grown (gb_alloc (gb_refl w1 none) (.cells #[.string s, .string ks, .int .i64 W, .int .i64 n] 24)))
  have hB1' := hide (hB1.alloc hB1.size (.cells #[.string s, .string ks, .int .i64 W, .int .i64 n] 24))
  have hz1 := hB1.size
  clear hK hks
  go_wp2_with fail
  refine (input_any s ks W n (unhide HK).w1 (unhide HK).w8 hks100 a2 c2 a (unhide H2).num _ (unhide H2')).mono ?_
  rintro e w2 ⟨iv, rfl, hI2, hB2⟩
  have hzl := inp_len (pw W) a ks.size
  have hfit := inp_fits (pw_bd W (unhide HK).w8).1 a ks.size
  obtain ⟨g, cap, rfl, hg1, hg2, hL2⟩ := hI2.open_ (by have := unhide Hks; omega)
  have hA2 := hA1.below hB2 (by simp)
  have hB2' := hide ((unhide hB1').trans (hB2.mono (by simp; omega)))
  have H2'' := hide ((unhide H2').grown (below_gb hB2))
  have hinp := hide (fun w0 h => input_any s ks W n (unhide HK).w1 (unhide HK).w8 hks100 a2 c2 a (unhide H2).num w0 h)
  generalize inp (pw W) a ks.size = zs at *
  have hz := hB2.size
  simp at hz hg1
  have hzs : zs.length ≤ 100 := by omega
  have hz0 : zs.length = n + m := by have := unhide Hks; omega
  have hzp : 0 < zs.length := by omega
  have Hz := hide hz0
  have Hfit := hide hfit
  have HL2 := hide hL2
  clear hI2 hB2 hfit hL2 hB1 hA1 hzl hz0 H1 H2 H2'
  obtain ⟨k0, k1, k2, k3⟩ := hA2.four
  go_wp2_with fail
  refine (unhide hinp _ (unhide H2'')).mono ?_
  rintro e w3 ⟨iv, rfl, hI3, hB3⟩
  obtain ⟨h, cap2, rfl, hh1, hh2, _⟩ := hI3.open_ hzp
  have hA3 := hA2.below hB3 (by omega)
  have hB3' := hide ((unhide hB2').trans (hB3.mono (by omega)))
  have HL3 := hide ((unhide HL2).below hB3 hg2)
  have hz3 := hB3.size
  have HI3 := hide hI3
  clear k0 k1 k2 k3 hI3 hB3 hA2 hB2' HL2 H2'' hinp
  obtain ⟨k0, k1, k2, k3⟩ := hA3.four
  go_wp2_with fail
  refine (pick_any view 9 (by omega) (by omega) hv _).mono ?_
  rintro e w4 ⟨rfl, rfl⟩
  obtain ⟨v, hvv⟩ : ∃ v : Nat, pck view 9 = (v : Int) := ⟨(pck view 9).toNat, by have := pck_bd view (n := 9) (by omega); omega⟩
  have hv8 : v ≤ 8 := by have := pck_bd view (n := 9) (by omega); omega
  rw [hvv]
  clear hvv hv
  go_wp2_with fail
  refine (pick_any fuel 10001 (by omega) (by omega) hfu _).mono ?_
  rintro e w5 ⟨rfl, rfl⟩
  obtain ⟨f, hff⟩ : ∃ f : Nat, pck fuel 10001 = (f : Int) := ⟨(pck fuel 10001).toNat, by have := pck_bd fuel (n := 10001) (by omega); omega⟩
  have hf8 : f ≤ 10000 := by have := pck_bd fuel (n := 10001) (by omega); omega
  rw [hff]
  clear hff hfu
  go_wp2_with fail
  refine (pick_any which zs.length (by omega) (by omega) hwh _).mono ?_
  rintro e w6 ⟨rfl, rfl⟩
  obtain ⟨i, hii⟩ : ∃ i : Nat, pck which zs.length = (i : Int) := ⟨(pck which zs.length).toNat, by have := pck_bd which (n := zs.length) (by omega); omega⟩
  have hi8 : i < zs.length := by have := pck_bd which (n := zs.length) (by omega); omega
  rw [hii]
  clear hii hwh
  have hW8 := (unhide HK).w8
  have hpb := pw_bd W hW8
  have hput := fun z => (unhide HI3).put i hi8 z
  have hc1 := (hput 0).1
  have hc2 := (hput 0).2.1
  have Hput := hide (fun z => (hput z).2.2)
  have hiI : (i : Int) < (zs.length : Int) := by omega
  clear hput
  go_wp2_with fail
  rw [sh_pw W hW8]
  have hpk := hide (fun w0 => pick_any value (pw W) hpb.1 (by have := hpb.2; omega) hva w0)
  refine (unhide hpk _).mono ?_
  rintro e w7 ⟨rfl, rfl⟩
  have hzb := pck_bd value hpb.1
  generalize pck value (pw W) = z at *
  have hLy := unhide Hput z
  have hfy : Fits (pw W) (zs.set i z) := (unhide Hfit).set i hzb.1 hzb.2
  have hly : (zs.set i z).length = zs.length := by simp
  have hBr := br_set n hi8 z
  have Hyz := hide (show (zs.set i z).getD i 0 = z by rw [getD_set, if_pos ⟨rfl, hi8⟩])
  generalize zs.set i z = ys at *
  have HBr := hide hBr
  have Hfy := hide hfy
  have Hly := hide hly
  have HLy := hide hLy
  have hne : h ≠ g := by omega
  have hne2 : h ≠ w1.heap.size := by omega
  have HLx := hide ((unhide HL3).grown (row := some h) (gb_set (gb_refl w7 (some h)) (a := ⟨h, i, none⟩) (.int .i64 z) (.inl rfl)) (by simp; omega))
  have hA7 := hA3.other (a := ⟨h, i, none⟩) (.int .i64 z) hne2
  have hB7' := hide ((unhide hB3').setCell (show w.heap.size ≤ (⟨h, i, none⟩ : Addr).block by simp; omega) (.int .i64 z))
  have hsz7 : (w7.setCell ⟨h, i, none⟩ (.int .i64 z)).heap.size = w7.heap.size := by simp [World.setCell]
  clear hBr hfy hly hLy Hput hva HI3 hzb HL3 hB3'
  have hst1 := hide ((unhide HK).begun v zs f)
  have hst2 := hide ((unhide HK).begun v ys f)
  have htg1 := hide (kR_tag (s := s) (W := W) (n := n) (m := m) v zs f)
  have htg2 := hide (kR_tag (s := s) (W := W) (n := n) (m := m) v ys f)
  have hln1 := hide (kR_len (s := s) (W := W) (n := n) (m := m) v zs f)
  have hln2 := hide ((kR_len (s := s) (W := W) (n := n) (m := m) v ys f).trans (unhide Hly))
  have hrun1 := hide (fun w0 h hg => run_ok (unhide HK) v (by omega) (by omega) zs (unhide Hz) (unhide Hfit) f (by omega) g cap w0 h hg)
  have hrun2 := hide (fun w0 h1 hg => by
    have h' := run_ok (unhide HK) v (by omega) (by omega) ys ((unhide Hly).trans (unhide Hz)) (unhide Hfy) f (by omega) h cap2 w0 h1 hg
    rw [unhide Hly] at h'; exact h')
  have hbl := hide (fun hno => (unhide HK).blind v zs ys f (unhide HBr) hno)
  generalize kR s W n m v zs f = R1 at *
  generalize kR s W n m v ys f = R2 at *
  obtain ⟨k0, k1, k2, k3⟩ := hA7.four
  go_wp2_with fail
  refine (unhide hrun1 _ (unhide HLx) (by rw [hsz7]; omega)).mono ?_
  rintro e w8 ⟨gs, rfl, hS8, hgs8, hB8⟩
  have hz8 := hB8.size
  rw [hsz7] at hz8 hgs8
  have hgl8 := hS8.lt
  have hA8 := (hA7.below hB8 (by rw [hsz7]; omega)).alloc (.cells #[.int .i64 R1.tag, .int .i64 R1.steps, .string (strOfNums R1.sn), .slice (some ⟨gs, 0, none⟩) zs.length zs.length] 29)
  have HLx8 := hide (((unhide HLx).below hB8 (by rw [hsz7]; omega)).grown (gb_alloc (gb_refl w8 none) (.cells #[.int .i64 R1.tag, .int .i64 R1.steps, .string (strOfNums R1.sn), .slice (some ⟨gs, 0, none⟩) zs.length zs.length] 29)) (by simp))
  have HLy8 := hide (((unhide HLy).below hB8 (by rw [hsz7]; omega)).grown (gb_alloc (gb_refl w8 none) (.cells #[.int .i64 R1.tag, .int .i64 R1.steps, .string (strOfNums R1.sn), .slice (some ⟨gs, 0, none⟩) zs.length zs.length] 29)) (by simp))
  have HS8 := hide (hS8.alloc (.cells #[.int .i64 R1.tag, .int .i64 R1.steps, .string (strOfNums R1.sn), .slice (some ⟨gs, 0, none⟩) zs.length zs.length] 29))
  have hR8 := At.new w8 29 #[.int .i64 R1.tag, .int .i64 R1.steps, .string (strOfNums R1.sn), .slice (some ⟨gs, 0, none⟩) zs.length zs.length]
  have hB8' := hide (((unhide hB7').trans (hB8.mono (by rw [hsz7]; omega))).alloc (by omega) (.cells #[.int .i64 R1.tag, .int .i64 R1.steps, .string (strOfNums R1.sn), .slice (some ⟨gs, 0, none⟩) zs.length zs.length] 29))
  clear k0 k1 k2 k3 hS8 hB8 hA7 HLx HLy hB7' hc1 hc2 hA3
  obtain ⟨k0, k1, k2, k3⟩ := hA8.four
  go_wp2_with fail
  refine (unhide hrun2 _ (unhide HLy8) (by simp; omega)).mono ?_
  rintro e w9 ⟨gt, rfl, hS9, hgs9, hB9⟩
  have hz9 := hB9.size
  simp at hz9 hgs9
  have hgl9 := hS9.lt
  have hT : Bld (w9.alloc (.cells #[.int .i64 R2.tag, .int .i64 R2.steps, .string (strOfNums R2.sn), .slice (some ⟨gt, 0, none⟩) zs.length zs.length] 29)) w1.heap.size w8.heap.size w9.heap.size g h gs gt s ks W n zs ys R1 R2 :=
    ⟨(hA8.below hB9 (by simp; omega)).alloc _, (hR8.below hB9 (by simp)).alloc _, At.new w9 _ _, ((unhide HLx8).below hB9 (by simp; omega)).grown (gb_alloc (gb_refl w9 none) _) (by simp), ((unhide HLy8).below hB9 (by simp; omega)).grown (gb_alloc (gb_refl w9 none) _) (by simp), ((unhide HS8).below hB9 (by simp; omega)).alloc _, hS9.alloc _, by simp; omega, by simp; omega⟩
  have HT := hide hT
  have hB9' := hide (((unhide hB8').trans (hB9.mono (by simp; omega))).alloc (by omega) (.cells #[.int .i64 R2.tag, .int .i64 R2.steps, .string (strOfNums R2.sn), .slice (some ⟨gt, 0, none⟩) zs.length zs.length] 29))
  clear k0 k1 k2 k3 hS9 hB9 hA8 hR8 HLx8 HLy8 HS8 hB8' hT hrun1 hrun2
  obtain ⟨k0, k1, k2, k3⟩ := (unhide HT).k.four
  obtain ⟨p0, p1, p2, p3⟩ := (unhide HT).r.four
  obtain ⟨q0, q1, q2, q3⟩ := (unhide HT).q.four
  go_wp2_with fail
  refine (ended_any s ks W n R1.tag R1.steps (strOfNums R1.sn) (some ⟨gs, 0, none⟩) zs.length zs.length (unhide htg1) (by have := unhide Hks; have := unhide Hz; omega) hzs _).mono ?_
  rintro e wa ⟨rfl, hBa⟩
  have HTa := hide ((unhide HT).below hBa)
  have hBa' := hide ((unhide hB9').trans (hBa.mono (by simp; omega)))
  have hza := hBa.size
  simp at hza
  clear k0 k1 k2 k3 p0 p1 p2 p3 q0 q1 q2 q3 hBa HT hB9'
  obtain ⟨k0, k1, k2, k3⟩ := (unhide HTa).k.four
  obtain ⟨p0, p1, p2, p3⟩ := (unhide HTa).r.four
  obtain ⟨q0, q1, q2, q3⟩ := (unhide HTa).q.four
  go_wp2_with fail
  refine (ended_any s ks W n R2.tag R2.steps (strOfNums R2.sn) (some ⟨gt, 0, none⟩) zs.length zs.length (unhide htg2) (by have := unhide Hks; have := unhide Hz; omega) hzs _).mono ?_
  rintro e wb ⟨rfl, hBb⟩
  have HTb := hide ((unhide HTa).below hBb)
  have hBb' := hide ((unhide hBa').trans (hBb.mono (by omega)))
  have hzb := hBb.size
  clear k0 k1 k2 k3 p0 p1 p2 p3 q0 q1 q2 q3 hBb HTa hBa'
  obtain ⟨k0, k1, k2, k3⟩ := (unhide HTb).k.four
  obtain ⟨p0, p1, p2, p3⟩ := (unhide HTb).r.four
  obtain ⟨q0, q1, q2, q3⟩ := (unhide HTb).q.four
  go_wp2_with fail
  refine (starts_any (cin := cap) (unhide HK) (unhide Hz) (liesO_of (unhide HTb).l (unhide HTb).lt) f R1 (unhide hst1) (some ⟨gs, 0, none⟩) zs.length (unhide hln1) (liesO_of (at_lies (unhide HTb).x) (unhide HTb).x.lt)).mono ?_
  rintro e wc ⟨rfl, hBc⟩
  have HTc := hide ((unhide HTb).below hBc)
  have hBc' := hide ((unhide hBb').trans (hBc.mono (by omega)))
  have hzc := hBc.size
  clear k0 k1 k2 k3 p0 p1 p2 p3 q0 q1 q2 q3 hBc HTb hBb'
  obtain ⟨k0, k1, k2, k3⟩ := (unhide HTc).k.four
  obtain ⟨p0, p1, p2, p3⟩ := (unhide HTc).r.four
  obtain ⟨q0, q1, q2, q3⟩ := (unhide HTc).q.four
  have hs2 := starts_any (cin := cap2) (unhide HK) ((unhide Hly).trans (unhide Hz)) (liesO_of (unhide HTc).o (unhide HTc).lo) f R2 (unhide hst2) (some ⟨gt, 0, none⟩) zs.length ((unhide hln2).trans (unhide Hly).symm) (liesO_of (at_lies (unhide HTc).y) (unhide HTc).y.lt)
  rw [unhide Hly] at hs2
  have Hs2 := hide hs2
  clear hs2
  go_wp2_with fail
  refine (unhide Hs2).mono ?_
  rintro e wd ⟨rfl, hBd⟩
  have HTd := hide ((unhide HTc).below hBd)
  have hBd' := hide ((unhide hBc').trans (hBd.mono (by omega)))
  have hzd := hBd.size
  clear k0 k1 k2 k3 p0 p1 p2 p3 q0 q1 q2 q3 hBd HTc hBc' Hs2 hst1 hst2
  obtain ⟨k0, k1, k2, k3⟩ := (unhide HTd).k.four
  have hbd := hide (blind_any s ks W n i (by omega) (unhide HK).size (unhide HK).long wd)
  go_wp2_with fail
  refine (unhide hbd).mono ?_
  rintro e we ⟨bb, rfl, hbb, hBe⟩
  have HTe := hide ((unhide HTd).below hBe)
  have hBe' := hide ((unhide hBd').trans (hBe.mono (by omega)))
  have hze := hBe.size
  clear k0 k1 k2 k3 hBe HTd hBd' hbd
  obtain ⟨k0, k1, k2, k3⟩ := (unhide HTe).k.four
  obtain ⟨p0, p1, p2, p3⟩ := (unhide HTe).r.four
  obtain ⟨q0, q1, q2, q3⟩ := (unhide HTe).q.four
  cases bb with
  | false =>
    clear hbb
    go_wp2_with fail
    go_ret
    exact ⟨rfl, unhide hBe'⟩
  | true =>
    have hno := hbb rfl
    have hke : 3 + ks.size = 3 + n + m := by have := unhide Hks; omega
    rw [hke] at hno
    obtain ⟨τ, hR2, hbr⟩ := unhide hbl hno
    subst hR2
    dsimp only at q0 q1 q2 q3 hln2
    have Hbr := hide hbr
    have hlτ := unhide hln2
    have hlσ := unhide hln1
    clear hbb hno hbl hbr hke
    have hcx := hide (lies_cell (at_lies (unhide HTe).x) hlσ)
    have hcy := hide (lies_cell (at_lies (unhide HTe).y) hlτ)
    have hcl := hide (lies_cell (unhide HTe).l rfl)
    have hco := hide (lies_cell (unhide HTe).o (unhide Hly))
    have Hend := hide ((unhide Hbr).end_ (unhide Hyz))
    have Hkey := hide ((unhide Hbr).key (unhide Hyz))
    go_wp2_with fail
    clear HK Hks hB1' hz1 Hz Hfit hpk Hfy Hly HBr hsz7 htg1 htg2 hln1 hln2 HTe hlτ hlσ Hbr Hyz k0 k1 k2 p0 p1 p2 q0 q1 q2 hW8 hpb hv8 hf8 hne hne2
    clear hzb hzc hzd hze hza hgs9 hgl9 hz9 hgl8 hz8 hgs8 hz3 hh1 hh2 hg1 hg2 hz hzp
    go_loopw [28] (fun jv wr => ∃ J : Nat, jv = .int .i64 J ∧ J ≤ zs.length ∧ ∃ d, wr = we.drewN d) (fun jv _ => zs.length - (intOf jv).toNat)
    case atStart => exact ⟨0, rfl, Nat.zero_le _, 0, rfl⟩
    case round =>
      obtain ⟨J, rfl, hJ, d, rfl⟩ := hrel
      by_cases hlt : J < zs.length
      · have hlI : (J : Int) < (zs.length : Int) := by omega
        have x1 := unhide hcx J hlt
        have x2 := unhide hcy J hlt
        have x3 := unhide hcl J hlt
        have x4 := unhide hco J hlt
        clear hcx hcy hcl hco
        rcases unhide Hkey J with ⟨hJi, e1⟩ | ⟨hJi, e1, e2⟩ | ⟨hJi, e1⟩
        · have hJ2 : ((J : Int) == (i : Int)) = false := by simp; omega
          rw [← e1] at x2
          clear e1 Hkey Hend
          generalize R1.σ.getD J 0 = rj at *
          go_wp2_with fail
          go_quiet (fail)
          go_wp2_with fail
          go_quiet (fail)
          go_wp2_with fail
          go_roundw
          case rel => exact ⟨J + 1, by go_num, by omega, _, rfl⟩
          case measure => simp [intOf]; omega
        · subst hJi
          rw [e1] at x1
          rw [e2] at x2
          clear e1 e2 Hkey Hend
          generalize zs.getD J 0 = xj at *
          generalize ys.getD J 0 = yj at *
          by_cases hxy : xj = yj
          · subst hxy
            go_wp2_with fail
            go_quiet (fail)
            go_wp2_with fail
            go_quiet (fail)
            go_wp2_with fail
            go_roundw
            case rel => exact ⟨J + 1, by go_num, by omega, _, rfl⟩
            case measure => simp [intOf]; omega
          · have hxy2 : (xj != yj) = true := by simpa using hxy
            clear hxy
            go_wp2_with fail
            go_quiet (fail)
            go_wp2_with fail
            go_quiet (fail)
            go_wp2_with fail
            go_roundw
            case rel => exact ⟨J + 1, by go_num, by omega, _, rfl⟩
            case measure => simp [intOf]; omega
        · subst hJi
          rw [← e1] at x2
          clear e1 Hkey Hend
          generalize zs.getD J 0 = xj at *
          generalize ys.getD J 0 = yj at *
          generalize R1.σ.getD J 0 = rj at *
          by_cases hrx : rj = xj
          · subst hrx
            by_cases hry : rj = yj
            · subst hry
              go_wp2_with fail
              go_quiet (fail)
              go_wp2_with fail
              go_quiet (fail)
              go_wp2_with fail
              go_roundw
              case rel => exact ⟨J + 1, by go_num, by omega, _, rfl⟩
              case measure => simp [intOf]; omega
            · have hry2 : (rj == yj) = false := by simpa using hry
              clear hry
              go_wp2_with fail
              go_quiet (fail)
              go_wp2_with fail
              go_quiet (fail)
              go_wp2_with fail
              go_roundw
              case rel => exact ⟨J + 1, by go_num, by omega, _, rfl⟩
              case measure => simp [intOf]; omega
          · have hrx2 : (rj == xj) = false := by simpa using hrx
            clear hrx
            go_wp2_with fail
            go_quiet (fail)
            go_wp2_with fail
            go_quiet (fail)
            go_wp2_with fail
            go_roundw
            case rel => exact ⟨J + 1, by go_num, by omega, _, rfl⟩
            case measure => simp [intOf]; omega
      · have x1 := unhide hcx i hi8
        have x2 := unhide hcy i hi8
        have x3 := unhide hcl i hi8
        have x4 := unhide hco i hi8
        clear hcx hcy hcl hco Hkey
        by_cases hni : n ≤ i
        · have hnI : decide ((n : Int) ≤ (i : Int)) = true := by simp; omega
          clear Hend
          go_wp2_with fail
          go_quiet (fail)
          go_wp2_with fail
          go_ret
          exact ⟨rfl, below_drewN (below_drewN (unhide hBe') _) _⟩
        · have hnI : decide ((n : Int) ≤ (i : Int)) = false := by simp; omega
          obtain ⟨e1, e2⟩ : R1.σ.getD i 0 = zs.getD i 0 ∧ τ.getD i 0 = ys.getD i 0 := by
            rcases unhide Hend with h0 | h0
            · exact absurd h0 hni
            · exact h0
          rw [e1] at x1
          rw [e2] at x2
          clear e1 e2 Hend
          generalize zs.getD i 0 = xj at *
          generalize ys.getD i 0 = yj at *
          go_wp2_with fail
          go_quiet (fail)
          go_wp2_with fail
          go_ret
          exact ⟨rfl, below_drewN (below_drewN (unhide hBe') _) _⟩
end Go.Proofs.Ytnkbfdbbcaffmaa
