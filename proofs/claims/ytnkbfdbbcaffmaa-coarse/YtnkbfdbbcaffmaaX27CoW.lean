import Derived.Test.YtnkbfdbbcaffmaaX26KcA
import Derived.Test.YtnkbfdbbcaffmaaX24LoW
/-
  Coarse.
-/
namespace Go.Proofs.Ytnkbfdbbcaffmaa
open Go.RowKit

theorem runP_snlen (V view : Int) (n m f : Nat) (cs : List Cm) : ∀ g i σ sn st, (runP V view n m f cs g i σ sn st).sn.length ≤ sn.length + 4 * g
  | 0, i, σ, sn, st => by simp [runP]
  | g + 1, i, σ, sn, st => by
    have ha := fun c => act_len V view n m σ c
    cases hc : cs[i.toNat]? with
    | none => rw [runP_none V view n m cs hc]; simp
    | some c =>
      have := ha c
      by_cases hf : f ≤ st
      · rw [runP_dry V view n m cs hc hf]; simp
      · by_cases ht : (act V view n m σ c).2.2.1 = true
        · rw [runP_trap V view n m cs hc hf ht]; simp; omega
        · rw [runP_step V view n m cs hc hf ht]
          have := runP_snlen V view n m f cs g (act V view n m σ c).2.2.2 (act V view n m σ c).1 (sn ++ (act V view n m σ c).2.1) (st + 1)
          simp at this; omega

/-- A run in all views. -/
structure Vws (f : Nat → Res) (tag : Int) (steps : Nat) (σ : List Int) (es : List Ev) : Prop where
  run : ∀ view : Nat, f view = ⟨tag, steps, flatE view es, σ⟩
  ok : ∀ e ∈ es, e.ok
  len : ∀ view : Nat, (flatE view es).length ≤ 100000
  trap : (flatE 0 es = [] ∧ tag ≠ 2) ∨ ∃ t c, flatE 0 es = t ++ [c] ∧ ((c = 111 ∨ c = 120) ↔ tag = 2)

theorem KOK.views {s ks : ByteArray} {W n m : Nat} (K : KOK s ks W n m) (zs : List Int) (hz : zs.length = n + m) (hf : Fits (pw W) zs) (fuel : Nat) (hfu : fuel ≤ 10000) :
    ∃ tag steps σ es, Vws (fun view => kR s W n m view zs fuel) tag steps σ es := by
  have hcs := krn_ok s K.good
  rw [K.wid, K.vars] at hcs
  obtain ⟨tag, steps, σ, es, h1, h2, h3⟩ := runP_views (m := m) K.w1 K.w8 hcs fuel (fuel + 1) 0 zs 0 [] hf hz.symm (by simp)
  have hr : ∀ view : Nat, kR s W n m view zs fuel = ⟨tag, steps, flatE view es, σ⟩ := fun view => h1 view
  refine ⟨tag, steps, σ, es, hr, h2, fun view => ?_, trap_last h2 h3⟩
  have h := runP_snlen (pw W) view n m fuel (krn s).cs (fuel + 1) 0 zs [] 0
  have e : (runP (pw W) view n m fuel (krn s).cs (fuel + 1) 0 zs [] 0).sn = flatE view es := by
    have := hr view
    unfold kR at this
    rw [this]
  rw [e] at h
  simp at h
  omega

/-- A kernel, an input, a result in memory. -/
structure One (w : World) (kb rb g gs : Nat) (s ks : ByteArray) (W n : Nat) (zs : List Int) (R1 : Res) : Prop where
  k : At w kb 24 #[.string s, .string ks, .int .i64 W, .int .i64 n]
  r : At w rb 29 #[.int .i64 R1.tag, .int .i64 R1.steps, .string (strOfNums R1.sn), .slice (some ⟨gs, 0, none⟩) zs.length zs.length]
  l : Lies w ⟨g, 0, none⟩ zs
  x : At w gs 3 (intsV R1.σ)
  lt : g < w.heap.size

theorem One.below {w w' : World} {kb rb g gs : Nat} {s ks : ByteArray} {W n : Nat} {zs : List Int} {R1 : Res} (h : One w kb rb g gs s ks W n zs R1) (hB : Below w.heap.size w w') : One w' kb rb g gs s ks W n zs R1 :=
  ⟨h.k.below hB h.k.lt, h.r.below hB h.r.lt, h.l.below hB h.lt, h.x.below hB h.x.lt, Nat.lt_of_lt_of_le h.lt hB.size⟩

theorem One.set {w : World} {kb rb g gs : Nat} {s ks : ByteArray} {W n : Nat} {zs : List Int} {R1 : Res} (h : One w kb rb g gs s ks W n zs R1) (b o : Nat) (v : Value) (h1 : b ≠ kb) (h2 : b ≠ rb) (h3 : b ≠ g) (h4 : b ≠ gs) : One (w.setCell ⟨b, o, none⟩ v) kb rb g gs s ks W n zs R1 :=
  ⟨h.k.other v h1, h.r.other v h2, h.l.grown (row := some b) (gb_set (gb_refl w (some b)) v (.inl rfl)) (by simp; omega), h.x.other v h4, by have := h.lt; simpa [World.setCell] using this⟩

set_option maxRecDepth 20000 in
set_option maxHeartbeats 4000000 in
theorem coarse_walk (a1 a2 : Option Addr) (c1 c2 : Nat) (l a : List Int) (fuel : Int) (hfu : inI fuel) (w : World) (h1 : Nums w a1 l) (h2 : Nums w a2 a) :
    Calls Try.prog 3 #[.slice a1 l.length c1, .slice a2 a.length c2, .int .i64 fuel] w fun e w' => e = .returned (.bool true) ∧ Below w.heap.size w w' := by
  have H1 := hide h1
  have H2 := hide h2
  clear h1 h2
  go_enter Try.func3, Try.ntmps3
  go_wp2_with fail
  refine (kernel_any a1 c1 l (unhide H1).len (unhide H1).num w (unhide H1).lies).mono ?_
  rintro e w1 ⟨s, ks, W, n, m, rfl, hK, hB1⟩
  have HK := hide hK
  have hks := hK.kinds
  have hn1 := hK.n1
  have hn8 := hK.n8
  have hm16 := hK.m16
  have hks100 : ks.size ≤ 100 := by omega
  have Hks := hide hks
  have hA1 := At.new w1 24 #[.string s, .string ks, .int .i64 W, .int .i64 n]
  have H2' := hide (((unhide H2).lies.grown (below_gb hB1)).grown (gb_alloc (gb_refl w1 none) (.cells #[.string s, .string ks, .int .i64 W, .int .i64 n] 24)))
  have hB1' := hide (hB1.alloc hB1.size (.cells #[.string s, .string ks, .int .i64 W, .int .i64 n] 24))
  have hz1 := hB1.size
  clear hK hks
  go_wp2_with fail
  refine (input_any s ks W n (unhide HK).w1 (unhide HK).w8 hks100 a2 c2 a (unhide H2).num _ (unhide H2')).mono ?_
  rintro e w2 ⟨iv, rfl, hI2, hB2⟩
  have hzl := inp_len (pw W) a ks.size
  have hfit := inp_fits (pw_bd W (unhide HK).w8).1 a ks.size
  obtain ⟨g, cap, rfl, hg1, hg2, hL2⟩ := hI2.open_ (by have := unhide Hks; omega)
  have hA2 := hA1.below hB2 (by simp)
  have hB2' := hide ((unhide hB1').trans (hB2.mono (by simp; omega)))
  generalize inp (pw W) a ks.size = zs at *
  have hz := hB2.size
  simp at hz hg1
  have hzs : zs.length ≤ 100 := by omega
  have hz0 : zs.length = n + m := by have := unhide Hks; omega
  have Hz := hide hz0
  have Hfit := hide hfit
  have HL2 := hide hL2
  clear hI2 hB2 hfit hL2 hB1 hA1 hzl hz0 H1 H2 H2'
  obtain ⟨k0, k1, k2, k3⟩ := hA2.four
  go_wp2_with fail
  refine (pick_any fuel 10001 (by omega) (by omega) hfu _).mono ?_
  rintro e w4 ⟨rfl, rfl⟩
  obtain ⟨f, hff⟩ : ∃ f : Nat, pck fuel 10001 = (f : Int) := ⟨(pck fuel 10001).toNat, by have := pck_bd fuel (n := 10001) (by omega); omega⟩
  have hf8 : f ≤ 10000 := by have := pck_bd fuel (n := 10001) (by omega); omega
  rw [hff]
  clear hff hfu
  obtain ⟨tag, steps, σ, es, hV⟩ := (unhide HK).views zs (unhide Hz) (unhide Hfit) f hf8
  have HV := hide hV
  clear hV
  have hst1 := hide ((unhide HK).begun 0 zs f)
  have htg := hide (kR_tag (s := s) (W := W) (n := n) (m := m) 0 zs f)
  have hln := hide (kR_len (s := s) (W := W) (n := n) (m := m) 0 zs f)
  have hrun := hide (fun (v : Nat) (hv : v ≤ 8) w0 h hg => by
    have h' := run_ok (unhide HK) v (by omega) (by omega) zs (unhide Hz) (unhide Hfit) f (by omega) g cap w0 h hg
    rw [(unhide HV).run v] at h'; exact h')
  have e0 : kR s W n m 0 zs f = ⟨tag, steps, flatE 0 es, σ⟩ := (unhide HV).run 0
  rw [e0] at hst1 htg hln
  clear e0
  dsimp only at hst1 htg hln hrun
  have hsn := hide (fun v : Nat => flatE_bd v (unhide HV).ok)
  have hrun0 := hide (unhide hrun 0 (by omega))
  go_wp2_with fail
  refine (unhide hrun0 _ (unhide HL2) hg2).mono ?_
  rintro e w6 ⟨gs, rfl, hS6, hgs6, hB6⟩
  have hz6 := hB6.size
  have hgl6 := hS6.lt
  have hO6 : One (w6.alloc (.cells #[.int .i64 tag, .int .i64 steps, .string (strOfNums (flatE 0 es)), .slice (some ⟨gs, 0, none⟩) zs.length zs.length] 29)) w1.heap.size w6.heap.size g gs s ks W n zs ⟨tag, steps, flatE 0 es, σ⟩ :=
    ⟨(hA2.below hB6 (by omega)).alloc _, At.new w6 _ _, ((unhide HL2).below hB6 hg2).grown (gb_alloc (gb_refl w6 none) _) (by simp), hS6.alloc _, by simp; omega⟩
  have HO6 := hide hO6
  have hB6' := hide (((unhide hB2').trans (hB6.mono (by omega))).alloc (by omega) (.cells #[.int .i64 tag, .int .i64 steps, .string (strOfNums (flatE 0 es)), .slice (some ⟨gs, 0, none⟩) zs.length zs.length] 29))
  clear k0 k1 k2 k3 hS6 hB6 hA2 HL2 hB2' hO6 hrun0
  obtain ⟨k0, k1, k2, k3⟩ := (unhide HO6).k.four
  obtain ⟨p0, p1, p2, p3⟩ := (unhide HO6).r.four
  dsimp only at p0 p1 p2 p3
  go_wp2_with fail
  refine (ended_any s ks W n tag steps (strOfNums (flatE 0 es)) (some ⟨gs, 0, none⟩) zs.length zs.length (unhide htg) (by have := unhide Hks; have := unhide Hz; omega) hzs _).mono ?_
  rintro e w8 ⟨rfl, hB8⟩
  have HO8 := hide ((unhide HO6).below hB8)
  have hB8' := hide ((unhide hB6').trans (hB8.mono (by simp; omega)))
  have hz8 := hB8.size
  simp at hz8
  clear k0 k1 k2 k3 p0 p1 p2 p3 hB8 HO6 hB6'
  obtain ⟨k0, k1, k2, k3⟩ := (unhide HO8).k.four
  obtain ⟨p0, p1, p2, p3⟩ := (unhide HO8).r.four
  dsimp only at p0 p1 p2 p3
  go_wp2_with fail
  refine (trapped_any (flatE 0 es) (unhide hsn 0) (by have h0 : (flatE 0 es).length ≤ 100000 := (unhide HV).len 0; omega) tag (unhide HV).trap _).mono ?_
  rintro e w9 ⟨rfl, rfl⟩
  have hs1 := hide (starts_any (cin := cap) (unhide HK) (unhide Hz) (liesO_of (unhide HO8).l (unhide HO8).lt) f ⟨tag, steps, flatE 0 es, σ⟩ (unhide hst1) (some ⟨gs, 0, none⟩) zs.length (unhide hln) (liesO_of (at_lies (unhide HO8).x) (unhide HO8).x.lt))
  dsimp only at hs1
  go_wp2_with fail
  refine (unhide hs1).mono ?_
  rintro e wa ⟨rfl, hBa⟩
  have HOa := hide ((unhide HO8).below hBa)
  have hBa' := hide ((unhide hB8').trans (hBa.mono (by omega)))
  have hza := hBa.size
  clear k0 k1 k2 k3 p0 p1 p2 p3 hBa HO8 hB8' hs1 hst1
  obtain ⟨k0, k1, k2, k3⟩ := (unhide HOa).k.four
  obtain ⟨p0, p1, p2, p3⟩ := (unhide HOa).r.four
  dsimp only at p0 p1 p2 p3
  have hrun1 := hide (unhide hrun 1 (by omega))
  generalize hb2 : (tag == 2) = b2 at *
  have hal := hide (fun w0 str str' a1 a2 c1 c2 h1 h2 => by
    have h' := alike_true tag steps str str' a1 a2 c1 c2 σ (by rw [unhide hln]; omega) w0 h1 h2
    rw [unhide hln] at h'; exact h')
  have hsho := hide (fun w0 => short_any (strOfNums (flatE 1 es)) (by rw [strOfNums_size]; have h0 : (flatE 1 es).length ≤ 100000 := (unhide HV).len 1; omega) (flatE 0 es) (by rw [bys_str (show ∀ x ∈ flatE 1 es, 48 ≤ x ∧ x ≤ 120 from unhide hsn 1)]; exact short_flat es) w0)
  go_wp2_with fail
  refine (unhide hrun1 _ (unhide HOa).l (unhide HOa).lt).mono ?_
  rintro e wb ⟨gt, rfl, hSb, hgsb, hBb⟩
  have hzb := hBb.size
  have hglb := hSb.lt
  have HOb := hide (((unhide HOa).below hBb).below ((Below.refl _ _).alloc (Nat.le_refl _) (.cells #[.int .i64 tag, .int .i64 steps, .string (strOfNums (flatE 1 es)), .slice (some ⟨gt, 0, none⟩) zs.length zs.length] 29)))
  have hBb' := hide (((unhide hBa').trans (hBb.mono (by omega))).alloc (by omega) (.cells #[.int .i64 tag, .int .i64 steps, .string (strOfNums (flatE 1 es)), .slice (some ⟨gt, 0, none⟩) zs.length zs.length] 29))
  have hQb := At.new wb 29 #[.int .i64 tag, .int .i64 steps, .string (strOfNums (flatE 1 es)), .slice (some ⟨gt, 0, none⟩) zs.length zs.length]
  have HSb := hide (hSb.alloc (.cells #[.int .i64 tag, .int .i64 steps, .string (strOfNums (flatE 1 es)), .slice (some ⟨gt, 0, none⟩) zs.length zs.length] 29))
  clear k0 k1 k2 k3 p0 p1 p2 p3 hBb HOa hBa' hSb hrun1
  obtain ⟨k0, k1, k2, k3⟩ := (unhide HOb).k.four
  obtain ⟨p0, p1, p2, p3⟩ := (unhide HOb).r.four
  obtain ⟨q0, q1, q2, q3⟩ := hQb.four
  dsimp only at p0 p1 p2 p3
  go_wp2_with fail
  refine (unhide hal _ _ _ _ _ _ _ (liesO_of (at_lies (unhide HOb).x) (unhide HOb).x.lt) (liesO_of (at_lies (unhide HSb)) (unhide HSb).lt)).mono ?_
  rintro e wc ⟨rfl, hBc⟩
  have HOc := hide ((unhide HOb).below hBc)
  have hBc' := hide ((unhide hBb').trans (hBc.mono (by simp; omega)))
  have hQc := hQb.below hBc (by simp)
  have hzc := hBc.size
  simp at hzc
  clear k0 k1 k2 k3 p0 p1 p2 p3 q0 q1 q2 q3 hBc HOb hBb' hQb HSb
  obtain ⟨k0, k1, k2, k3⟩ := (unhide HOc).k.four
  obtain ⟨p0, p1, p2, p3⟩ := (unhide HOc).r.four
  obtain ⟨q0, q1, q2, q3⟩ := hQc.four
  dsimp only at p0 p1 p2 p3
  go_wp2_with fail
  refine (unhide hsho _).mono ?_
  rintro e wd ⟨rfl, hBd⟩
  have HOd := hide ((unhide HOc).below hBd)
  have hBd' := hide ((unhide hBc').trans (hBd.mono (by omega)))
  have hQd := hQc.below hBd (by omega)
  have hzd := hBd.size
  clear k0 k1 k2 k3 p0 p1 p2 p3 q0 q1 q2 q3 hBd HOc hBc' hQc hsho
  obtain ⟨k0, k1, k2, k3⟩ := (unhide HOd).k.four
  obtain ⟨p0, p1, p2, p3⟩ := (unhide HOd).r.four
  obtain ⟨q0, q1, q2, q3⟩ := hQd.four
  dsimp only at p0 p1 p2 p3
  have hrunJ := hide (fun (J : Nat) (hJ : J ≤ 6) => by
    have h' := unhide hrun (2 + J) (by omega)
    have e : ((2 + J : Nat) : Int) = 2 + (J : Int) := by omega
    rw [e] at h'; exact h')
  have hhal := hide (fun (J : Nat) (w0 : World) => by
    have e : ((2 + J : Nat) : Int) = 2 + (J : Int) := by omega
    have e2 : ((2 + J : Nat) : Int) + 1 = 2 + ((J + 1 : Nat) : Int) := by omega
    have h' := halved_any (strOfNums (flatE ((2 + J : Nat) : Int) es)) (by rw [strOfNums_size]; have h0 := (unhide HV).len (2 + J); omega) (flatE (((2 + J : Nat) : Int) + 1) es) (by rw [bys_str (unhide hsn (2 + J))]; exact half_flat _ (by omega) es (unhide HV).ok) w0
    rw [e2, e] at h'; exact h')
  have Hstart := hide (show strOfNums (flatE 0 es) = strOfNums (flatE (2 + ((0 : Nat) : Int)) es) by
    have e : (2 + ((0 : Nat) : Int)) = 2 := by omega
    rw [e, base_flat])
  have hrg : wb.heap.size ≠ w1.heap.size ∧ wb.heap.size ≠ w6.heap.size ∧ wb.heap.size ≠ g ∧ wb.heap.size ≠ gs := by omega
  obtain ⟨ne1, ne2, ne3, ne4⟩ := hrg
  clear hrun
  go_wp2_with fail
  clear k0 k1 k2 k3 p0 p1 p2 p3 q0 q1 q2 q3
  go_loopw [18, 19] (fun last j wr => ∃ (J : Nat) (v0 v1 v2 v3 : Value), j = .int .i64 J ∧ J ≤ 7 ∧ last = .string (strOfNums (flatE (2 + (J : Int)) es)) ∧ Hid (One wr w1.heap.size w6.heap.size g gs s ks W n zs ⟨tag, steps, flatE 0 es, σ⟩) ∧ At wr wb.heap.size 29 #[v0, v1, v2, v3] ∧ Hid (Below w.heap.size w wr)) (fun _ j _ => 7 - (intOf j).toNat)
  case atStart => exact ⟨0, _, _, _, _, rfl, by omega, by rw [unhide Hstart], HOd, hQd, hBd'⟩
  case round =>
    obtain ⟨J, v0, v1, v2, v3, rfl, hJ, rfl, hO, hQ, hB⟩ := hrel
    by_cases hJ6 : J ≤ 6
    · obtain ⟨k0, k1, k2, k3⟩ := (unhide hO).k.four
      have hrunj := hide (unhide hrunJ J hJ6)
      have hhalj := hide (unhide hhal J)
      have hql := hQ.lt
      have hbz := (unhide hB).size
      clear hrunJ hhal Hstart HOd hBd' hQd
      generalize strOfNums (flatE (2 + (J : Int)) es) = strJ at *
      go_wp2_with fail
      refine (unhide hrunj _ (unhide hO).l (unhide hO).lt).mono ?_
      rintro e we ⟨gu, rfl, hSe, hgse, hBe⟩
      have hze := hBe.size
      have HOe := hide ((unhide hO).below hBe)
      have hQe := hQ.below hBe hql
      have qf := fun j => hQe.frozen j
      obtain ⟨q0, q1, q2, q3⟩ := hQe.four
      have hBe' := hide ((unhide hB).trans (hBe.mono (by omega)))
      have HSe := hide hSe
      clear k0 k1 k2 k3 hSe hBe hO hB
      have hQ5 := (((hQe.set 0 (.int .i64 tag)).set 1 (.int .i64 steps)).set 2 (.string strJ)).set 3 (.slice (some ⟨gu, 0, none⟩) zs.length zs.length)
      simp at hQ5
      have hS5 := ((((unhide HSe).other (a := ⟨wb.heap.size, 0, none⟩) (.int .i64 tag) (by simp; omega)).other (a := ⟨wb.heap.size, 1, none⟩) (.int .i64 steps) (by simp; omega)).other (a := ⟨wb.heap.size, 2, none⟩) (.string strJ) (by simp; omega)).other (a := ⟨wb.heap.size, 3, none⟩) (.slice (some ⟨gu, 0, none⟩) zs.length zs.length) (by simp; omega)
      have hO5 := ((((unhide HOe).set wb.heap.size 0 (.int .i64 tag) ne1 ne2 ne3 ne4).set wb.heap.size 1 (.int .i64 steps) ne1 ne2 ne3 ne4).set wb.heap.size 2 (.string strJ) ne1 ne2 ne3 ne4).set wb.heap.size 3 (.slice (some ⟨gu, 0, none⟩) zs.length zs.length) ne1 ne2 ne3 ne4
      have hB5 := ((((unhide hBe').setCell (show w.heap.size ≤ (⟨wb.heap.size, 0, none⟩ : Addr).block by simp; omega) (.int .i64 tag)).setCell (show w.heap.size ≤ (⟨wb.heap.size, 1, none⟩ : Addr).block by simp; omega) (.int .i64 steps)).setCell (show w.heap.size ≤ (⟨wb.heap.size, 2, none⟩ : Addr).block by simp; omega) (.string strJ)).setCell (show w.heap.size ≤ (⟨wb.heap.size, 3, none⟩ : Addr).block by simp; omega) (.slice (some ⟨gu, 0, none⟩) zs.length zs.length)
      have HQ5 := hide hQ5
      have HS5 := hide hS5
      have HO5 := hide hO5
      have HB5 := hide hB5
      have hp5 := hO5.r.four
      have hq5 := hQ5.four
      dsimp only at hp5
      obtain ⟨p0, p1, p2, p3⟩ := hp5
      obtain ⟨s0, s1, s2, s3⟩ := hq5
      clear hQ5 hS5 hO5 hB5 HSe HOe hBe'
      go_wp2_with fail
      refine (unhide hal _ _ _ _ _ _ _ (liesO_of (at_lies (unhide HO5).x) (unhide HO5).x.lt) (liesO_of (at_lies (unhide HS5)) (unhide HS5).lt)).mono ?_
      rintro e wf ⟨rfl, hBf⟩
      have HOf := hide ((unhide HO5).below hBf)
      have hQf := (unhide HQ5).below hBf (unhide HQ5).lt
      have HBf := hide ((unhide HB5).trans (hBf.mono (unhide HB5).size))
      clear p0 p1 p2 p3 s0 s1 s2 s3 q0 q1 q2 q3 qf hBf HO5 HQ5 HB5 HS5
      obtain ⟨s0, s1, s2, s3⟩ := hQf.four
      go_wp2_with fail
      refine (unhide hhalj _).mono ?_
      rintro e wg ⟨rfl, hBg⟩
      have HOg := hide ((unhide HOf).below hBg)
      have hQg := hQf.below hBg hQf.lt
      have HBg := hide ((unhide HBf).trans (hBg.mono (unhide HBf).size))
      clear s0 s1 s2 s3 hBg HOf HBf hQf
      go_wp2_with fail
      go_roundw
      case rel => exact ⟨J + 1, _, _, _, _, by go_num, by omega, rfl, HOg, hQg, HBg⟩
      case measure => simp [intOf]; omega
    · have hJ7 : ¬ (J : Int) ≤ 6 := by omega
      clear hrunJ hhal Hstart HOd hBd' hQd
      go_wp2_with fail
      go_ret
      exact ⟨rfl, unhide hB⟩
end Go.Proofs.Ytnkbfdbbcaffmaa
