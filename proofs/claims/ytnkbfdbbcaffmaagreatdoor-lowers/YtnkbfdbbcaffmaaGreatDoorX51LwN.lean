import Derived.Test.YtnkbfdbbcaffmaaGreatDoorX50LwK
/-
  A kernel's run and its code's, by what the program tells. (No walk here.)
-/
namespace Go.Proofs.YtnkbfdbbcaffmaaGreatDoor
open Go.RowKit

theorem rn_steps (V view : Int) (n m : Nat) (cs : List Cm) : ∀ (r : Nat) (i : Int) (σ : List Int), (rn V view n m cs r i σ).steps ≤ r
  | 0, i, σ => by
    unfold rn; split <;> exact Nat.le_refl _
  | r + 1, i, σ => by
    unfold rn; split
    · exact Nat.zero_le _
    · split
      · dsimp only; omega
      · dsimp only
        have := rn_steps V view n m cs r
        rename_i c _ _
        have := this (act V view n m σ c).2.2.2 (act V view n m σ c).1
        omega

theorem low_agr {s : ByteArray} (h : (kerP s).e = 0) {view : Int} {zs : List Int} {a b : Int} (h1 : (pRun s view zs a).1 = 0) (h2 : ((codP (lowS s)).run view zs b).1 = 0) :
    Agr a.toNat b.toNat (pRun s view zs a).2 ((codP (lowS s)).run view zs b).2 ∧ (0 ≤ a ∧ a ≤ 10000) ∧ (0 ≤ b ∧ b ≤ 10000) ∧ (pRun s view zs a).2.steps ≤ 10000 ∧ ((codP (lowS s)).run view zs b).2.steps ≤ 10000 ∧ (pRun s view zs a).2.σ.length = zs.length := by
  have he := h
  rw [kerP_e] at he
  obtain ⟨hbig, hbad⟩ := chk_ok he
  have hT := low_trs hbad (by omega)
  rw [pRun_eq, kerP_good he] at h1 ⊢
  rw [low_code h] at h2 ⊢
  unfold Pg.run at h1 h2 ⊢
  dsimp only at h1 h2 ⊢
  rw [if_neg (fun k => k rfl)] at h1 h2
  simp only [ne_eq, not_true_eq_false, if_false]
  have r1 : rfs (pw (hdr s).2.2.1) ((hdr s).2.2.2.1 + (hdr s).2.2.2.2) view zs a = 0 := by
    by_cases k : rfs (pw (hdr s).2.2.1) ((hdr s).2.2.2.1 + (hdr s).2.2.2.2) view zs a = 0
    · exact k
    · rw [if_pos k] at h1; exact h1
  have r2 : rfs (pw (hdr s).2.2.1) ((hdr s).2.2.2.1 + (hdr s).2.2.2.2) view zs b = 0 := by
    by_cases k : rfs (pw (hdr s).2.2.1) ((hdr s).2.2.2.1 + (hdr s).2.2.2.2) view zs b = 0
    · exact k
    · rw [if_pos k] at h2; exact h2
  obtain ⟨_, _, b1⟩ := rfs_ok r1
  obtain ⟨_, _, b2⟩ := rfs_ok r2
  simp only [r1, r2, not_true_eq_false, if_false]
  have hln := runP_len (pw (hdr s).2.2.1) view (hdr s).2.2.2.1 (hdr s).2.2.2.2 a.toNat (krn s).cs (a.toNat + 1) 0 zs [] 0
  rw [run_rn] at hln
  rw [run_rn, run_rn]
  have e0 : Ln (krn s).cs 0 = 0 := by
    have : (lno (krn s).cs 0 0)[0]? = some ((0 : Nat) : Int) := by cases (krn s).cs <;> rfl
    exact (Ln_at this).1
  have hs := sim (V := pw (hdr s).2.2.1) (view := view) (n := (hdr s).2.2.2.1) (m := (hdr s).2.2.2.2) hT a.toNat b.toNat 0 zs (Nat.zero_le _)
  rw [e0] at hs
  have s1 := rn_steps (pw (hdr s).2.2.1) view (hdr s).2.2.2.1 (hdr s).2.2.2.2 (krn s).cs a.toNat 0 zs
  have s2 := rn_steps (pw (hdr s).2.2.1) view (hdr s).2.2.2.1 (hdr s).2.2.2.2 (lowC (krn s).cs) b.toNat 0 zs
  exact ⟨hs, ⟨by omega, by omega⟩, ⟨by omega, by omega⟩, by omega, by omega, hln⟩

theorem strP {a b : List Int} (h : a <+: b) : (strOfNums b).extract 0 (strOfNums a).size = strOfNums a ∧ (strOfNums a).size ≤ (strOfNums b).size := by
  obtain ⟨t, rfl⟩ := h
  refine ⟨?_, by simp [strOfNums_size]⟩
  have e : strOfNums (a ++ t) = strOfNums a ++ strOfNums t := by
    apply ByteArray.ext
    simp [strOfNums]
  rw [e]
  apply ByteArray.ext
  apply Array.ext'
  rw [ByteArray.data_extract, ByteArray.data_append]
  simp
  exact List.take_of_length_le (by rw [← size_list]; exact Nat.le_refl _)
end Go.Proofs.YtnkbfdbbcaffmaaGreatDoor
/-
  The document's P7 of what Lower tells.
-/
namespace Go.Proofs.YtnkbfdbbcaffmaaGreatDoor
open Go.RowKit

set_option maxRecDepth 20000 in
set_option maxHeartbeats 4000000 in
theorem lowered_any (s : ByteArray) (hmx : s.size ≤ maxLen) (view : Int) (ao : Option Addr) (cin : Nat) (zs : List Int) (hl : zs.length ≤ 9223372036854775807) (n m : Int) (w : World) (hL : LiesO w ao zs) :
    Calls Tryz.prog 42 #[.string s, .string (lowS s), .int .i64 (kerP s).e, .int .i64 view, .slice ao zs.length cin, .int .i64 n, .int .i64 m] w fun e w' => e = .returned (.bool true) ∧ Below w.heap.size w w' := by
  have hck := hide (fun w0 => refCheck_any s hmx w0)
  have hrc : (rchk s).1 = (kerP s).e := by rw [kerP_e, chk_eq]
  rw [hrc] at hck
  generalize (rchk s).2 = z2 at *
  by_cases he : (kerP s).e = 0
  · obtain ⟨l1, l2, l3, l4, l5⟩ := low_read he
    have lc := low_code he
    have hgood : (hdr s).2.1 = false := by
      have he' := he
      rw [kerP_e] at he'
      have hbad := (chk_ok he').2
      simp [krnBad] at hbad
      have := rdB_nxt s (pw (hdr s).2.2.1) (hdr s).2.2.2.1 s.size ⟨(hdr s).1, (hdr s).2.1, []⟩ ⟨Nat.zero_le _, hdr_le s⟩ (by unfold lft; split <;> simp)
      exact this.1.back hbad.1
    have hs3 : s.size ≤ 300 := by
      have he' := he
      rw [kerP_e] at he'
      have := (chk_ok he').1
      omega
    have hcc := hide (fun w0 => refCheckCode_any (lowS s) (by unfold maxLen; omega) w0)
    rw [lc] at hcc
    dsimp only at hcc
    have hr1 := hide (fun w0 => read_any s (by omega) hgood w0)
    have hr2 := hide (fun w0 => read_any (lowS s) l3 (by rw [l1]; exact hgood) w0)
    rw [l1] at hr2
    have hle1 := hdr_le s
    have hle2 := hdr_le (lowS s)
    rw [l1] at hle2
    have hru := hide (fun w0 h0 => refRun_any s hmx view n ao cin zs hl w0 h0)
    have hex := hide (fun w0 h0 => refExec_any (lowS s) (by unfold maxLen; omega) view m ao cin zs hl w0 h0)
    have hagr := hide (fun h1 h2 => low_agr (view := view) (zs := zs) (a := n) (b := m) he h1 h2)
    generalize pRun s view zs n = P at *
    generalize (codP (lowS s)).run view zs m = Q at *
    obtain ⟨f, R⟩ := P
    obtain ⟨g, E⟩ := Q
    dsimp only at hru hex hagr
    have hHL := hide hL
    rw [he] at hck ⊢
    generalize hdr s = H at *
    obtain ⟨hst, _, hw, hv, hwd⟩ := H
    dsimp only at *
    clear lc l1 l4 l5 hL hgood he hrc
    generalize lowS s = c at *
    have hl2 : (s.extract 0 hst).toList = (c.extract 0 hst).toList := by rw [l2]
    clear l2
    go_enter Tryz.func42, Tryz.ntmps42
    go_wp2_with fail
    refine (unhide hck _).mono ?_
    rintro e w1 ⟨rfl, rfl⟩
    go_wp2_with fail
    refine (unhide hcc _).mono ?_
    rintro e w2 ⟨rfl, hB2⟩
    go_wp2_with fail
    refine (unhide hr1 _).mono ?_
    rintro e w3 ⟨ks1, rfl, hG3⟩
    have hB3 : Below w2.heap.size w2 w3 := ⟨hG3.os, hG3.tape, hG3.output, hG3.size, fun k hk => hG3.block k hk (by simp)⟩
    have hA3 := At.new w3 81 #[.int .i64 (pw hw), .int .i64 hv, .int .i64 hwd, .int .i64 hst, .string ks1]
    have hB3' := hB2.trans ((hB3.alloc hB3.size (.cells #[.int .i64 (pw hw), .int .i64 hv, .int .i64 hwd, .int .i64 hst, .string ks1] 81)).mono hB2.size)
    clear hB2 hB3 hG3
    go_wp2_with fail
    refine (unhide hr2 _).mono ?_
    rintro e w4 ⟨ks2, rfl, hG4⟩
    have hB4 : Below (w3.alloc (.cells #[.int .i64 (pw hw), .int .i64 hv, .int .i64 hwd, .int .i64 hst, .string ks1] 81)).heap.size (w3.alloc (.cells #[.int .i64 (pw hw), .int .i64 hv, .int .i64 hwd, .int .i64 hst, .string ks1] 81)) w4 := ⟨hG4.os, hG4.tape, hG4.output, hG4.size, fun k hk => hG4.block k hk (by simp)⟩
    have hA4 := (hA3.below hB4 (by simp)).alloc (.cells #[.int .i64 (pw hw), .int .i64 hv, .int .i64 hwd, .int .i64 hst, .string ks2] 81)
    have hA5 := At.new w4 81 #[.int .i64 (pw hw), .int .i64 hv, .int .i64 hwd, .int .i64 hst, .string ks2]
    have hB5 := hB3'.trans ((hB4.alloc hB4.size (.cells #[.int .i64 (pw hw), .int .i64 hv, .int .i64 hwd, .int .i64 hst, .string ks2] 81)).mono hB3'.size)
    clear hB3' hB4 hG4 hA3
    generalize hw5 : w4.alloc (.cells #[.int .i64 (pw hw), .int .i64 hv, .int .i64 hwd, .int .i64 hst, .string ks2] 81) = w5 at *
    go_wp2_with fail
    clear hw5
    have d3 := hA4.cell 3
    have d4 := hA5.cell 3
    simp at d3 d4
    go_quiet (fail)
    go_wp2_with fail
    have hB6 := below_drewN hB5 nq
    clear hB5 d3 d4 hA4 hA5 hr1 hr2 hcc hck
    refine (unhide hru _ ((unhide hHL).grown (below_gb hB6))).mono ?_
    rintro e w6 ⟨st, rfl, hSt, hB7⟩
    obtain ⟨so, scap, rfl, hSL⟩ := hSt.lies
    have hB7' := hB6.trans (hB7.mono hB6.size)
    clear hB7 hB6 hSt
    go_wp2_with fail
    have hBa := hB7'.alloc hB7'.size (.cells #[.int .i64 R.tag, .int .i64 R.steps, .string (strOfNums R.sn), .slice so R.σ.length scap] 55)
    have hA6 := At.new w6 55 #[.int .i64 R.tag, .int .i64 R.steps, .string (strOfNums R.sn), .slice so R.σ.length scap]
    refine (unhide hex _ ((unhide hHL).grown (below_gb hBa))).mono ?_
    rintro e w7 ⟨st2, rfl, hSt2, hB8⟩
    obtain ⟨so2, scap2, rfl, hSL2⟩ := hSt2.lies
    have hB8' := hBa.trans (hB8.mono hBa.size)
    have hA7 := (hA6.below hB8 (by simp)).alloc (.cells #[.int .i64 E.tag, .int .i64 E.steps, .string (strOfNums E.sn), .slice so2 E.σ.length scap2] 55)
    have hA8 := At.new w7 55 #[.int .i64 E.tag, .int .i64 E.steps, .string (strOfNums E.sn), .slice so2 E.σ.length scap2]
    have hB9 := hB8'.alloc hB8'.size (.cells #[.int .i64 E.tag, .int .i64 E.steps, .string (strOfNums E.sn), .slice so2 E.σ.length scap2] 55)
    have hSL7 : LiesO (w7.alloc (.cells #[.int .i64 E.tag, .int .i64 E.steps, .string (strOfNums E.sn), .slice so2 E.σ.length scap2] 55)) so R.σ := ((hSL.grown (gb_alloc (gb_refl w6 none) _)).grown (below_gb hB8)).grown (gb_alloc (gb_refl w7 none) _)
    have hSL8 : LiesO (w7.alloc (.cells #[.int .i64 E.tag, .int .i64 E.steps, .string (strOfNums E.sn), .slice so2 E.σ.length scap2] 55)) so2 E.σ := hSL2.grown (gb_alloc (gb_refl w7 none) _)
    clear hB7' hBa hA6 hSt2 hB8 hB8' hSL hSL2 hex hru
    generalize hw8 : w7.alloc (.cells #[.int .i64 E.tag, .int .i64 E.steps, .string (strOfNums E.sn), .slice so2 E.σ.length scap2] 55) = w8 at *
    have p0 := hA7.cell 0
    have p1 := hA7.cell 1
    have p2 := hA7.cell 2
    have p3 := hA7.cell 3
    have q0 := hA8.cell 0
    have q1 := hA8.cell 1
    have q2 := hA8.cell 2
    have q3 := hA8.cell 3
    simp at p0 p1 p2 p3 q0 q1 q2 q3
    have HB9 := hide hB9
    by_cases hf : f = 0
    · subst hf
      by_cases hg : g = 0
      · subst hg
        obtain ⟨⟨g1, g2, g3, g4, g5⟩, ⟨n0, n1⟩, ⟨m0, m1⟩, s1, s2, hln⟩ := unhide hagr rfl rfl
        obtain ⟨a, rfl⟩ := Int.eq_ofNat_of_zero_le n0
        obtain ⟨b, rfl⟩ := Int.eq_ofNat_of_zero_le m0
        simp only [Int.toNat_natCast] at g1 g2 g4 g5
        have HG := hide (refAgree_any R.tag E.tag R.steps E.steps a b (strOfNums R.sn) (strOfNums E.sn) so so2 scap scap2 R.σ E.σ (by omega) w8 hSL7 hSL8 s1 s2 (by omega) (by omega)
          (fun x y => by obtain ⟨u, v, z⟩ := g1 x y; exact ⟨u.symm, v.symm, by rw [z]⟩) (fun x y => by obtain ⟨u, v, z⟩ := g2 x y; exact ⟨u.symm, v.symm, by rw [z]⟩)
          (by rcases g3 with k | k; exact .inl (strP k); exact .inr (strP k)) (fun x => strP (g4 x)) (fun x => strP (g5 x)))
        clear g1 g2 g3 g4 g5 hagr hB9 hSL7 hSL8 hHL hA7 hA8
        clear hln s1 s2 n0 n1 m0 m1
        generalize strOfNums R.sn = str1 at *
        generalize strOfNums E.sn = str2 at *
        generalize R.tag = t1 at *
        generalize E.tag = t2 at *
        generalize R.steps = u1 at *
        generalize E.steps = u2 at *
        generalize R.σ = σ1 at *
        generalize E.σ = σ2 at *
        go_wp2_with fail
        refine (unhide HG).mono ?_
        rintro e w9 ⟨rfl, hB10⟩
        go_wp2_with fail
        go_ret
        exact ⟨rfl, (unhide HB9).trans (hB10.mono (unhide HB9).size)⟩
      · have hg2 : (g != 0) = true := by simpa using hg
        clear hagr hB9 hSL7 hSL8 hHL hA7 hA8
        go_wp2_with fail
        go_ret
        exact ⟨rfl, unhide HB9⟩
    · have hf2 : (f != 0) = true := by simpa using hf
      clear hagr hB9 hSL7 hSL8 hHL hA7 hA8
      go_wp2_with fail
      go_ret
      exact ⟨rfl, unhide HB9⟩
  · have hlow : lowS s = ⟨#[]⟩ := by unfold lowS; rw [if_pos he]
    rw [hlow]
    generalize (kerP s).e = z at *
    have hz : (z != 0) = true := by simpa using he
    go_enter Tryz.func42, Tryz.ntmps42
    go_wp2_with fail
    refine (unhide hck _).mono ?_
    rintro e w1 ⟨rfl, rfl⟩
    go_wp2_with fail
    go_ret
    exact ⟨rfl, Below.refl _ _⟩
end Go.Proofs.YtnkbfdbbcaffmaaGreatDoor
