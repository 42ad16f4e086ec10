import Derived.Test.YtnkbfdbbcaffmabX31LwJ
/-
  The code that Lower tells. (No walk here.)
-/
namespace Go.Proofs.Ytnkbfdbbcaffmab
open Go.RowKit

theorem tk_le (s : ByteArray) (p : Nat) (a : Bool) (c : Int) : (tk s p a c).1 ≤ p + 1 := by
  unfold tk; repeat' split
  all_goals (dsimp only; omega)
theorem tb_le (s : ByteArray) (p : Nat) (a : Bool) (lo hi : Int) : (tb s p a lo hi).1 ≤ p + 1 := by
  unfold tb; split
  · exact tk_le _ _ _ _
  · exact Nat.le_succ _
theorem hdr_small (s : ByteArray) : (hdr s).1 ≤ 27 := by
  unfold hdr
  dsimp only
  have h0 := tb_le s 0 false 49 56
  generalize tb s 0 false 49 56 = T at *
  have h1 := cnt_le s T.2.1 8 T.1
  generalize cnt s T.2.1 8 T.1 = n at *
  have h2 := tk_le s (T.1 + n) (T.2.1 || n == 0) 47
  generalize tk s (T.1 + n) (T.2.1 || n == 0) 47 = U at *
  have h3 := cnt_le s U.2 16 U.1
  generalize cnt s U.2 16 U.1 = m at *
  have h4 := tk_le s (U.1 + m) U.2 58
  omega

theorem ker_back {s : ByteArray} (h : krnBad s = false) (hs : s.size ≤ 300) : ∀ c ∈ (krn s).cs, BackOK (pw (hdr s).2.2.1) (hdr s).2.2.2.1 (lnsO (krn s).cs) c := by
  intro c hc
  obtain ⟨i, hi⟩ := List.mem_iff_getElem?.1 hc
  obtain ⟨a1, a2, a3, a4, a5, ⟨y, e1, e2⟩, ⟨o, e3, e4⟩⟩ := ker_cmds h hs i c hi
  have h3 := krn_three s h
  obtain ⟨z, z1, _, z3⟩ := lno_get (krn s).cs 0 0 y e2
  obtain ⟨z', z1', _, z3'⟩ := lno_get (krn s).cs 0 0 o e4
  refine ⟨a1, a2, a3, a4, a5, ?_, ?_⟩
  · have e : (lnsO (krn s).cs).getD c.yes.toNat 0 = (z : Int) := by
      rw [e1]
      simp only [Int.toNat_natCast, List.getD]
      show Option.getD ((lno (krn s).cs 0 0)[y]?) 0 = _
      rw [z1]; rfl
    rw [e]; omega
  · have e : (lnsO (krn s).cs).getD c.no.toNat 0 = (z' : Int) := by
      rw [e3]
      simp only [Int.toNat_natCast, List.getD]
      show Option.getD ((lno (krn s).cs 0 0)[o]?) 0 = _
      rw [z1']; rfl
    rw [e]; omega

/-- The number of a command's line. -/
def Ln (cs : List Cm) (i : Nat) : Nat := ((lnsO cs).getD i 0).toNat
theorem Ln_at {cs : List Cm} {i z : Nat} (h : (lno cs 0 0)[i]? = some (z : Int)) : Ln cs i = z ∧ (lnsO cs).getD i 0 = (z : Int) := by
  have e : (lnsO cs).getD i 0 = (z : Int) := by
    simp only [List.getD]
    show Option.getD ((lno cs 0 0)[i]?) 0 = _
    rw [h]; rfl
  exact ⟨by unfold Ln; rw [e]; omega, e⟩

theorem lnB_bd (ns : List Int) (c : Cm) : (lnB ns c).length ≤ 5 := lnB_len ns c
theorem codT_len (ns : List Int) : ∀ (cs : List Cm) (i : Nat), (codT ns cs i).length ≤ 8 * cs.length
  | [], i => by simp [codT]
  | c :: r, i => by
    have := codT_len ns r (i + 1)
    have h1 := lnB_len ns c
    have h2 := jmB_len ns c i
    simp only [codT, List.length_append, List.length_cons]
    omega

/-- The lines of the code, as they are read. -/
def lowC (cs : List Cm) : List Cm := fixE (lcms ((prs (lnsO cs) cs 0).map (·.2) ++ [⟨104, 0, false, 0, 0, false, 0, 0, 0, 0, 0⟩]) 0)

theorem low_read {s : ByteArray} (h : (kerP s).e = 0) : hdr (lowS s) = hdr s ∧ (lowS s).extract 0 (hdr s).1 = s.extract 0 (hdr s).1 ∧ (lowS s).size ≤ 1000 ∧ codBad (lowS s) = false ∧ (cod (lowS s)).cs = lowC (krn s).cs := by
  have he := h
  rw [kerP_e] at he
  obtain ⟨hbig, hbad⟩ := chk_ok he
  have hs : s.size ≤ 300 := by omega
  have h3 := krn_three s hbad
  have hle := hdr_le s
  have hgood : (hdr s).2.1 = false := by
    simp [krnBad] at hbad
    have := rdB_nxt s (pw (hdr s).2.2.1) (hdr s).2.2.2.1 s.size ⟨(hdr s).1, (hdr s).2.1, []⟩ ⟨Nat.zero_le _, hdr_le s⟩ (by unfold lft; split <;> simp)
    exact this.1.back hbad.1
  have hdat : (lowS s).data.toList = (s.data.toList.take (hdr s).1) ++ (((prs (lnsO (krn s).cs) (krn s).cs 0 ++ [([104], (⟨104, 0, false, 0, 0, false, 0, 0, 0, 0, 0⟩ : Cm))]).map (fun q : List UInt8 × Cm => q.1)).flatten) := by
    unfold lowS
    rw [if_neg (fun k => k h), strOfNums_data, List.map_append, List.map_append, List.map_append, List.flatten_append, prs_text, ext_data]
    simp only [List.drop_zero, Nat.sub_zero, List.map_map]
    rw [List.append_assoc]
    congr 1
    · conv => rhs; rw [← List.map_id (s.data.toList.take (hdr s).1)]
      apply List.map_congr_left
      intro c _
      simp
  have hlenT : (((prs (lnsO (krn s).cs) (krn s).cs 0 ++ [([104], (⟨104, 0, false, 0, 0, false, 0, 0, 0, 0, 0⟩ : Cm))]).map (fun q : List UInt8 × Cm => q.1)).flatten).length ≤ 8 * (krn s).cs.length + 1 := by
    rw [List.map_append, List.flatten_append, prs_text, List.length_append, List.length_map]
    have := codT_len (lnsO (krn s).cs) (krn s).cs 0
    simp
    omega
  generalize hLS : prs (lnsO (krn s).cs) (krn s).cs 0 ++ [([104], (⟨104, 0, false, 0, 0, false, 0, 0, 0, 0, 0⟩ : Cm))] = LS at *
  have htl : (s.data.toList.take (hdr s).1).length = (hdr s).1 := by
    rw [List.length_take, ← size_list]; omega
  have hsz : (lowS s).size = (hdr s).1 + ((LS.map (fun q : List UInt8 × Cm => q.1)).flatten).length := by
    rw [size_list, hdat, List.length_append, htl]
  have hpk : ∀ j, j < (hdr s).1 → pk (lowS s) j false = pk s j false := by
    intro j hj
    have h1 : j < (lowS s).size := by omega
    have h2 : j < s.size := by omega
    rw [pk_at _ j h1, pk_at _ j h2]
    have e1 := byte_list (lowS s) j h1
    have e2 := byte_list s j h2
    rw [hdat, List.getElem?_append_left (by omega), List.getElem?_take, if_pos hj, e2] at e1
    rw [Option.some.inj e1]
  have hhd := hdr_congr hgood hpk (by omega)
  have hext : (lowS s).extract 0 (hdr s).1 = s.extract 0 (hdr s).1 := by
    apply ByteArray.ext
    apply Array.ext'
    rw [ext_data, ext_data]
    simp only [List.drop_zero, Nat.sub_zero]
    rw [hdat, List.take_append_of_le_length (by omega), List.take_take]
    congr 1
    omega
  have hV := (pw_bd _ (hdr_wid s).2).1
  have hn := hdr_vars s
  have hraw : ∀ q ∈ LS, RawL (pw (hdr s).2.2.1) (hdr s).2.2.2.1 q.2 q.1 := by
    intro q hq
    rw [← hLS] at hq
    rcases List.mem_append.1 hq with hq | hq
    · exact prs_raw hV hn _ _ (ker_back hbad hs) q hq
    · simp at hq
      subst hq
      exact .inr (.inr (.inr (.inr (.inr ⟨rfl, rfl⟩))))
  have hlft : Lft (lowS s) (hdr s).1 = (LS.map (fun q : List UInt8 × Cm => q.1)).flatten := by
    unfold Lft
    rw [hdat, List.drop_left' htl]
  have hrd := rdL_read (t := lowS s) (V := pw (hdr s).2.2.1) (n := (hdr s).2.2.2.1) LS (hdr s).1 (lowS s).size [] hraw hlft (by omega) (by omega)
  have hne : LS ≠ [] := by rw [← hLS]; simp
  have hln : isLn (pk (lowS s) (hdr s).1 false) = true := by
    cases LS with
    | nil => exact absurd rfl hne
    | cons q r =>
      have hq := hraw q (List.mem_cons_self ..)
      have : Lft (lowS s) (hdr s).1 = q.1 ++ (r.map (fun q : List UInt8 × Cm => q.1)).flatten := by rw [hlft]; simp
      exact (tlin_read hq this).1
  have hcod : cod (lowS s) = ⟨(lowS s).size, false, lowC (krn s).cs⟩ := by
    unfold cod rdLs
    rw [hhd]
    dsimp only
    rw [hgood, hln]
    have e : (false || !true) = false := rfl
    rw [e, hrd]
    dsimp only
    unfold lowC
    rw [← hLS]
    simp
  have hsm := hdr_small s
  refine ⟨hhd, hext, by omega, ?_, by rw [hcod]⟩
  unfold codBad
  rw [hcod]
  simp

theorem lowC_len (cs : List Cm) : (lowC cs).length = (prs (lnsO cs) cs 0).length + 1 := by
  unfold lowC
  rw [fixE_len, lcms_len]
  simp
theorem lowC_get {cs : List Cm} {j : Nat} {c : Cm} (h : ((prs (lnsO cs) cs 0).map (·.2) ++ [(⟨104, 0, false, 0, 0, false, 0, 0, 0, 0, 0⟩ : Cm)])[j]? = some c) : (lowC cs)[j]? = some (fix1 ((lowC cs).length : Nat) (lcm c j)) := by
  rw [lowC_len]
  unfold lowC fixE
  rw [List.getElem?_map, lcms_get, h, lcms_len]
  simp

theorem lnC_kind {ns : List Int} {c : Cm} : (c.kind = 61 ∨ c.kind = 108 ∨ c.kind = 115) ∧ (lnC ns c).kind = c.kind ∨ ¬ (c.kind = 61 ∨ c.kind = 108 ∨ c.kind = 115) ∧ (lnC ns c).kind = 122 ∧ (lnC ns c).no = ns.getD c.no.toNat 0 := by
  unfold lnC
  by_cases k1 : c.kind = 61
  · rw [if_pos k1]; exact .inl ⟨.inl k1, k1.symm⟩
  · rw [if_neg k1]
    by_cases k2 : c.kind = 108
    · rw [if_pos k2]; exact .inl ⟨.inr (.inl k2), k2.symm⟩
    · rw [if_neg k2]
      by_cases k3 : c.kind = 115
      · rw [if_pos k3]; exact .inl ⟨.inr (.inr k3), k3.symm⟩
      · rw [if_neg k3]; exact .inr ⟨by omega, rfl, rfl⟩

theorem low_trs {s : ByteArray} (h : krnBad s = false) (hs : s.size ≤ 300) : Trs (krn s).cs (lowC (krn s).cs) (Ln (krn s).cs) := by
  have hcmd := ker_cmds h hs
  generalize (krn s).cs = cs at *
  have hat := fun j c hc => prs_at (ns := lnsO cs) cs 0 0 j c hc
  have hlen := prs_len (ns := lnsO cs) cs 0 0
  rw [Nat.zero_add] at hlen
  have hLK := (Ln_at hlen).1
  have getl : ∀ (z : Nat) (c : Cm), ((prs (lnsO cs) cs 0).map (·.2))[z]? = some c → ((prs (lnsO cs) cs 0).map (·.2) ++ [(⟨104, 0, false, 0, 0, false, 0, 0, 0, 0, 0⟩ : Cm)])[z]? = some c := by
    intro z c hz
    rw [List.getElem?_append_left (List.getElem?_eq_some_iff.1 hz).1]; exact hz
  refine ⟨?_, ?_, ?_, ?_, ?_⟩
  · intro i hi
    obtain ⟨c, hc⟩ : ∃ c, cs[i]? = some c := ⟨_, List.getElem?_eq_getElem hi⟩
    obtain ⟨z, e1, _, _, _, e5⟩ := hat i c hc
    rw [Nat.zero_add] at e5
    rw [(Ln_at e1).1, (Ln_at e5).1, hc]
  · intro i c hc
    obtain ⟨z, e1, _, e3, _, _⟩ := hat i c hc
    obtain ⟨_, _, _, _, _, ⟨y, hy, hyl⟩, ⟨o, ho, hol⟩⟩ := hcmd i c hc
    rw [Nat.sub_zero] at e3
    have hL := (Ln_at e1).1
    have hg := lowC_get (getl z _ e3)
    rw [hL]
    have hkd := lnC_kind (ns := lnsO cs) (c := c)
    have hk4 : (lnC (lnsO cs) c).kind ≠ 104 ∧ (lnC (lnsO cs) c).kind ≠ 106 := by rcases hkd with ⟨a, b⟩ | ⟨_, b, _⟩ <;> omega
    have efix : fix1 ((lowC cs).length : Nat) (lcm (lnC (lnsO cs) c) z) = lcm (lnC (lnsO cs) c) z := by
      unfold fix1
      rw [if_neg]
      exact hk4.1
    rw [efix] at hg
    refine ⟨_, hg, ?_, ?_, ?_, ?_, ?_, ?_, ?_⟩
    · show (lnC (lnsO cs) c).xn = c.xn
      unfold lnC; repeat' split
      all_goals rfl
    · show (lnC (lnsO cs) c).xv = c.xv
      unfold lnC; repeat' split
      all_goals rfl
    · intro hk
      show (lnC (lnsO cs) c).var = c.var
      unfold lnC
      rcases hk with hk | hk
      · rw [if_pos hk]
      · rw [if_neg (by omega), if_pos hk]
    · intro hk
      show (lnC (lnsO cs) c).op = c.op
      unfold lnC
      rw [if_pos hk]
    · intro hk
      show (lnC (lnsO cs) c).yn = c.yn ∧ (lnC (lnsO cs) c).yv = c.yv
      unfold lnC
      rcases hk with hk | hk
      · rw [if_pos hk]; exact ⟨rfl, rfl⟩
      · rw [if_neg (by omega), if_neg (by omega), if_pos hk]; exact ⟨rfl, rfl⟩
    · unfold lcm
      dsimp only
      rw [if_neg hk4.2]; omega
    · show (_ ∧ (lnC (lnsO cs) c).kind = c.kind) ∨ (_ ∧ (lnC (lnsO cs) c).kind = 122 ∧ ∃ o : Nat, c.no = o ∧ (lnC (lnsO cs) c).no = ((Ln cs o : Nat) : Int))
      rcases hkd with ⟨a, b⟩ | ⟨a, b, d⟩
      · exact .inl ⟨a, b⟩
      · have hkc := (hcmd i c hc).1
        simp [isCmd] at hkc
        obtain ⟨zo, z1, _, _⟩ := lno_get cs 0 0 o hol
        have hLo := Ln_at z1
        refine .inr ⟨by omega, b, o, ho, ?_⟩
        rw [d, ho, hLo.1]
        simp only [Int.toNat_natCast]
        exact hLo.2
  · intro i c hc hj
    obtain ⟨z, e1, _, _, e4, _⟩ := hat i c hc
    obtain ⟨_, _, _, _, _, ⟨y, hy, hyl⟩, _⟩ := hcmd i c hc
    rw [Nat.zero_add, Nat.sub_zero] at e4
    have hL := (Ln_at e1).1
    have hg := lowC_get (getl _ _ (e4 hj))
    rw [hL]
    have efix : fix1 ((lowC cs).length : Nat) (lcm (jmC (lnsO cs) c) (z + 1)) = jmC (lnsO cs) c := by
      unfold fix1 lcm jmC
      simp
    rw [efix] at hg
    obtain ⟨zy, z1, _, _⟩ := lno_get cs 0 0 y hyl
    have hLy := Ln_at z1
    refine ⟨_, y, hg, rfl, hy, ?_⟩
    show (lnsO cs).getD c.yes.toNat 0 = _
    rw [hy, hLy.1]
    simp only [Int.toNat_natCast]
    exact hLy.2
  · have hg := lowC_get (cs := cs) (j := (prs (lnsO cs) cs 0).length) (c := ⟨104, 0, false, 0, 0, false, 0, 0, 0, 0, 0⟩) (by simp)
    rw [hLK]
    refine ⟨_, hg, ?_, ?_, lowC_len cs⟩
    · unfold fix1 lcm; simp
    · unfold fix1 lcm
      simp
      rw [lowC_len]; simp
  · intro i c hc
    obtain ⟨_, _, _, _, _, a, b⟩ := hcmd i c hc
    exact ⟨a, b⟩

theorem prs_mem {ns : List Int} : ∀ (cs : List Cm) (i : Nat) (q : List UInt8 × Cm), q ∈ prs ns cs i → ∃ d ∈ cs, q.2 = lnC ns d ∨ q.2 = jmC ns d
  | [], i, q, h => by simp [prs] at h
  | c :: r, i, q, h => by
    unfold prs at h
    rcases List.mem_cons.1 h with rfl | h
    · exact ⟨c, List.mem_cons_self .., .inl rfl⟩
    · rcases List.mem_append.1 h with h | h
      · by_cases hj : jmp c i = true
        · rw [if_pos hj] at h
          simp at h
          subst h
          exact ⟨c, List.mem_cons_self .., .inr rfl⟩
        · rw [if_neg hj] at h; simp at h
      · obtain ⟨d, hd, e⟩ := prs_mem r (i + 1) q h
        exact ⟨d, List.mem_cons_of_mem _ hd, e⟩
theorem lowC_mem {cs : List Cm} {c : Cm} (h : c ∈ lowC cs) : (∃ d j, d ∈ cs ∧ ∃ q, c = fix1 ((lowC cs).length : Nat) (lcm q j) ∧ (q = lnC (lnsO cs) d ∨ q = jmC (lnsO cs) d)) ∨ ∃ j : Nat, c = fix1 ((lowC cs).length : Nat) (lcm ⟨104, 0, false, 0, 0, false, 0, 0, 0, 0, 0⟩ j) := by
  obtain ⟨j, hj⟩ := List.mem_iff_getElem?.1 h
  have hjl := (List.getElem?_eq_some_iff.1 hj).1
  rw [lowC_len] at hjl
  obtain ⟨q, hq⟩ : ∃ q, ((prs (lnsO cs) cs 0).map (·.2) ++ [(⟨104, 0, false, 0, 0, false, 0, 0, 0, 0, 0⟩ : Cm)])[j]? = some q := ⟨_, List.getElem?_eq_getElem (by simp; omega)⟩
  have hg := lowC_get hq
  rw [hj] at hg
  obtain rfl := Option.some.inj hg
  rcases List.mem_append.1 (List.mem_iff_getElem?.2 ⟨j, hq⟩) with hm | hm
  · obtain ⟨q', hq', rfl⟩ := List.mem_map.1 hm
    obtain ⟨d, hd, e⟩ := prs_mem cs 0 q' hq'
    exact .inl ⟨d, j, hd, _, rfl, e⟩
  · simp at hm
    subst hm
    exact .inr ⟨j, rfl⟩

theorem strI_ok {L : Int} : ∀ (cs : List Cm) (i : Nat) (last : Int), (∀ c ∈ cs, (c.kind = 106 → c.yes < L) ∧ (c.kind = 122 → c.no < L)) → (cs = [] → last = 104 ∨ last = 106) → (∀ c, cs.getLast? = some c → c.kind = 104 ∨ c.kind = 106) → strI L cs i last = -1
  | [], i, last, _, h2, _ => by
    unfold strI
    rw [if_neg]
    intro h
    rcases h2 rfl with e | e
    · exact h.1 e
    · exact h.2 e
  | c :: r, i, last, h1, _, h3 => by
    obtain ⟨a, b⟩ := h1 c (List.mem_cons_self ..)
    unfold strI
    rw [if_neg (fun h => by have := a h.1; omega), if_neg (fun h => by have := b h.1; omega)]
    refine strI_ok r (i + 1) c.kind (fun d hd => h1 d (List.mem_cons_of_mem _ hd)) (fun e => ?_) (fun d hd => ?_)
    · subst e
      exact h3 c rfl
    · cases r with
      | nil => simp at hd
      | cons d' r' => exact h3 d (by simpa using hd)

/-- Lower's code is a code. -/
theorem low_code {s : ByteArray} (h : (kerP s).e = 0) : codP (lowS s) = ⟨0, 0, s.extract 0 (hdr s).1, (hdr s).2.2.1, pw (hdr s).2.2.1, (hdr s).2.2.2.1, (hdr s).2.2.2.2, lowC (krn s).cs⟩ := by
  obtain ⟨h1, h2, h3, h4, h5⟩ := low_read h
  have he := h
  rw [kerP_e] at he
  obtain ⟨hbig, hbad⟩ := chk_ok he
  have hT := low_trs hbad (by omega)
  have hst : stray (lowC (krn s).cs) = -1 := by
    obtain ⟨dl, hdl, hkl, hyl, hll⟩ := hT.last
    refine strI_ok _ 0 104 ?_ (fun _ => .inl rfl) ?_
    · intro c hc
      -- each line is a command's, its jump, or the last
      have key : ∀ (i : Nat), i ≤ (krn s).cs.length → Ln (krn s).cs i ≤ Ln (krn s).cs (krn s).cs.length := by
        intro i hi
        induction hd : (krn s).cs.length - i generalizing i with
        | zero => rw [show i = (krn s).cs.length from by omega]; exact Nat.le_refl _
        | succ k ih =>
          have hlt : i < (krn s).cs.length := by omega
          have hm := hT.mono i hlt
          have := ih (i + 1) (by omega) (by omega)
          split at hm
          · split at hm <;> omega
          · omega
      have hLK : Ln (krn s).cs (krn s).cs.length < (lowC (krn s).cs).length := by omega
      have hlo : ∀ o : Nat, o ≤ (krn s).cs.length → (lnsO (krn s).cs).getD o 0 < ((lowC (krn s).cs).length : Nat) := by
        intro o ho
        obtain ⟨zo, z1, _, _⟩ := lno_get (krn s).cs 0 0 o ho
        have hLo := Ln_at z1
        have := key o ho
        rw [hLo.2]
        omega
      rcases lowC_mem hc with ⟨d, j, hd, q, rfl, hq⟩ | ⟨j, rfl⟩
      · obtain ⟨i, hi⟩ := List.mem_iff_getElem?.1 hd
        obtain ⟨_, _, _, _, _, ⟨y, hy, hyl⟩, ⟨o, ho, hol⟩⟩ := ker_cmds hbad (by omega) i d hi
        have hkd := lnC_kind (ns := lnsO (krn s).cs) (c := d)
        have efix : fix1 ((lowC (krn s).cs).length : Nat) (lcm (lnC (lnsO (krn s).cs) d) j) = lcm (lnC (lnsO (krn s).cs) d) j := by
          unfold fix1
          rw [if_neg]
          show ¬ (lnC (lnsO (krn s).cs) d).kind = 104
          rcases hkd with ⟨a, b⟩ | ⟨_, b, _⟩ <;> omega
        rcases hq with rfl | rfl
        · rw [efix]
          refine ⟨fun (hk : (lnC (lnsO (krn s).cs) d).kind = 106) => ?_, fun (hk : (lnC (lnsO (krn s).cs) d).kind = 122) => ?_⟩
          · rcases hkd with ⟨a, b⟩ | ⟨_, b, _⟩ <;> omega
          · show (lnC (lnsO (krn s).cs) d).no < _
            rcases hkd with ⟨a, b⟩ | ⟨_, b, e⟩
            · omega
            · rw [e, ho]
              simp only [Int.toNat_natCast]
              exact hlo o hol
        · have e : fix1 ((lowC (krn s).cs).length : Nat) (lcm (jmC (lnsO (krn s).cs) d) j) = jmC (lnsO (krn s).cs) d := by
            unfold fix1 lcm jmC
            simp
          rw [e]
          refine ⟨fun _ => ?_, fun (hk : (106 : Int) = 122) => by omega⟩
          show (lnsO (krn s).cs).getD d.yes.toNat 0 < _
          rw [hy]
          simp only [Int.toNat_natCast]
          exact hlo y hyl
      · refine ⟨fun hk => ?_, fun hk => ?_⟩ <;> · unfold fix1 lcm at hk; simp at hk
    · intro c hc
      rw [List.getLast?_eq_getElem?, hll, show Ln (krn s).cs (krn s).cs.length + 1 - 1 = Ln (krn s).cs (krn s).cs.length from by omega, hdl] at hc
      obtain rfl := Option.some.inj hc
      exact .inl hkl
  unfold codP
  rw [if_neg (by omega), h4, if_neg (by simp), h5, hst, if_neg (by omega), h1, h2]
end Go.Proofs.Ytnkbfdbbcaffmab
/-
  A kernel's run and its code's, by what the program tells. (No walk here.)
-/
namespace Go.Proofs.Ytnkbfdbbcaffmab
open Go.RowKit

theorem rn_steps (V view : Int) (n m : Nat) (cs : List Cm) : ∀ (r : Nat) (i : Int) (σ : List Int), (rn V view n m cs r i σ).steps ≤ r
  | 0, i, σ => by
    unfold rn; split <;> exact Nat.le_refl _
  | r + 1, i, σ => by
    unfold rn; split
    · exact Nat.zero_le _
    · split
      · dsimp only; omega
      · dsimp only
        have := rn_steps V view n m cs r
        rename_i c _ _
        have := this (act V view n m σ c).2.2.2 (act V view n m σ c).1
        omega

theorem low_agr {s : ByteArray} (h : (kerP s).e = 0) {view : Int} {zs : List Int} {a b : Int} (h1 : (pRun s view zs a).1 = 0) (h2 : ((codP (lowS s)).run view zs b).1 = 0) :
    Agr a.toNat b.toNat (pRun s view zs a).2 ((codP (lowS s)).run view zs b).2 ∧ (0 ≤ a ∧ a ≤ 10000) ∧ (0 ≤ b ∧ b ≤ 10000) ∧ (pRun s view zs a).2.steps ≤ 10000 ∧ ((codP (lowS s)).run view zs b).2.steps ≤ 10000 ∧ (pRun s view zs a).2.σ.length = zs.length := by
  have he := h
  rw [kerP_e] at he
  obtain ⟨hbig, hbad⟩ := chk_ok he
  have hT := low_trs hbad (by omega)
  rw [pRun_eq, kerP_good he] at h1 ⊢
  rw [low_code h] at h2 ⊢
  unfold Pg.run at h1 h2 ⊢
  dsimp only at h1 h2 ⊢
  rw [if_neg (fun k => k rfl)] at h1 h2
  simp only [ne_eq, not_true_eq_false, if_false]
  have r1 : rfs (pw (hdr s).2.2.1) ((hdr s).2.2.2.1 + (hdr s).2.2.2.2) view zs a = 0 := by
    by_cases k : rfs (pw (hdr s).2.2.1) ((hdr s).2.2.2.1 + (hdr s).2.2.2.2) view zs a = 0
    · exact k
    · rw [if_pos k] at h1; exact h1
  have r2 : rfs (pw (hdr s).2.2.1) ((hdr s).2.2.2.1 + (hdr s).2.2.2.2) view zs b = 0 := by
    by_cases k : rfs (pw (hdr s).2.2.1) ((hdr s).2.2.2.1 + (hdr s).2.2.2.2) view zs b = 0
    · exact k
    · rw [if_pos k] at h2; exact h2
  obtain ⟨_, _, b1⟩ := rfs_ok r1
  obtain ⟨_, _, b2⟩ := rfs_ok r2
  simp only [r1, r2, not_true_eq_false, if_false]
  have hln := runP_len (pw (hdr s).2.2.1) view (hdr s).2.2.2.1 (hdr s).2.2.2.2 a.toNat (krn s).cs (a.toNat + 1) 0 zs [] 0
  rw [run_rn] at hln
  rw [run_rn, run_rn]
  have e0 : Ln (krn s).cs 0 = 0 := by
    have : (lno (krn s).cs 0 0)[0]? = some ((0 : Nat) : Int) := by cases (krn s).cs <;> rfl
    exact (Ln_at this).1
  have hs := sim (V := pw (hdr s).2.2.1) (view := view) (n := (hdr s).2.2.2.1) (m := (hdr s).2.2.2.2) hT a.toNat b.toNat 0 zs (Nat.zero_le _)
  rw [e0] at hs
  have s1 := rn_steps (pw (hdr s).2.2.1) view (hdr s).2.2.2.1 (hdr s).2.2.2.2 (krn s).cs a.toNat 0 zs
  have s2 := rn_steps (pw (hdr s).2.2.1) view (hdr s).2.2.2.1 (hdr s).2.2.2.2 (lowC (krn s).cs) b.toNat 0 zs
  exact ⟨hs, ⟨by omega, by omega⟩, ⟨by omega, by omega⟩, by omega, by omega, hln⟩

theorem strP {a b : List Int} (h : a <+: b) : (strOfNums b).extract 0 (strOfNums a).size = strOfNums a ∧ (strOfNums a).size ≤ (strOfNums b).size := by
  obtain ⟨t, rfl⟩ := h
  refine ⟨?_, by simp [strOfNums_size]⟩
  have e : strOfNums (a ++ t) = strOfNums a ++ strOfNums t := by
    apply ByteArray.ext
    simp [strOfNums]
  rw [e]
  apply ByteArray.ext
  apply Array.ext'
  rw [ByteArray.data_extract, ByteArray.data_append]
  simp
  exact List.take_of_length_le (by rw [← size_list]; exact Nat.le_refl _)
end Go.Proofs.Ytnkbfdbbcaffmab
