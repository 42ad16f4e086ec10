import Derived.Test.YtnkbfdbbcaffmaaGreatDoorX49LwF
import Derived.Test.YtnkbfdbbcaffmaaGreatDoorX36ExA
import Derived.Test.YtnkbfdbbcaffmaaGreatDoorX30LawC
import Derived.Test.YtnkbfdbbcaffmaaGreatDoorX42ExF
/-
  The code that Lower tells. (No walk here.)
-/
namespace Go.Proofs.YtnkbfdbbcaffmaaGreatDoor
open Go.RowKit

theorem tk_le (s : ByteArray) (p : Nat) (a : Bool) (c : Int) : (tk s p a c).1 ≤ p + 1 := by
  unfold tk; repeat' split
  all_goals (dsimp only; omega)
theorem tb_le (s : ByteArray) (p : Nat) (a : Bool) (lo hi : Int) : (tb s p a lo hi).1 ≤ p + 1 := by
  unfold tb; split
  · exact tk_le _ _ _ _
  · exact Nat.le_succ _
theorem hdr_small (s : ByteArray) : (hdr s).1 ≤ 27 := by
  unfold hdr
  dsimp only
  have h0 := tb_le s 0 false 49 56
  generalize tb s 0 false 49 56 = T at *
  have h1 := cnt_le s T.2.1 8 T.1
  generalize cnt s T.2.1 8 T.1 = n at *
  have h2 := tk_le s (T.1 + n) (T.2.1 || n == 0) 47
  generalize tk s (T.1 + n) (T.2.1 || n == 0) 47 = U at *
  have h3 := cnt_le s U.2 16 U.1
  generalize cnt s U.2 16 U.1 = m at *
  have h4 := tk_le s (U.1 + m) U.2 58
  omega

theorem ker_back {s : ByteArray} (h : krnBad s = false) (hs : s.size ≤ 300) : ∀ c ∈ (krn s).cs, BackOK (pw (hdr s).2.2.1) (hdr s).2.2.2.1 (lnsO (krn s).cs) c := by
  intro c hc
  obtain ⟨i, hi⟩ := List.mem_iff_getElem?.1 hc
  obtain ⟨a1, a2, a3, a4, a5, ⟨y, e1, e2⟩, ⟨o, e3, e4⟩⟩ := ker_cmds h hs i c hi
  have h3 := krn_three s h
  obtain ⟨z, z1, _, z3⟩ := lno_get (krn s).cs 0 0 y e2
  obtain ⟨z', z1', _, z3'⟩ := lno_get (krn s).cs 0 0 o e4
  refine ⟨a1, a2, a3, a4, a5, ?_, ?_⟩
  · have e : (lnsO (krn s).cs).getD c.yes.toNat 0 = (z : Int) := by
      rw [e1]
      simp only [Int.toNat_natCast, List.getD]
      show Option.getD ((lno (krn s).cs 0 0)[y]?) 0 = _
      rw [z1]; rfl
    rw [e]; omega
  · have e : (lnsO (krn s).cs).getD c.no.toNat 0 = (z' : Int) := by
      rw [e3]
      simp only [Int.toNat_natCast, List.getD]
      show Option.getD ((lno (krn s).cs 0 0)[o]?) 0 = _
      rw [z1']; rfl
    rw [e]; omega

/-- The number of a command's line. -/
def Ln (cs : List Cm) (i : Nat) : Nat := ((lnsO cs).getD i 0).toNat
theorem Ln_at {cs : List Cm} {i z : Nat} (h : (lno cs 0 0)[i]? = some (z : Int)) : Ln cs i = z ∧ (lnsO cs).getD i 0 = (z : Int) := by
  have e : (lnsO cs).getD i 0 = (z : Int) := by
    simp only [List.getD]
    show Option.getD ((lno cs 0 0)[i]?) 0 = _
    rw [h]; rfl
  exact ⟨by unfold Ln; rw [e]; omega, e⟩

theorem lnB_bd (ns : List Int) (c : Cm) : (lnB ns c).length ≤ 5 := lnB_len ns c
theorem codT_len (ns : List Int) : ∀ (cs : List Cm) (i : Nat), (codT ns cs i).length ≤ 8 * cs.length
  | [], i => by simp [codT]
  | c :: r, i => by
    have := codT_len ns r (i + 1)
    have h1 := lnB_len ns c
    have h2 := jmB_len ns c i
    simp only [codT, List.length_append, List.length_cons]
    omega

/-- The lines of the code, as they are read. -/
def lowC (cs : List Cm) : List Cm := fixE (lcms ((prs (lnsO cs) cs 0).map (·.2) ++ [⟨104, 0, false, 0, 0, false, 0, 0, 0, 0, 0⟩]) 0)

theorem low_read {s : ByteArray} (h : (kerP s).e = 0) : hdr (lowS s) = hdr s ∧ (lowS s).extract 0 (hdr s).1 = s.extract 0 (hdr s).1 ∧ (lowS s).size ≤ 1000 ∧ codBad (lowS s) = false ∧ (cod (lowS s)).cs = lowC (krn s).cs := by
  have he := h
  rw [kerP_e] at he
  obtain ⟨hbig, hbad⟩ := chk_ok he
  have hs : s.size ≤ 300 := by omega
  have h3 := krn_three s hbad
  have hle := hdr_le s
  have hgood : (hdr s).2.1 = false := by
    simp [krnBad] at hbad
    have := rdB_nxt s (pw (hdr s).2.2.1) (hdr s).2.2.2.1 s.size ⟨(hdr s).1, (hdr s).2.1, []⟩ ⟨Nat.zero_le _, hdr_le s⟩ (by unfold lft; split <;> simp)
    exact this.1.back hbad.1
  have hdat : (lowS s).data.toList = (s.data.toList.take (hdr s).1) ++ (((prs (lnsO (krn s).cs) (krn s).cs 0 ++ [([104], (⟨104, 0, false, 0, 0, false, 0, 0, 0, 0, 0⟩ : Cm))]).map (fun q : List UInt8 × Cm => q.1)).flatten) := by
    unfold lowS
    rw [if_neg (fun k => k h), strOfNums_data, List.map_append, List.map_append, List.map_append, List.flatten_append, prs_text, ext_data]
    simp only [List.drop_zero, Nat.sub_zero, List.map_map]
    rw [List.append_assoc]
    congr 1
    · conv => rhs; rw [← List.map_id (s.data.toList.take (hdr s).1)]
      apply List.map_congr_left
      intro c _
      simp
  have hlenT : (((prs (lnsO (krn s).cs) (krn s).cs 0 ++ [([104], (⟨104, 0, false, 0, 0, false, 0, 0, 0, 0, 0⟩ : Cm))]).map (fun q : List UInt8 × Cm => q.1)).flatten).length ≤ 8 * (krn s).cs.length + 1 := by
    rw [List.map_append, List.flatten_append, prs_text, List.length_append, List.length_map]
    have := codT_len (lnsO (krn s).cs) (krn s).cs 0
    simp
    omega
  generalize hLS : prs (lnsO (krn s).cs) (krn s).cs 0 ++ [([104], (⟨104, 0, false, 0, 0, false, 0, 0, 0, 0, 0⟩ : Cm))] = LS at *
  have htl : (s.data.toList.take (hdr s).1).length = (hdr s).1 := by
    rw [List.length_take, ← size_list]; omega
  have hsz : (lowS s).size = (hdr s).1 + ((LS.map (fun q : List UInt8 × Cm => q.1)).flatten).length := by
    rw [size_list, hdat, List.length_append, htl]
  have hpk : ∀ j, j < (hdr s).1 → pk (lowS s) j false = pk s j false := by
    intro j hj
    have h1 : j < (lowS s).size := by omega
    have h2 : j < s.size := by omega
    rw [pk_at _ j h1, pk_at _ j h2]
    have e1 := byte_list (lowS s) j h1
    have e2 := byte_list s j h2
    rw [hdat, List.getElem?_append_left (by omega), List.getElem?_take, if_pos hj, e2] at e1
    rw [Option.some.inj e1]
  have hhd := hdr_congr hgood hpk (by omega)
  have hext : (lowS s).extract 0 (hdr s).1 = s.extract 0 (hdr s).1 := by
    apply ByteArray.ext
    apply Array.ext'
    rw [ext_data, ext_data]
    simp only [List.drop_zero, Nat.sub_zero]
    rw [hdat, List.take_append_of_le_length (by omega), List.take_take]
    congr 1
    omega
  have hV := (pw_bd _ (hdr_wid s).2).1
  have hn := hdr_vars s
  have hraw : ∀ q ∈ LS, RawL (pw (hdr s).2.2.1) (hdr s).2.2.2.1 q.2 q.1 := by
    intro q hq
    rw [← hLS] at hq
    rcases List.mem_append.1 hq with hq | hq
    · exact prs_raw hV hn _ _ (ker_back hbad hs) q hq
    · simp at hq
      subst hq
      exact .inr (.inr (.inr (.inr (.inr ⟨rfl, rfl⟩))))
  have hlft : Lft (lowS s) (hdr s).1 = (LS.map (fun q : List UInt8 × Cm => q.1)).flatten := by
    unfold Lft
    rw [hdat, List.drop_left' htl]
  have hrd := rdL_read (t := lowS s) (V := pw (hdr s).2.2.1) (n := (hdr s).2.2.2.1) LS (hdr s).1 (lowS s).size [] hraw hlft (by omega) (by omega)
  have hne : LS ≠ [] := by rw [← hLS]; simp
  have hln : isLn (pk (lowS s) (hdr s).1 false) = true := by
    cases LS with
    | nil => exact absurd rfl hne
    | cons q r =>
      have hq := hraw q (List.mem_cons_self ..)
      have : Lft (lowS s) (hdr s).1 = q.1 ++ (r.map (fun q : List UInt8 × Cm => q.1)).flatten := by rw [hlft]; simp
      exact (tlin_read hq this).1
  have hcod : cod (lowS s) = ⟨(lowS s).size, false, lowC (krn s).cs⟩ := by
    unfold cod rdLs
    rw [hhd]
    dsimp only
    rw [hgood, hln]
    have e : (false || !true) = false := rfl
    rw [e, hrd]
    dsimp only
    unfold lowC
    rw [← hLS]
    simp
  have hsm := hdr_small s
  refine ⟨hhd, hext, by omega, ?_, by rw [hcod]⟩
  unfold codBad
  rw [hcod]
  simp

theorem lowC_len (cs : List Cm) : (lowC cs).length = (prs (lnsO cs) cs 0).length + 1 := by
  unfold lowC
  rw [fixE_len, lcms_len]
  simp
theorem lowC_get {cs : List Cm} {j : Nat} {c : Cm} (h : ((prs (lnsO cs) cs 0).map (·.2) ++ [(⟨104, 0, false, 0, 0, false, 0, 0, 0, 0, 0⟩ : Cm)])[j]? = some c) : (lowC cs)[j]? = some (fix1 ((lowC cs).length : Nat) (lcm c j)) := by
  rw [lowC_len]
  unfold lowC fixE
  rw [List.getElem?_map, lcms_get, h, lcms_len]
  simp

theorem lnC_kind {ns : List Int} {c : Cm} : (c.kind = 61 ∨ c.kind = 108 ∨ c.kind = 115) ∧ (lnC ns c).kind = c.kind ∨ ¬ (c.kind = 61 ∨ c.kind = 108 ∨ c.kind = 115) ∧ (lnC ns c).kind = 122 ∧ (lnC ns c).no = ns.getD c.no.toNat 0 := by
  unfold lnC
  by_cases k1 : c.kind = 61
  · rw [if_pos k1]; exact .inl ⟨.inl k1, k1.symm⟩
  · rw [if_neg k1]
    by_cases k2 : c.kind = 108
    · rw [if_pos k2]; exact .inl ⟨.inr (.inl k2), k2.symm⟩
    · rw [if_neg k2]
      by_cases k3 : c.kind = 115
      · rw [if_pos k3]; exact .inl ⟨.inr (.inr k3), k3.symm⟩
      · rw [if_neg k3]; exact .inr ⟨by omega, rfl, rfl⟩

theorem low_trs {s : ByteArray} (h : krnBad s = false) (hs : s.size ≤ 300) : Trs (krn s).cs (lowC (krn s).cs) (Ln (krn s).cs) := by
  have hcmd := ker_cmds h hs
  generalize (krn s).cs = cs at *
  have hat := fun j c hc => prs_at (ns := lnsO cs) cs 0 0 j c hc
  have hlen := prs_len (ns := lnsO cs) cs 0 0
  rw [Nat.zero_add] at hlen
  have hLK := (Ln_at hlen).1
  have getl : ∀ (z : Nat) (c : Cm), ((prs (lnsO cs) cs 0).map (·.2))[z]? = some c → ((prs (lnsO cs) cs 0).map (·.2) ++ [(⟨104, 0, false, 0, 0, false, 0, 0, 0, 0, 0⟩ : Cm)])[z]? = some c := by
    intro z c hz
    rw [List.getElem?_append_left (List.getElem?_eq_some_iff.1 hz).1]; exact hz
  refine ⟨?_, ?_, ?_, ?_, ?_⟩
  · intro i hi
    obtain ⟨c, hc⟩ : ∃ c, cs[i]? = some c := ⟨_, List.getElem?_eq_getElem hi⟩
    obtain ⟨z, e1, _, _, _, e5⟩ := hat i c hc
    rw [Nat.zero_add] at e5
    rw [(Ln_at e1).1, (Ln_at e5).1, hc]
  · intro i c hc
    obtain ⟨z, e1, _, e3, _, _⟩ := hat i c hc
    obtain ⟨_, _, _, _, _, ⟨y, hy, hyl⟩, ⟨o, ho, hol⟩⟩ := hcmd i c hc
    rw [Nat.sub_zero] at e3
    have hL := (Ln_at e1).1
    have hg := lowC_get (getl z _ e3)
    rw [hL]
    have hkd := lnC_kind (ns := lnsO cs) (c := c)
    have hk4 : (lnC (lnsO cs) c).kind ≠ 104 ∧ (lnC (lnsO cs) c).kind ≠ 106 := by rcases hkd with ⟨a, b⟩ | ⟨_, b, _⟩ <;> omega
    have efix : fix1 ((lowC cs).length : Nat) (lcm (lnC (lnsO cs) c) z) = lcm (lnC (lnsO cs) c) z := by
      unfold fix1
      rw [if_neg]
      exact hk4.1
    rw [efix] at hg
    refine ⟨_, hg, ?_, ?_, ?_, ?_, ?_, ?_, ?_⟩
    · show (lnC (lnsO cs) c).xn = c.xn
      unfold lnC; repeat' split
      all_goals rfl
    · show (lnC (lnsO cs) c).xv = c.xv
      unfold lnC; repeat' split
      all_goals rfl
    · intro hk
      show (lnC (lnsO cs) c).var = c.var
      unfold lnC
      rcases hk with hk | hk
      · rw [if_pos hk]
      · rw [if_neg (by omega), if_pos hk]
    · intro hk
      show (lnC (lnsO cs) c).op = c.op
      unfold lnC
      rw [if_pos hk]
    · intro hk
      show (lnC (lnsO cs) c).yn = c.yn ∧ (lnC (lnsO cs) c).yv = c.yv
      unfold lnC
      rcases hk with hk | hk
      · rw [if_pos hk]; exact ⟨rfl, rfl⟩
      · rw [if_neg (by omega), if_neg (by omega), if_pos hk]; exact ⟨rfl, rfl⟩
    · unfold lcm
      dsimp only
      rw [if_neg hk4.2]; omega
    · show (_ ∧ (lnC (lnsO cs) c).kind = c.kind) ∨ (_ ∧ (lnC (lnsO cs) c).kind = 122 ∧ ∃ o : Nat, c.no = o ∧ (lnC (lnsO cs) c).no = ((Ln cs o : Nat) : Int))
      rcases hkd with ⟨a, b⟩ | ⟨a, b, d⟩
      · exact .inl ⟨a, b⟩
      · have hkc := (hcmd i c hc).1
        simp [isCmd] at hkc
        obtain ⟨zo, z1, _, _⟩ := lno_get cs 0 0 o hol
        have hLo := Ln_at z1
        refine .inr ⟨by omega, b, o, ho, ?_⟩
        rw [d, ho, hLo.1]
        simp only [Int.toNat_natCast]
        exact hLo.2
  · intro i c hc hj
    obtain ⟨z, e1, _, _, e4, _⟩ := hat i c hc
    obtain ⟨_, _, _, _, _, ⟨y, hy, hyl⟩, _⟩ := hcmd i c hc
    rw [Nat.zero_add, Nat.sub_zero] at e4
    have hL := (Ln_at e1).1
    have hg := lowC_get (getl _ _ (e4 hj))
    rw [hL]
    have efix : fix1 ((lowC cs).length : Nat) (lcm (jmC (lnsO cs) c) (z + 1)) = jmC (lnsO cs) c := by
      unfold fix1 lcm jmC
      simp
    rw [efix] at hg
    obtain ⟨zy, z1, _, _⟩ := lno_get cs 0 0 y hyl
    have hLy := Ln_at z1
    refine ⟨_, y, hg, rfl, hy, ?_⟩
    show (lnsO cs).getD c.yes.toNat 0 = _
    rw [hy, hLy.1]
    simp only [Int.toNat_natCast]
    exact hLy.2
  · have hg := lowC_get (cs := cs) (j := (prs (lnsO cs) cs 0).length) (c := ⟨104, 0, false, 0, 0, false, 0, 0, 0, 0, 0⟩) (by simp)
    rw [hLK]
    refine ⟨_, hg, ?_, ?_, lowC_len cs⟩
    · unfold fix1 lcm; simp
    · unfold fix1 lcm
      simp
      rw [lowC_len]; simp
  · intro i c hc
    obtain ⟨_, _, _, _, _, a, b⟩ := hcmd i c hc
    exact ⟨a, b⟩

theorem prs_mem {ns : List Int} : ∀ (cs : List Cm) (i : Nat) (q : List UInt8 × Cm), q ∈ prs ns cs i → ∃ d ∈ cs, q.2 = lnC ns d ∨ q.2 = jmC ns d
  | [], i, q, h => by simp [prs] at h
  | c :: r, i, q, h => by
    unfold prs at h
    rcases List.mem_cons.1 h with rfl | h
    · exact ⟨c, List.mem_cons_self .., .inl rfl⟩
    · rcases List.mem_append.1 h with h | h
      · by_cases hj : jmp c i = true
        · rw [if_pos hj] at h
          simp at h
          subst h
          exact ⟨c, List.mem_cons_self .., .inr rfl⟩
        · rw [if_neg hj] at h; simp at h
      · obtain ⟨d, hd, e⟩ := prs_mem r (i + 1) q h
        exact ⟨d, List.mem_cons_of_mem _ hd, e⟩
theorem lowC_mem {cs : List Cm} {c : Cm} (h : c ∈ lowC cs) : (∃ d j, d ∈ cs ∧ ∃ q, c = fix1 ((lowC cs).length : Nat) (lcm q j) ∧ (q = lnC (lnsO cs) d ∨ q = jmC (lnsO cs) d)) ∨ ∃ j : Nat, c = fix1 ((lowC cs).length : Nat) (lcm ⟨104, 0, false, 0, 0, false, 0, 0, 0, 0, 0⟩ j) := by
  obtain ⟨j, hj⟩ := List.mem_iff_getElem?.1 h
  have hjl := (List.getElem?_eq_some_iff.1 hj).1
  rw [lowC_len] at hjl
  obtain ⟨q, hq⟩ : ∃ q, ((prs (lnsO cs) cs 0).map (·.2) ++ [(⟨104, 0, false, 0, 0, false, 0, 0, 0, 0, 0⟩ : Cm)])[j]? = some q := ⟨_, List.getElem?_eq_getElem (by simp; omega)⟩
  have hg := lowC_get hq
  rw [hj] at hg
  obtain rfl := Option.some.inj hg
  rcases List.mem_append.1 (List.mem_iff_getElem?.2 ⟨j, hq⟩) with hm | hm
  · obtain ⟨q', hq', rfl⟩ := List.mem_map.1 hm
    obtain ⟨d, hd, e⟩ := prs_mem cs 0 q' hq'
    exact .inl ⟨d, j, hd, _, rfl, e⟩
  · simp at hm
    subst hm
    exact .inr ⟨j, rfl⟩

theorem strI_ok {L : Int} : ∀ (cs : List Cm) (i : Nat) (last : Int), (∀ c ∈ cs, (c.kind = 106 → c.yes < L) ∧ (c.kind = 122 → c.no < L)) → (cs = [] → last = 104 ∨ last = 106) → (∀ c, cs.getLast? = some c → c.kind = 104 ∨ c.kind = 106) → strI L cs i last = -1
  | [], i, last, _, h2, _ => by
    unfold strI
    rw [if_neg]
    intro h
    rcases h2 rfl with e | e
    · exact h.1 e
    · exact h.2 e
  | c :: r, i, last, h1, _, h3 => by
    obtain ⟨a, b⟩ := h1 c (List.mem_cons_self ..)
    unfold strI
    rw [if_neg (fun h => by have := a h.1; omega), if_neg (fun h => by have := b h.1; omega)]
    refine strI_ok r (i + 1) c.kind (fun d hd => h1 d (List.mem_cons_of_mem _ hd)) (fun e => ?_) (fun d hd => ?_)
    · subst e
      exact h3 c rfl
    · cases r with
      | nil => simp at hd
      | cons d' r' => exact h3 d (by simpa using hd)

/-- Lower's code is a code. -/
theorem low_code {s : ByteArray} (h : (kerP s).e = 0) : codP (lowS s) = ⟨0, 0, s.extract 0 (hdr s).1, (hdr s).2.2.1, pw (hdr s).2.2.1, (hdr s).2.2.2.1, (hdr s).2.2.2.2, lowC (krn s).cs⟩ := by
  obtain ⟨h1, h2, h3, h4, h5⟩ := low_read h
  have he := h
  rw [kerP_e] at he
  obtain ⟨hbig, hbad⟩ := chk_ok he
  have hT := low_trs hbad (by omega)
  have hst : stray (lowC (krn s).cs) = -1 := by
    obtain ⟨dl, hdl, hkl, hyl, hll⟩ := hT.last
    refine strI_ok _ 0 104 ?_ (fun _ => .inl rfl) ?_
    · intro c hc
      -- each line is a command's, its jump, or the last
      have key : ∀ (i : Nat), i ≤ (krn s).cs.length → Ln (krn s).cs i ≤ Ln (krn s).cs (krn s).cs.length := by
        intro i hi
        induction hd : (krn s).cs.length - i generalizing i with
        | zero => rw [show i = (krn s).cs.length from by omega]; exact Nat.le_refl _
        | succ k ih =>
          have hlt : i < (krn s).cs.length := by omega
          have hm := hT.mono i hlt
          have := ih (i + 1) (by omega) (by omega)
          split at hm
          · split at hm <;> omega
          · omega
      have hLK : Ln (krn s).cs (krn s).cs.length < (lowC (krn s).cs).length := by omega
      have hlo : ∀ o : Nat, o ≤ (krn s).cs.length → (lnsO (krn s).cs).getD o 0 < ((lowC (krn s).cs).length : Nat) := by
        intro o ho
        obtain ⟨zo, z1, _, _⟩ := lno_get (krn s).cs 0 0 o ho
        have hLo := Ln_at z1
        have := key o ho
        rw [hLo.2]
        omega
      rcases lowC_mem hc with ⟨d, j, hd, q, rfl, hq⟩ | ⟨j, rfl⟩
      · obtain ⟨i, hi⟩ := List.mem_iff_getElem?.1 hd
        obtain ⟨_, _, _, _, _, ⟨y, hy, hyl⟩, ⟨o, ho, hol⟩⟩ := ker_cmds hbad (by omega) i d hi
        have hkd := lnC_kind (ns := lnsO (krn s).cs) (c := d)
        have efix : fix1 ((lowC (krn s).cs).length : Nat) (lcm (lnC (lnsO (krn s).cs) d) j) = lcm (lnC (lnsO (krn s).cs) d) j := by
          unfold fix1
          rw [if_neg]
          show ¬ (lnC (lnsO (krn s).cs) d).kind = 104
          rcases hkd with ⟨a, b⟩ | ⟨_, b, _⟩ <;> omega
        rcases hq with rfl | rfl
        · rw [efix]
          refine ⟨fun (hk : (lnC (lnsO (krn s).cs) d).kind = 106) => ?_, fun (hk : (lnC (lnsO (krn s).cs) d).kind = 122) => ?_⟩
          · rcases hkd with ⟨a, b⟩ | ⟨_, b, _⟩ <;> omega
          · show (lnC (lnsO (krn s).cs) d).no < _
            rcases hkd with ⟨a, b⟩ | ⟨_, b, e⟩
            · omega
            · rw [e, ho]
              simp only [Int.toNat_natCast]
              exact hlo o hol
        · have e : fix1 ((lowC (krn s).cs).length : Nat) (lcm (jmC (lnsO (krn s).cs) d) j) = jmC (lnsO (krn s).cs) d := by
            unfold fix1 lcm jmC
            simp
          rw [e]
          refine ⟨fun _ => ?_, fun (hk : (106 : Int) = 122) => by omega⟩
          show (lnsO (krn s).cs).getD d.yes.toNat 0 < _
          rw [hy]
          simp only [Int.toNat_natCast]
          exact hlo y hyl
      · refine ⟨fun hk => ?_, fun hk => ?_⟩ <;> · unfold fix1 lcm at hk; simp at hk
    · intro c hc
      rw [List.getLast?_eq_getElem?, hll, show Ln (krn s).cs (krn s).cs.length + 1 - 1 = Ln (krn s).cs (krn s).cs.length from by omega, hdl] at hc
      obtain rfl := Option.some.inj hc
      exact .inl hkl
  unfold codP
  rw [if_neg (by omega), h4, if_neg (by simp), h5, hst, if_neg (by omega), h1, h2]
end Go.Proofs.YtnkbfdbbcaffmaaGreatDoor
/-
  The document's P7: sameInts, begins, ends, agree.
-/
namespace Go.Proofs.YtnkbfdbbcaffmaaGreatDoor
open Go.RowKit

set_option maxHeartbeats 1000000 in
theorem refSame_gen (a1 a2 : Option Addr) (c1 c2 : Nat) (zs ys : List Int) (hl : zs.length ≤ 9223372036854775807) (w : World) (h1 : LiesO w a1 zs) (h2 : LiesO w a2 ys) :
    Calls Tryz.prog 118 #[.slice a1 zs.length c1, .slice a2 ys.length c2] w fun e w' => ∃ bb, e = .returned (.bool bb) ∧ (zs = ys → bb = true) ∧ Below w.heap.size w w' := by
  have H1 := hide h1
  have H2 := hide h2
  clear h1 h2
  by_cases hle : zs.length = ys.length
  · rw [← hle]
    go_enter Tryz.func118, Tryz.ntmps118
    go_wp2_with fail
    go_loopw [5] (fun i wr => ∃ k : Nat, i = .int .i64 k ∧ k ≤ zs.length ∧ ∃ j, wr = w.drewN j) (fun i _ => zs.length - (intOf i).toNat)
    case atStart => exact ⟨0, rfl, Nat.zero_le _, 0, rfl⟩
    case round =>
      obtain ⟨k, rfl, hk, j, rfl⟩ := hrel
      by_cases hlt : k < zs.length
      · rcases unhide H1 with hn | ⟨ab, off, rfl, hL1, _⟩
        · rw [hn] at hlt; simp at hlt
        rcases unhide H2 with hn | ⟨ab2, off2, rfl, hL2, _⟩
        · rw [hn] at hle; rw [hle] at hlt; simp at hlt
        have q1 := hL1.at_ k hlt
        have q2 := hL2.at_ k (by omega)
        clear hL1 hL2
        have hlI : (k : Int) < (zs.length : Int) := by omega
        by_cases hq : zs.getD k 0 = ys.getD k 0
        · rw [← hq] at q2
          clear hq
          generalize zs.getD k 0 = z at *
          go_wp2_with fail
          go_quiet (fail)
          go_wp2_with fail
          go_roundw
          case rel => exact ⟨k + 1, by go_num, by omega, _, rfl⟩
          case measure => simp [intOf]; omega
        · have Hq := hide (show zs = ys → False from fun e => hq (by rw [e]))
          have hq2 : (zs.getD k 0 != ys.getD k 0) = true := by simpa using hq
          clear hq
          generalize zs.getD k 0 = z at *
          generalize ys.getD k 0 = y at *
          go_wp2_with fail
          go_quiet (fail)
          go_wp2_with fail
          go_ret
          exact ⟨false, rfl, fun e => (unhide Hq e).elim, below_drewN (below_drewN (Below.refl _ _) _) _⟩
      · go_wp2_with fail
        go_ret
        exact ⟨true, rfl, fun _ => rfl, below_drewN (Below.refl _ _) _⟩
  · have hne : ((zs.length : Int) != (ys.length : Int)) = true := by simp; omega
    have Hq := hide (show zs = ys → False from fun e => hle (by rw [e]))
    clear hle
    go_enter Tryz.func118, Tryz.ntmps118
    go_wp2_with fail
    go_ret
    exact ⟨false, rfl, fun e => (unhide Hq e).elim, Below.refl _ _⟩

set_option maxHeartbeats 1000000 in
theorem refBegins_any (s t : ByteArray) (w : World) :
    Calls Tryz.prog 102 #[.string s, .string t] w fun e w' => ∃ bb, e = .returned (.bool bb) ∧ (s.extract 0 t.size = t → t.size ≤ s.size → bb = true) ∧ w' = w := by
  by_cases hl : t.size ≤ s.size
  · go_enter Tryz.func102, Tryz.ntmps102
    go_wp2_with fail
    go_ret
    exact ⟨_, rfl, fun e _ => by rw [e]; simp, rfl⟩
  · have Hl := hide hl
    have hd : decide ((s.size : Int) ≥ (t.size : Int)) = false := by simp; omega
    go_enter Tryz.func102, Tryz.ntmps102
    go_wp2_with fail
    go_ret
    exact ⟨_, rfl, fun _ e => (unhide Hl e).elim, rfl⟩

set_option maxHeartbeats 2000000 in
theorem refEnds_any (tr sr te se : Int) (Sr' Se : ByteArray) (a1 a2 : Option Addr) (c1 c2 : Nat) (zs ys : List Int) (hl : zs.length ≤ 9223372036854775807) (w : World) (h1 : LiesO w a1 zs) (h2 : LiesO w a2 ys) :
    Calls Tryz.prog 101 #[.agg #[.int .i64 tr, .int .i64 sr, .string Sr', .slice a1 zs.length c1], .agg #[.int .i64 te, .int .i64 se, .string Se, .slice a2 ys.length c2]] w fun e w' => ∃ bb, e = .returned (.bool bb) ∧ (tr = te → zs = ys → Sr' = Se → bb = true) ∧ Below w.heap.size w w' := by
  have hg := gb_alloc (gb_alloc (gb_refl w none) (.cells #[.int .i64 tr, .int .i64 sr, .string Sr', .slice a1 zs.length c1] 55)) (.cells #[.int .i64 te, .int .i64 se, .string Se, .slice a2 ys.length c2] 55)
  have hs := hide (refSame_gen a1 a2 c1 c2 zs ys hl _ (h1.grown hg) (h2.grown hg))
  clear h1 h2
  have hT := hide (show ∀ x, (tr == te) = x → x = false → tr ≠ te from fun x h h' e => by subst e; simp [h'] at h)
  go_enter Tryz.func101, Tryz.ntmps101
  go_wp2_with fail
  refine (unhide hs).mono ?_
  rintro e w1 ⟨bb, rfl, hb, hB⟩
  have Hb := hide hb
  clear hb
  have r0 := hB.cell (p := ⟨w.heap.size, 0, none⟩) (by simp; omega)
  have r1 := hB.cell (p := ⟨w.heap.size, 2, none⟩) (by simp; omega)
  have r2 := hB.cell (p := ⟨w.heap.size + 1, 0, none⟩) (by simp)
  have r3 := hB.cell (p := ⟨w.heap.size + 1, 2, none⟩) (by simp)
  simp at r0 r1 r2 r3
  have HB := hide ((((Below.refl w.heap.size w).alloc (Nat.le_refl _) (.cells #[.int .i64 tr, .int .i64 sr, .string Sr', .slice a1 zs.length c1] 55)).alloc (by simp) (.cells #[.int .i64 te, .int .i64 se, .string Se, .slice a2 ys.length c2] 55)).trans (hB.mono (by simp; omega)))
  clear hB
  cases bb with
  | false =>
    go_wp2_with fail
    go_ret
    exact ⟨_, rfl, fun _ e _ => absurd (unhide Hb e) (by simp), unhide HB⟩
  | true =>
    cases hq : (tr == te) with
    | false =>
      go_wp2_with fail
      go_ret
      exact ⟨_, rfl, fun e => absurd e (unhide hT _ hq rfl), unhide HB⟩
    | true =>
      go_wp2_with fail
      go_ret
      refine ⟨_, rfl, fun _ _ e => ?_, unhide HB⟩
      subst e; simp

set_option maxHeartbeats 4000000 in
theorem refAgree_any (tr te : Int) (sr se n m : Nat) (Sr' Se : ByteArray) (a1 a2 : Option Addr) (c1 c2 : Nat) (zs ys : List Int) (hl : zs.length ≤ 9223372036854775807) (w : World) (h1 : LiesO w a1 zs) (h2 : LiesO w a2 ys)
    (hsr : sr ≤ 10000) (hse : se ≤ 10000) (hn : n ≤ 10000) (hm : m ≤ 10000)
    (g1 : tr ≠ 3 → 2 * sr + 2 ≤ m → tr = te ∧ zs = ys ∧ Sr' = Se) (g2 : te ≠ 3 → se ≤ n → tr = te ∧ zs = ys ∧ Sr' = Se)
    (g3 : (Sr'.extract 0 Se.size = Se ∧ Se.size ≤ Sr'.size) ∨ (Se.extract 0 Sr'.size = Sr' ∧ Sr'.size ≤ Se.size)) (g4 : m ≤ n → Sr'.extract 0 Se.size = Se ∧ Se.size ≤ Sr'.size) (g5 : 2 * n + 2 ≤ m → Se.extract 0 Sr'.size = Sr' ∧ Sr'.size ≤ Se.size) :
    Calls Tryz.prog 64 #[.agg #[.int .i64 tr, .int .i64 sr, .string Sr', .slice a1 zs.length c1], .agg #[.int .i64 te, .int .i64 se, .string Se, .slice a2 ys.length c2], .int .i64 n, .int .i64 m] w fun e w' => e = .returned (.bool true) ∧ Below w.heap.size w w' := by
  have hB0 := ((Below.refl w.heap.size w).alloc (Nat.le_refl _) (.cells #[.int .i64 tr, .int .i64 sr, .string Sr', .slice a1 zs.length c1] 55)).alloc (by simp) (.cells #[.int .i64 te, .int .i64 se, .string Se, .slice a2 ys.length c2] 55)
  have hg := gb_alloc (gb_alloc (gb_refl w none) (.cells #[.int .i64 tr, .int .i64 sr, .string Sr', .slice a1 zs.length c1] 55)) (.cells #[.int .i64 te, .int .i64 se, .string Se, .slice a2 ys.length c2] 55)
  have hs := hide (refEnds_any tr sr te se Sr' Se a1 a2 c1 c2 zs ys hl _ (h1.grown hg) (h2.grown hg))
  have hb1 := hide (refBegins_any Sr' Se)
  have hb2 := hide (refBegins_any Se Sr')
  clear h1 h2 hg
  have G := hide (And.intro g1 (And.intro g2 (And.intro g3 (And.intro g4 g5))))
  have HB0 := hide hB0
  clear g1 g2 g3 g4 g5 hB0
  go_enter Tryz.func64, Tryz.ntmps64
  go_wp2_with fail
  refine (unhide hs).mono ?_
  rintro e w1 ⟨bb, rfl, hb, hB⟩
  have r0 := hB.cell (p := ⟨w.heap.size, 0, none⟩) (by simp; omega)
  have r1 := hB.cell (p := ⟨w.heap.size, 1, none⟩) (by simp; omega)
  have r2 := hB.cell (p := ⟨w.heap.size, 2, none⟩) (by simp; omega)
  have q0 := hB.cell (p := ⟨w.heap.size + 1, 0, none⟩) (by simp)
  have q1 := hB.cell (p := ⟨w.heap.size + 1, 1, none⟩) (by simp)
  have q2 := hB.cell (p := ⟨w.heap.size + 1, 2, none⟩) (by simp)
  simp at r0 r1 r2 q0 q1 q2
  have HB := hide ((unhide HB0).trans (hB.mono (by simp; omega)))
  have e1 : tr = 3 ∨ (tr ≠ 3 ∧ ¬ 2 * (sr : Int) + 2 ≤ m) ∨ (tr ≠ 3 ∧ 2 * (sr : Int) + 2 ≤ m ∧ bb = true) := by
    by_cases a : tr = 3
    · exact .inl a
    · by_cases b : 2 * (sr : Int) + 2 ≤ m
      · obtain ⟨x, y, z⟩ := (unhide G).1 a (by omega)
        exact .inr (.inr ⟨a, b, hb x y z⟩)
      · exact .inr (.inl ⟨a, b⟩)
  have e2 : te = 3 ∨ (te ≠ 3 ∧ ¬ (se : Int) ≤ n) ∨ (te ≠ 3 ∧ (se : Int) ≤ n ∧ bb = true) := by
    by_cases a : te = 3
    · exact .inl a
    · by_cases b : (se : Int) ≤ n
      · obtain ⟨x, y, z⟩ := (unhide G).2.1 a (by omega)
        exact .inr (.inr ⟨a, b, hb x y z⟩)
      · exact .inr (.inl ⟨a, b⟩)
  have hc : ∀ c k : Bool, (Sr'.extract 0 Se.size = Se → Se.size ≤ Sr'.size → c = true) → (Se.extract 0 Sr'.size = Sr' → Sr'.size ≤ Se.size → k = true) → (c = true ∨ (c = false ∧ k = true ∧ ¬ (m : Int) ≤ n)) ∧ ((m : Int) < 2 * n + 2 ∨ (¬ (m : Int) < 2 * n + 2 ∧ k = true)) := by
    intro c k h1 h2
    obtain ⟨_, _, g3, g4, g5⟩ := unhide G
    constructor
    · cases c with
      | true => exact .inl rfl
      | false =>
        refine .inr ⟨rfl, ?_, ?_⟩
        · rcases g3 with ⟨x, y⟩ | ⟨x, y⟩
          · have := h1 x y; cases this
          · exact h2 x y
        · intro hh
          obtain ⟨x, y⟩ := g4 (by omega)
          have := h1 x y; cases this
    · by_cases hh : (m : Int) < 2 * n + 2
      · exact .inl hh
      · obtain ⟨x, y⟩ := g5 (by omega)
        exact .inr ⟨hh, h2 x y⟩
  have HC := hide hc
  have E2 := hide e2
  clear hb hB e2 hs HB0 hc G
  have E1 := hide e1
  clear e1
  rcases unhide E1 with rfl | ⟨h, h'⟩ | ⟨h, h', rfl⟩ <;> rcases unhide E2 with rfl | ⟨k, k'⟩ | ⟨k, k', e⟩
  all_goals (try subst e)
  all_goals
    clear E1 E2
    go_wp2_with fail
    refine (unhide hb1 _).mono ?_
    rintro e w2 ⟨bc, rfl, hbc, rfl⟩
    have Hbc := hide hbc
    clear hbc
    go_wp2_with fail
    refine (unhide hb2 _).mono ?_
    rintro e w3 ⟨bk, rfl, hbk, rfl⟩
    obtain ⟨t1, t2⟩ := unhide HC bc bk (unhide Hbc) hbk
    clear Hbc hbk HC hb1 hb2
    rcases t1 with rfl | ⟨rfl, rfl, t1⟩
    · by_cases t3 : (m : Int) ≤ n
      all_goals
        rcases t2 with t2 | ⟨t2, rfl⟩
        all_goals
          go_wp2_with fail
          go_ret
          exact ⟨rfl, unhide HB⟩
    · rcases t2 with t2 | ⟨t2, _⟩
      all_goals
        go_wp2_with fail
        go_ret
        exact ⟨rfl, unhide HB⟩
end Go.Proofs.YtnkbfdbbcaffmaaGreatDoor
