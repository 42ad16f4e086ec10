import Derived.Test.YtnkbfdbbcaffmaaGreatDoorX37CdW
import Derived.Test.YtnkbfdbbcaffmaaGreatDoorX08Ref3
import Derived.Test.YtnkbfdbbcaffmaaGreatDoorX09Law
import Derived.Test.YtnkbfdbbcaffmaaGreatDoorX36ExA
/-
  The document's CheckCode.
-/
namespace Go.Proofs.YtnkbfdbbcaffmaaGreatDoor
open Go.RowKit

theorem cod_ne {s : ByteArray} (h : codBad s = false) : (cod s).cs ≠ [] := by
  obtain ⟨ls, hL⟩ := cod_lines s h
  intro e
  rw [e] at hL
  cases ls with
  | cons l r => exact hL
  | nil =>
    have hp : (hdr s).1 = s.size := hL
    have hb : (cod s).bad = true := by
      unfold cod rdLs
      dsimp only
      rw [hp]
      have e0 : isLn (pk s s.size (hdr s).2.1) = false := by
        cases (hdr s).2.1 with
        | true => rw [pk_bad]; rfl
        | false => rw [pk_end s s.size (by omega)]; rfl
      rw [e0]
      have e1 : ((hdr s).2.1 || !false) = true := by simp
      rw [e1]
      cases s.size with
      | zero => rfl
      | succ f => rw [rdL, if_neg (by dsimp only; rw [pk_bad]; decide)]
    simp [codBad, hb] at h

/-- The kind of the last of the first k lines. -/
def lastK (cs : List Cm) (k : Nat) : Int := match (cs.take k).getLast? with
  | some c => c.kind
  | none => 104
theorem lastK_succ {cs : List Cm} {k : Nat} {c : Cm} (h : cs[k]? = some c) : lastK cs (k + 1) = c.kind := by
  have hl : k < cs.length := (List.getElem?_eq_some_iff.1 h).1
  unfold lastK
  rw [List.take_succ_eq_append_getElem hl, List.getLast?_concat]
  rw [List.getElem?_eq_getElem hl] at h
  rw [Option.some.inj h]

theorem strI_goal {L : Nat} {c : Cm} {r : List Cm} {i : Nat} {last : Int} : strI L (c :: r) i last = if (L : Int) ≤ goalC c then (i : Int) else strI L r (i + 1) c.kind := by
  rw [strI]
  by_cases h1 : c.kind = 106
  · have g : goalC c = c.yes := by unfold goalC; rw [if_neg (by omega), if_pos h1]
    rw [g]
    by_cases h2 : (L : Int) ≤ c.yes
    · rw [if_pos ⟨h1, h2⟩, if_pos h2]
    · rw [if_neg (fun h => h2 h.2), if_neg (fun h => by have := h.1; omega), if_neg h2]
  · rw [if_neg (fun h => h1 h.1)]
    by_cases h3 : c.kind = 122
    · have g : goalC c = c.no := by unfold goalC; rw [if_pos h3]
      rw [g]
      by_cases h2 : (L : Int) ≤ c.no
      · rw [if_pos ⟨h3, h2⟩, if_pos h2]
      · rw [if_neg (fun h => h2 h.2), if_neg h2]
    · have g : goalC c = -1 := by unfold goalC; rw [if_neg h3, if_neg h1]
      rw [g, if_neg (fun h => h3 h.1), if_neg (by omega)]

theorem LnT.first {V : Int} {n : Nat} {c : Cm} {l : ByteArray} (h : LnT V n c l.data.toList) : ∃ h0 : 0 < l.size, (l[0].toNat : Int) = c.kind := by
  obtain ⟨h1, r, h2, h3⟩ := h.len
  have hsz := size_list l
  have hpos : 0 < szc c.kind := by unfold szc; repeat' split
                                   all_goals omega
  have h0 : 0 < l.size := by omega
  refine ⟨h0, ?_⟩
  rw [byte_eq h0 (c := UInt8.ofNat c.kind.toNat) (by rw [h2]; rfl), h3]
  have : 0 ≤ c.kind := by rcases h with ⟨_, _, _, _, _, h, _⟩ | ⟨_, _, _, h, _⟩ | ⟨_, _, _, h, _⟩ | ⟨_, _, _, _, _, _, h, _⟩ | ⟨_, _, _, _, _, h, _⟩ | ⟨_, h⟩ <;> omega
  omega

set_option maxHeartbeats 2000000 in
theorem refCheckCode_any (s : ByteArray) (hmx : s.size ≤ maxLen) (w : World) :
    Calls Tryz.prog 19 #[.string s] w fun e w' => e = .returned (.tuple #[.int .i64 (codP s).e, .int .i64 (codP s).z1]) ∧ Below w.heap.size w w' := by
  unfold maxLen at hmx
  have hqq : codP s = if 1000 < s.size then ⟨1, 0, ⟨#[]⟩, 0, 0, 0, 0, []⟩
    else if codBad s = true then ⟨2, (cod s).p, ⟨#[]⟩, 0, 0, 0, 0, []⟩
    else if 0 ≤ stray (cod s).cs then ⟨3, stray (cod s).cs, ⟨#[]⟩, 0, 0, 0, 0, []⟩
    else ⟨0, 0, s.extract 0 (hdr s).1, (hdr s).2.2.1, pw (hdr s).2.2.1, (hdr s).2.2.2.1, (hdr s).2.2.2.2, (cod s).cs⟩ := rfl
  generalize codP s = q at *
  by_cases hbig : 1000 < s.size
  · rw [if_pos hbig] at hqq
    subst hqq
    go_enter Tryz.func19, Tryz.ntmps19
    go_wp2_with fail
    go_ret2
    exact ⟨rfl, Below.refl _ _⟩
  · rw [if_neg hbig] at hqq
    have hsm : s.size ≤ 1000 := by omega
    have hsh := shape_code s
    have SH := hide (fun w0 => shape_any s ⟨codeF.toArray⟩ hsm (by decide) w0)
    rw [show (ByteArray.data ⟨codeF.toArray⟩).toList = codeF from rfl] at SH
    have hpl := cod_le s
    cases hcb : codBad s with
    | true =>
      rw [hcb, if_pos rfl] at hqq hsh
      rw [hsh] at SH
      rw [show ansI (some (cod s).p) = ((cod s).p : Int) from rfl] at SH
      subst hqq
      dsimp only
      clear hsh
      generalize (cod s).p = p at *
      go_enter Tryz.func19, Tryz.ntmps19
      go_wp2_with fail
      refine (unhide SH _).mono ?_
      rintro e w' ⟨rfl, rfl⟩
      go_wp2_with fail
      go_ret2
      exact ⟨rfl, Below.refl _ _⟩
    | false =>
      rw [hcb, if_neg (by simp)] at hqq hsh
      rw [hsh] at SH
      rw [show ansI none = -1 from rfl] at SH
      obtain ⟨ls, hLn⟩ := cod_lines s hcb
      have hne := cod_ne hcb
      have hhd := cod_head hcb
      have hcl := cod_len s
      have hll := hLn.len
      have hget := fun i c (h : (cod s).cs[i]? = some c) => hLn.get h
      have LI := hide (fun w0 => lines_any s hsm hhd _ _ _ _ hLn w0)
      have hsb := stray_bd (cod s).cs
      have hsd : stray (cod s).cs = strI ((cod s).cs.length : Nat) (cod s).cs 0 104 := rfl
      generalize hV : pw (hdr s).2.2.1 = V at *
      generalize (hdr s).2.2.2.1 = n at *
      generalize (cod s).cs = cs at *
      have Hget := hide hget
      have hcs1 : 0 < cs.length := List.length_pos_iff.2 hne
      have hq1 : q.e = (if 0 ≤ stray cs then 3 else 0) ∧ q.z1 = (if 0 ≤ stray cs then stray cs else 0) := by
        rw [hqq]; split <;> exact ⟨rfl, rfl⟩
      obtain ⟨hq1, hq2⟩ := hq1
      rw [hq1, hq2]
      generalize hst : stray cs = sl at *
      generalize hE : (if 0 ≤ sl then (3 : Int) else 0) = E
      generalize hZ : (if 0 ≤ sl then sl else 0) = Z
      have HE := hide hE
      have HZ := hide hZ
      clear hE hZ
      have Hsd : Hid (strI cs.length cs 0 (lastK cs 0) = sl) := hsd.symm
      clear hqq hsh hLn hget hsd hst hcb hhd hne hV hq1 hq2
      obtain ⟨hsb1, hsb2⟩ := hsb
      go_enter Tryz.func19, Tryz.ntmps19
      go_wp2_with fail
      refine (unhide SH _).mono ?_
      rintro e w' ⟨rfl, rfl⟩
      go_wp2_with fail
      refine (unhide LI _).mono ?_
      rintro e w1 ⟨lv, rfl, hLs, hB1⟩
      obtain ⟨ao, cap, rfl⟩ := hLs.shape
      rw [hll] at hLs ⊢
      have HLs := hide hLs
      clear hLs
      go_wp2_with fail
      go_loopw [6] (fun i wr => ∃ k : Nat, i = .int .i64 k ∧ k ≤ cs.length ∧ (∃ j, wr = w1.drewN j) ∧ Hid (strI cs.length (cs.drop k) k (lastK cs k) = sl)) (fun i _ => cs.length - (intOf i).toNat)
      case atStart => exact ⟨0, rfl, Nat.zero_le _, ⟨0, rfl⟩, Hsd⟩
      case round =>
        obtain ⟨k, rfl, hk, ⟨j, rfl⟩, HK⟩ := hrel
        by_cases hlt : k < cs.length
        · obtain ⟨c, hc⟩ : ∃ c, cs[k]? = some c := ⟨_, List.getElem?_eq_getElem hlt⟩
          obtain ⟨l, hl, hLT⟩ := unhide Hget k c hc
          have hLs' := unhide HLs
          rw [← hll] at hLs'
          obtain ⟨g, rfl, hgb, y0⟩ := hLs'.at_ hl
          have hst := unhide HK
          have hgc : cs[k] = c := by rw [List.getElem?_eq_getElem hlt] at hc; exact Option.some.inj hc
          rw [List.drop_eq_getElem_cons hlt, hgc, strI_goal] at hst
          have Hst := hide hst
          have hlk := lastK_succ hc
          have Hlk := hide hlk
          have GO := hide (fun w0 => goal_any hLT w0)
          clear hst hgc hc HK hLs' hLT hl hlk
          have hlI : (k : Int) < (cs.length : Int) := by omega
          by_cases l1 : (cs.length : Int) ≤ goalC c
          · have d1 : decide ((cs.length : Int) ≤ goalC c) = true := by simpa using l1
            have hrf : (k : Int) = sl := by rw [← unhide Hst, if_pos l1]
            have d2 : 0 ≤ sl := by omega
            have Hrf := hide hrf
            generalize goalC c = gl at *
            clear hrf l1
            go_wp2_with fail
            refine (unhide GO _).mono ?_
            rintro e w2 ⟨rfl, rfl⟩
            go_wp2_with fail
            go_ret2
            exact ⟨by rw [← unhide HE, ← unhide HZ, if_pos d2, if_pos d2, ← unhide Hrf]; rfl, below_drewN hB1 _⟩
          · have d1 : decide ((cs.length : Int) ≤ goalC c) = false := by simpa using l1
            have hrf : strI cs.length (cs.drop (k + 1)) (k + 1) (lastK cs (k + 1)) = sl := by rw [← unhide Hst, if_neg l1, unhide Hlk]
            have Hrf := hide hrf
            generalize goalC c = gl at *
            clear hrf l1
            go_wp2_with fail
            refine (unhide GO _).mono ?_
            rintro e w2 ⟨rfl, rfl⟩
            go_wp2_with fail
            go_roundw
            case rel => exact ⟨k + 1, by go_num, by omega, ⟨_, rfl⟩, Hrf⟩
            case measure => simp [intOf]; omega
        · obtain rfl : k = cs.length := by omega
          have hst := unhide HK
          rw [List.drop_of_length_le (Nat.le_refl _), strI] at hst
          obtain ⟨f, hf⟩ : ∃ f, cs.length = f + 1 := ⟨cs.length - 1, by omega⟩
          obtain ⟨c, hc⟩ : ∃ c, cs[f]? = some c := ⟨_, List.getElem?_eq_getElem (by omega)⟩
          obtain ⟨l, hl, hLT⟩ := unhide Hget f c hc
          have hLs' := unhide HLs
          rw [← hll] at hLs'
          obtain ⟨g, rfl, hgb, y0⟩ := hLs'.at_ hl
          obtain ⟨l0, l1⟩ := hLT.first
          have hlk := lastK_succ hc
          rw [← hf] at hlk
          rw [hlk] at hst
          generalize hck : c.kind = ck at *
          have Hst := hide hst
          clear hst hc HK hLs' hLT hl hlk hck hlt hk
          generalize hcl2 : cs.length = N at *
          subst hf
          by_cases k1 : ck = 104
          · have e1 : (ck != 104) = false := by simpa using k1
            have hrf : (-1 : Int) = sl := by rw [← unhide Hst, if_neg (fun h => h.1 k1)]
            have D2 := hide (show ¬ 0 ≤ sl by omega)
            clear k1 hrf
            go_wp2_with fail
            go_ret2
            exact ⟨by rw [← unhide HE, ← unhide HZ, if_neg (by have := unhide D2; omega), if_neg (by have := unhide D2; omega)]; rfl, below_drewN hB1 _⟩
          · have e1 : (ck != 104) = true := by simpa using k1
            by_cases k2 : ck = 106
            · have e2 : (ck != 106) = false := by simpa using k2
              have hrf : (-1 : Int) = sl := by rw [← unhide Hst, if_neg (fun h => h.2 k2)]
              have D2 := hide (show ¬ 0 ≤ sl by omega)
              clear k1 k2 hrf
              go_wp2_with fail
              go_ret2
              exact ⟨by rw [← unhide HE, ← unhide HZ, if_neg (by have := unhide D2; omega), if_neg (by have := unhide D2; omega)]; rfl, below_drewN hB1 _⟩
            · have e2 : (ck != 106) = true := by simpa using k2
              have hrf : ((f + 1 : Nat) : Int) = sl := by rw [← unhide Hst, if_pos ⟨k1, k2⟩]
              have D2 := hide (show 0 ≤ sl by omega)
              have Hrf := hide hrf
              clear k1 k2 hrf
              go_wp2_with fail
              go_ret2
              exact ⟨by rw [← unhide HE, ← unhide HZ, if_pos (unhide D2), if_pos (unhide D2), ← unhide Hrf]; rfl, below_drewN hB1 _⟩
end Go.Proofs.YtnkbfdbbcaffmaaGreatDoor
/-
  The law Codes: its walk.
-/
namespace Go.Proofs.YtnkbfdbbcaffmaaGreatDoor
open Go.RowKit

set_option maxHeartbeats 1000000 in
theorem plays_code (k : Nat) (n m p : Int) (S : ByteArray) (a1 a2 : Option Addr) (l1 c1 l2 c2 : Nat) (hS : S.size ≤ maxLen) (w : World) :
    Calls Tryz.prog 13 #[.pointer (some ⟨k, 0, none⟩), .agg #[.int .i64 3, .int .i64 n, .int .i64 m, .int .i64 p, .string S, .slice a1 l1 c1, .slice a2 l2 c2]] w fun e w' => e = .returned (.bool true) ∧ Below w.heap.size w w' := by
  have CK := hide (fun w0 => checkCode_any S hS w0)
  have CR := hide (fun w0 => refCheckCode_any S hS w0)
  generalize (codP S).e = x at *
  generalize (codP S).z1 = y at *
  go_enter Tryz.func13, Tryz.ntmps13
  go_wp2_with fail
  refine (unhide CK _).mono ?_
  rintro e w1 ⟨rfl, hb1⟩
  have hA := At.new w 31 #[.int .i64 3, .int .i64 n, .int .i64 m, .int .i64 p, .string S, .slice a1 l1 c1, .slice a2 l2 c2]
  have hA1 : At w1 w.heap.size 31 #[.int .i64 3, .int .i64 n, .int .i64 m, .int .i64 p, .string S, .slice a1 l1 c1, .slice a2 l2 c2] := hA.below hb1 (by simp)
  have d4 := hA1.cell 4
  simp at d4
  have hB := (((Below.refl w.heap.size w).alloc (Nat.le_refl _) _).trans (hb1.mono (by simp)))
  clear hA hA1
  go_wp2_with fail
  refine (unhide CR _).mono ?_
  rintro e w2 ⟨rfl, hb2⟩
  go_wp2_with fail
  refine (num_any _ _).mono ?_
  rintro e w3 ⟨rfl, rfl⟩
  go_wp2_with fail
  go_ret
  exact ⟨rfl, hB.trans (hb2.mono hB.size)⟩

set_option maxHeartbeats 2000000 in
theorem upTo_codes (ao : Option Addr) (len cap : Nat) (w : World) (hs : IsScript w ao len) :
    Calls Tryz.prog 12 #[.slice ao len cap, .int .i64 3, .int .i64 3] w fun e w' => e = .returned (.int .i64 (-1)) ∧ Below w.heap.size w w' := by
  have hlen : len ≤ 9223372036854775807 := by
    rcases hs with rfl | ⟨_, _, _, _, h, _⟩
    · omega
    · unfold maxLen at h; omega
  go_enter Tryz.func12, Tryz.ntmps12
  go_wp2_with fail
  go_loopw [8] (fun i wr => ∃ k : Nat, i = .int .i64 k ∧ k ≤ len ∧ At wr w.heap.size 28 #[.slice none 0 0] ∧ Below w.heap.size w wr) (fun i _ => len - (intOf i).toNat)
  case atStart => exact ⟨0, rfl, Nat.zero_le _, At.new w _ _, (Below.refl _ _).alloc (Nat.le_refl _) _⟩
  case round =>
    obtain ⟨k, rfl, hk, hAk, hBk⟩ := hrel
    by_cases hlt : k < len
    · rcases hs with rfl | ⟨b, off, rfl, hb, hm, hall⟩
      · omega
      obtain ⟨kind, n, m, p, S, va, vb, hop, hS, ⟨a1, l1, c1, rfl⟩, ⟨a2, l2, c2, rfl⟩⟩ := hall k hlt
      obtain ⟨o0, o1, o2, o3, o4, o5, o6⟩ := hop
      rw [← hBk.cell (p := ⟨b, off + k * 7, none⟩) hb] at o0
      rw [← hBk.cell (p := ⟨b, off + k * 7 + 1, none⟩) hb] at o1
      rw [← hBk.cell (p := ⟨b, off + k * 7 + 2, none⟩) hb] at o2
      rw [← hBk.cell (p := ⟨b, off + k * 7 + 3, none⟩) hb] at o3
      rw [← hBk.cell (p := ⟨b, off + k * 7 + 4, none⟩) hb] at o4
      rw [← hBk.cell (p := ⟨b, off + k * 7 + 5, none⟩) hb] at o5
      rw [← hBk.cell (p := ⟨b, off + k * 7 + 6, none⟩) hb] at o6
      by_cases hkind : kind = 3
      · subst hkind
        have Hall := hide hall
        clear hall
        go_wp2_with fail
        refine (plays_code w.heap.size n m p S a1 a2 l1 c1 l2 c2 hS _).mono ?_
        rintro e w1 ⟨rfl, hb1⟩
        have hA1 : At w1 w.heap.size 28 #[.slice none 0 0] := by
          have := At.alloc hAk (.cells #[.int .i64 3, .int .i64 n, .int .i64 m, .int .i64 p, .string S, .slice a1 l1 c1, .slice a2 l2 c2] 31)
          have hl := this.lt
          unfold At at this ⊢
          rw [hb1.block _ hl]; exact this
        have hB1 := (hBk.alloc hBk.size _).trans (hb1.mono (by simp; exact Nat.le_succ_of_le hBk.size))
        go_wp2_with fail
        refine (holds_none w1 w.heap.size hA1).mono ?_
        rintro e w2 ⟨rfl, rfl⟩
        go_wp2_with fail
        go_roundw
        case rel => exact ⟨k + 1, by go_num, by omega, hA1, hB1⟩
        case measure => simp [intOf]; omega
      · have Hall := hide hall
        clear hall
        by_cases hlow : 3 ≤ kind
        · have hd : decide (kind ≤ 3) = false := by simp; omega
          go_wp2_with fail
          go_roundw
          case rel => exact ⟨k + 1, by go_num, by omega, At.alloc hAk _, hBk.alloc hBk.size _⟩
          case measure => simp [intOf]; omega
        · have hd : decide (3 ≤ kind) = false := by simp; omega
          go_wp2_with fail
          go_roundw
          case rel => exact ⟨k + 1, by go_num, by omega, At.alloc hAk _, hBk.alloc hBk.size _⟩
          case measure => simp [intOf]; omega
    · go_wp2_with fail
      go_ret
      exact ⟨rfl, hBk⟩

set_option maxHeartbeats 400000 in
theorem codes_walk (ao : Option Addr) (len cap : Nat) (w : World) (hs : IsScript w ao len) :
    Calls Tryz.prog 5 #[.slice ao len cap] w fun e w' => e = .returned (.bool true) ∧ Below w.heap.size w w' := by
  go_enter Tryz.func5, Tryz.ntmps5
  go_wp2_with fail
  refine (upTo_codes ao len cap w hs).mono ?_
  rintro e w1 ⟨rfl, hb⟩
  go_wp2_with fail
  go_ret
  exact ⟨rfl, hb⟩
end Go.Proofs.YtnkbfdbbcaffmaaGreatDoor
