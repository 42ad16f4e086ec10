import Derived.Test.YtnkbfdbbcaffmabX16KpA
import Derived.Deep.LoopGhost
/-
  The maker: piece.
-/
namespace Go.Proofs.Ytnkbfdbbcaffmab
open Go.RowKit

section
variable {w w' : World} {b : Nat} {ao : Option Addr} {cin : Nat} {zs : List Int} {at_ : Nat} {text : ByteArray} {vars : Nat}

/-- What piece leaves. -/
def Pce (w : World) (b : Nat) (ao : Option Addr) (cin : Nat) (zs : List Int) (text : ByteArray) (vars : Nat) (eb : UInt8) (e : Ending) (w' : World) : Prop :=
  e = .returned (.tuple #[]) ∧ ∃ (c : UInt8) (t' : ByteArray) (at' : Nat), stn eb.toNat c.toNat vars = true ∧ t'.data.toList = text.data.toList ++ [c] ∧ Mkr w' b ao cin zs at' t' vars ∧ w.grownBy w' (some b)

theorem ofNat_toNat (k : Nat) (h : k < 256) : (((UInt8.ofNat k).toNat : Nat) : Int) = k := by
  rw [UInt8.toNat_ofNat_of_lt' h]

theorem ops_at : ∀ (k : Nat) (h : k < 11), isOp (((({ data := #[43, 45, 38, 124, 94, 60, 61, 85, 68, 47, 37] } : ByteArray)[k]'h).toNat : Nat) : Int) = true := by decide

set_option maxHeartbeats 2000000 in
theorem piece_o (h : Mkr w b ao cin zs at_ text vars) (hts : text.size ≤ 1000000) :
    Calls Try.prog 31 #[.pointer (some ⟨b, 0, none⟩), .int .u8 111] w (Pce w b ao cin zs text vars 111) := by
  have hp := hide (mpick_any h 11 (by omega) (by omega))
  clear h
  go_enter Try.func31, Try.ntmps31
  go_wp2_with fail
  refine (unhide hp).mono ?_
  rintro e w1 ⟨k, at2, rfl, hk, ht, hM1, hg1⟩
  have hk2 : k < 11 := by omega
  have hk3 : (k : Int) < 11 := by omega
  go_wp2_with fail
  refine (put_any hM1 hts _).mono ?_
  rintro e w2 ⟨t2, ht2, rfl, hM2, hg2⟩
  go_wp2_with fail
  go_end0
  exact ⟨rfl, _, t2, at2, ops_at k hk2, ht2, hM2, gb_trans hg1 hg2⟩

set_option maxHeartbeats 2000000 in
theorem piece_v (h : Mkr w b ao cin zs at_ text vars) (hts : text.size ≤ 1000000) (hv1 : 1 ≤ vars) (hv8 : vars ≤ 8) :
    Calls Try.prog 31 #[.pointer (some ⟨b, 0, none⟩), .int .u8 118] w (Pce w b ao cin zs text vars 118) := by
  obtain ⟨m0, m1, m2, m3, m4, mf⟩ := h.five
  have hp := hide (mpick_any h vars (by omega) (by omega))
  clear h
  go_enter Try.func31, Try.ntmps31
  go_wp2_with fail
  refine (unhide hp).mono ?_
  rintro e w1 ⟨k, at2, rfl, hk, ht, hM1, hg1⟩
  go_wp2_with fail
  have hc : (97 + (k : Int)) = (((UInt8.ofNat (97 + k)).toNat : Nat) : Int) := by rw [ofNat_toNat _ (by omega)]; omega
  rw [hc]
  generalize UInt8.ofNat (97 + k) = cb at *
  have Hc := hide hc
  clear hc
  refine (put_any hM1 hts _).mono ?_
  rintro e w2 ⟨t2, ht2, rfl, hM2, hg2⟩
  go_wp2_with fail
  go_end0
  refine ⟨rfl, _, t2, at2, ?_, ht2, hM2, gb_trans hg1 hg2⟩
  rw [← unhide Hc]
  show (decide (97 ≤ 97 + (k : Int)) && decide (97 + (k : Int) - 97 < (vars : Int))) = true
  rw [decide_eq_true (by omega), decide_eq_true (by omega)]; rfl

set_option maxHeartbeats 2000000 in
theorem piece_x (h : Mkr w b ao cin zs at_ text vars) (hts : text.size ≤ 1000000) (hv1 : 1 ≤ vars) (hv8 : vars ≤ 8) :
    Calls Try.prog 31 #[.pointer (some ⟨b, 0, none⟩), .int .u8 120] w (Pce w b ao cin zs text vars 120) := by
  have hp := hide (mpick_any h 3 (by omega) (by omega))
  clear h
  go_enter Try.func31, Try.ntmps31
  go_wp2_with fail
  refine (unhide hp).mono ?_
  rintro e w1 ⟨k, at2, rfl, hk, ht, hM1, hg1⟩
  by_cases hk2 : k < 2
  · have hd : decide ((k : Int) < 2) = true := by simp; omega
    obtain ⟨m0, m1, m2, m3, m4, mf⟩ := hM1.five
    go_wp2_with fail
    refine (mpick_any hM1 vars (by omega) (by omega)).mono ?_
    rintro e w3 ⟨k3, at3, rfl, hk3, _, hM3, hg3⟩
    go_wp2_with fail
    have hc : (97 + (k3 : Int)) = (((UInt8.ofNat (97 + k3)).toNat : Nat) : Int) := by rw [ofNat_toNat _ (by omega)]; omega
    rw [hc]
    generalize UInt8.ofNat (97 + k3) = cb at *
    have Hc := hide hc
    clear hc
    refine (put_any hM3 hts _).mono ?_
    rintro e w2 ⟨t2, ht2, rfl, hM2, hg2⟩
    go_wp2_with fail
    go_end0
    refine ⟨rfl, _, t2, at3, ?_, ht2, hM2, gb_trans (gb_trans hg1 hg3) hg2⟩
    rw [← unhide Hc]
    show ((decide (97 ≤ 97 + (k3 : Int)) && decide (97 + (k3 : Int) - 97 < (vars : Int))) || isDig (97 + (k3 : Int))) = true
    rw [decide_eq_true (by omega), decide_eq_true (by omega)]; rfl
  · have hd : decide ((k : Int) < 2) = false := by simp; omega
    go_wp2_with fail
    refine (mpick_any hM1 10 (by omega) (by omega)).mono ?_
    rintro e w3 ⟨k3, at3, rfl, hk3, _, hM3, hg3⟩
    go_wp2_with fail
    have hc : (48 + (k3 : Int)) = (((UInt8.ofNat (48 + k3)).toNat : Nat) : Int) := by rw [ofNat_toNat _ (by omega)]; omega
    rw [hc]
    generalize UInt8.ofNat (48 + k3) = cb at *
    have Hc := hide hc
    clear hc
    refine (put_any hM3 hts _).mono ?_
    rintro e w2 ⟨t2, ht2, rfl, hM2, hg2⟩
    go_wp2_with fail
    go_end0
    refine ⟨rfl, _, t2, at3, ?_, ht2, hM2, gb_trans (gb_trans hg1 hg3) hg2⟩
    rw [← unhide Hc]
    show (isName (48 + (k3 : Int)) vars || (decide (48 ≤ 48 + (k3 : Int)) && decide (48 + (k3 : Int) ≤ 57))) = true
    rw [decide_eq_true (show (48 : Int) ≤ 48 + (k3 : Int) by omega), decide_eq_true (show 48 + (k3 : Int) ≤ 57 by omega)]; simp

set_option maxHeartbeats 2000000 in
theorem piece_br (h : Mkr w b ao cin zs at_ text vars) (hts : text.size ≤ 1000000) (eb : UInt8) (he : eb = 40 ∨ eb = 41) :
    Calls Try.prog 31 #[.pointer (some ⟨b, 0, none⟩), .int .u8 eb.toNat] w (Pce w b ao cin zs text vars eb) := by
  rcases he with rfl | rfl
  · go_enter Try.func31, Try.ntmps31
    go_wp2_with fail
    refine (put_any h hts 40).mono ?_
    rintro e w2 ⟨t2, ht2, rfl, hM2, hg2⟩
    go_wp2_with fail
    go_end0
    exact ⟨rfl, 40, t2, at_, rfl, ht2, hM2, hg2⟩
  · go_enter Try.func31, Try.ntmps31
    go_wp2_with fail
    refine (put_any h hts 41).mono ?_
    rintro e w2 ⟨t2, ht2, rfl, hM2, hg2⟩
    go_wp2_with fail
    go_end0
    exact ⟨rfl, 41, t2, at_, rfl, ht2, hM2, hg2⟩

theorem piece_any (h : Mkr w b ao cin zs at_ text vars) (hts : text.size ≤ 1000000) (hv1 : 1 ≤ vars) (hv8 : vars ≤ 8) (eb : UInt8) (he : symB eb) :
    Calls Try.prog 31 #[.pointer (some ⟨b, 0, none⟩), .int .u8 eb.toNat] w (Pce w b ao cin zs text vars eb) := by
  rcases he with rfl | rfl | rfl | he
  · exact piece_v h hts hv1 hv8
  · exact piece_x h hts hv1 hv8
  · exact piece_o h hts
  · exact piece_br h hts eb he
end
end Go.Proofs.Ytnkbfdbbcaffmab
/-
  The maker: body, Kernel.
-/
namespace Go.Proofs.Ytnkbfdbbcaffmab
open Go.RowKit

theorem keep_empty {t : ByteArray} (h : t.data.toList = []) : t.toList.isEmpty = true := by rw [ByteArray.toList_eq, h]; rfl
theorem keep_full {t : ByteArray} (h : 0 < t.size) : t.toList.isEmpty = false := by
  rw [ByteArray.toList_eq, List.isEmpty_eq_false_iff]
  intro e
  have := size_list t
  rw [e, List.length_nil] at this; omega
theorem Wft.head {c : UInt8} {t : List UInt8} (h : Wft (c :: t)) : c = 66 ∨ symB c := by
  rcases h.1 with h1 | h1
  · exact .inl h1.1
  · exact .inr h1.1
theorem symB_ne {c : UInt8} (h : symB c) : c ≠ 66 := by
  rcases h with rfl | rfl | rfl | rfl | rfl <;> decide

section
variable {w w' : World} {b : Nat} {ao : Option Addr} {cin : Nat} {zs : List Int} {at_ : Nat} {text : ByteArray} {vars : Nat}

set_option maxHeartbeats 2000000 in
theorem body_any (h : Mkr w b ao cin zs at_ text vars) (hI : MI vars text.data.toList [66]) (hv1 : 1 ≤ vars) (hv8 : vars ≤ 8) :
    Calls Try.prog 21 #[.pointer (some ⟨b, 0, none⟩)] w fun e w' => e = .returned (.tuple #[]) ∧ ∃ (t' : ByteArray) (at' : Nat), (∃ B, t'.data.toList = text.data.toList ++ B) ∧ MI vars t'.data.toList [] ∧ Mkr w' b ao cin zs at' t' vars ∧ w.grownBy w' (some b) := by
  have H := hide h
  have HI := hide hI
  clear h hI
  go_enter Try.func21, Try.ntmps21
  go_wp2_with fail
  go_loopg [2] 3000 (fun g td wr => ∃ (todo t : ByteArray) (at' : Nat), td = .string todo ∧ Hid (Mkr wr b ao cin zs at' t vars) ∧ Hid (MI vars t.data.toList todo.data.toList) ∧ Hid (∃ B, t.data.toList = text.data.toList ++ B) ∧ Hid (w.grownBy wr (some b)) ∧ Hid (8 * (300 - t.size) + todo.size ≤ g) ∧ Hid (8 * (300 - t.size) + todo.size ≤ 3000))
  case atStart => exact ⟨⟨#[66]⟩, text, at_, rfl, H, HI, ⟨[], by simp⟩, gb_refl _ _, (by show _ + ByteArray.size ⟨#[66]⟩ ≤ _; rw [show ByteArray.size ⟨#[66]⟩ = 1 from rfl]; omega), (by show _ + ByteArray.size ⟨#[66]⟩ ≤ _; rw [show ByteArray.size ⟨#[66]⟩ = 1 from rfl]; omega)⟩
  case round =>
    obtain ⟨todo, t, at', rfl, hM, hMI, hpre, hgr, hme, hm3⟩ := hrel
    have htd : todo.size ≤ 3000 := by have := unhide hm3; omega
    have htl : t.size ≤ 246 := by have h := (unhide hMI).sum; rw [← size_list] at h; omega
    by_cases hz : todo.size = 0
    · have hnil : todo.data.toList = [] := by
        have := size_list todo
        exact List.eq_nil_of_length_eq_zero (by omega)
      have hem := keep_empty hnil
      have hMI2 : MI vars t.data.toList [] := by have h := unhide hMI; rw [hnil] at h; exact h
      have HMI2 := hide hMI2
      clear hMI2 hnil hz
      go_wp2_with fail
      go_end0
      exact ⟨rfl, t, at', unhide hpre, unhide HMI2, unhide hM, unhide hgr⟩
    · have h0 : 0 < todo.size := by omega
      have h1 : 1 ≤ todo.size := by omega
      have hem := keep_full h0
      have hdl : todo.data.toList = todo[0] :: (todo.extract 1 todo.size).data.toList := by
        have := drop_at todo 0 h0
        rw [ext_list]; simpa using this
      have hxs : (todo.extract 1 todo.size).size = todo.size - 1 := by rw [ByteArray.size_extract]; omega
      have hMI1 := unhide hMI
      rw [hdl] at hMI1
      have hhead := hMI1.wf.head
      have HX := hide hxs
      clear hxs hz
      by_cases hb : todo[0] = 66
      · rw [hb] at hMI1
        have hk : (todo[0].toNat : Int) = 66 := by rw [hb]; rfl
        have HMI1 := hide hMI1
        clear hMI1 hhead hdl hb
        go_wp2_with fail
        refine (command_any (unhide hM)).mono ?_
        rintro e w1 ⟨cs, at2, rfl, hcs, hM1, hg1⟩
        have HG1 := hide (gb_trans (unhide hgr) hg1)
        rcases hcs with hcs | ⟨ht120, c, hc, hcs⟩
        · have hem2 := keep_empty hcs
          clear hcs
          have HM1 := hide hM1
          clear hM1 hg1
          go_wp2_with fail
          go_roundg (8 * (300 - t.size) + (todo.size - 1))
          case measure => have := unhide hme; omega
          case rel => exact ⟨_, t, at2, rfl, HM1, (unhide HMI1).pop, hpre, HG1, (by show _ ≤ _; rw [unhide HX]; omega), (by show _ ≤ _; rw [unhide HX]; have := unhide hm3; omega)⟩
        · have hcsz : cs.size = 1 + (opS c.toNat).length := by rw [size_list, hcs]; simp; omega
          have h0c : 0 < cs.size := by omega
          have h1c : 1 ≤ cs.size := by omega
          have hem2 := keep_full h0c
          have hc0 : cs[0] = c := byte_eq h0c (by rw [hcs]; rfl)
          have hk0 : (cs[0].toNat : Int) = c.toNat := by rw [hc0]
          have hop := opS_len c.toNat
          have Hcs := hide hcs
          have Hcsz := hide hcsz
          have hc8 : cs.size ≤ 8 := by omega
          clear hcs hc0 hcsz
          go_wp2_with fail
          refine (put_any hM1 (by omega) c).mono ?_
          rintro e w2 ⟨t2, ht2, rfl, hM2, hg2⟩
          have HM2 := hide hM2
          have HG2 := hide (gb_trans (unhide HG1) hg2)
          clear hM2 hg2 hM1 hg1
          have hns1 : ¬ 9223372036854775807 < cs.size - 1 + 1 := by omega
          have hns2 : ¬ 9223372036854775807 < cs.size - 1 + 1 + (todo.size - 1) := by omega
          have hMI3 : MI vars t2.data.toList (cs.extract 1 cs.size ++ ⟨#[66]⟩ ++ todo.extract 1 todo.size).data.toList := by
            have h := (unhide HMI1).cmd (by rw [← size_list]; exact ht120) hc
            have e : (cs.extract 1 cs.size ++ ⟨#[66]⟩ ++ todo.extract 1 todo.size).data.toList = opS c.toNat ++ 66 :: (todo.extract 1 todo.size).data.toList := by
              rw [ByteArray.data_append, Array.toList_append, ByteArray.data_append, Array.toList_append, ext_list, unhide Hcs]
              simp
            rw [ht2, e]; exact h
          have hsz3 : (cs.extract 1 cs.size ++ ⟨#[66]⟩ ++ todo.extract 1 todo.size).size ≤ 7 + todo.size := by
            rw [ByteArray.size_append, ByteArray.size_append, unhide HX, ByteArray.size_extract]
            show _ + 1 + _ ≤ _
            omega
          have ht2s : t2.size = t.size + 1 := by rw [size_list, ht2, List.length_append, ← size_list]; rfl
          have HT2 := hide ht2s
          have HMI3 := hide hMI3
          have HSZ3 := hide hsz3
          have HPre : Hid (∃ B, t2.data.toList = text.data.toList ++ B) := by
            obtain ⟨B, hB⟩ := unhide hpre
            exact ⟨B ++ [c], by rw [ht2, hB, List.append_assoc]⟩
          clear hMI3 hsz3 ht2 ht2s
          go_wp2_with fail
          go_roundg (8 * (300 - t2.size) + (cs.extract 1 cs.size ++ ⟨#[66]⟩ ++ todo.extract 1 todo.size).size)
          case measure => have := unhide hme; have := unhide HT2; have := unhide HSZ3; omega
          case rel => exact ⟨_, t2, at2, rfl, HM2, HMI3, HPre, HG2, Nat.le_refl _, (by show _ ≤ _; have := unhide hm3; have := unhide HT2; have := unhide HSZ3; omega)⟩
      · have hsy : symB todo[0] := by
          rcases hhead with h' | h'
          · exact absurd h' hb
          · exact h'
        have hk : ((todo[0].toNat : Int) != 66) = true := by
          simp
          intro e
          exact hb (UInt8.toNat_inj.1 (by simpa using (by omega : todo[0].toNat = 66)))
        have HMI1 := hide hMI1
        clear hMI1 hhead hdl hb
        go_wp2_with fail
        refine (piece_any (unhide hM) (by omega) hv1 hv8 _ hsy).mono ?_
        rintro e w1 ⟨rfl, c, t2, at2, hst, ht2, hM2, hg2⟩
        have HM2 := hide hM2
        have HG2 := hide (gb_trans (unhide hgr) hg2)
        have hMI3 := (unhide HMI1).emit (symB_ne hsy) hst
        rw [← ht2] at hMI3
        have HMI3 := hide hMI3
        have ht2s : t2.size = t.size + 1 := by rw [size_list, ht2, List.length_append, ← size_list]; rfl
        have HT2 := hide ht2s
        have HPre : Hid (∃ B, t2.data.toList = text.data.toList ++ B) := by
          obtain ⟨B, hB⟩ := unhide hpre
          exact ⟨B ++ [c], by rw [ht2, hB, List.append_assoc]⟩
        clear hM2 hg2 hMI3 ht2s hst ht2
        go_wp2_with fail
        go_roundg (8 * (300 - t2.size) + (todo.size - 1))
        case measure => have := unhide hme; have := unhide HT2; omega
        case rel => exact ⟨_, t2, at2, rfl, HM2, HMI3, HPre, HG2, (by show _ ≤ _; rw [unhide HX]; omega), (by show _ ≤ _; rw [unhide HX]; have := unhide hm3; have := unhide HT2; omega)⟩
end
end Go.Proofs.Ytnkbfdbbcaffmab
