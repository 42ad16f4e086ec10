import Derived.Test.YtnkbfdbbcaffmaaGreatDoorX36ExA
import Derived.Test.YtnkbfdbbcaffmaaGreatDoorX25Pl6
import Derived.Test.YtnkbfdbbcaffmaaGreatDoorX19Hd
import Derived.Test.YtnkbfdbbcaffmaaGreatDoorX03Model
import Derived.Test.YtnkbfdbbcaffmaaGreatDoorX06Agree2
import Derived.Test.YtnkbfdbbcaffmaaGreatDoorX33LnM
/-
  The document's side: lines, goal.
-/
namespace Go.Proofs.YtnkbfdbbcaffmaaGreatDoor
open Go.RowKit

theorem szc_szl (c : Int) : szl c = szc c := rfl

/-- A list of texts in a row of its own. -/
def Ls (w : World) (b : Nat) (lv : Value) (ls : List ByteArray) : Prop := w.ownsRow b 9 1 lv ls.length (ls.map fun l => Value.string l)

theorem Tryz.infoStr : (Tryz.prog.info? 9).map (fun i => (i.zero, i.size, i.bytes)) = some (some (.string ⟨#[]⟩), 1, 16) := by kernel_rfl

theorem Ls.shape {w : World} {b : Nat} {lv : Value} {ls : List ByteArray} (h : Ls w b lv ls) : ∃ ao cap, lv = .slice ao ls.length cap := by
  rcases h.2 with ⟨h', h0⟩ | ⟨g, cap, cur, h', hb, _⟩
  · exact ⟨none, 0, by rw [h', h0]⟩
  · exact ⟨_, cap, h'⟩
theorem Ls.at_ {w : World} {b : Nat} {ao : Option Addr} {cap : Nat} {ls : List ByteArray} (h : Ls w b (.slice ao ls.length cap) ls) {i : Nat} {l : ByteArray} (hi : ls[i]? = some l) : ∃ g, ao = some ⟨g, 0, none⟩ ∧ b ≤ g ∧ w.cell? ⟨g, i, none⟩ = some (.string l) := by
  have hlt : i < ls.length := (List.getElem?_eq_some_iff.1 hi).1
  rcases h.2 with ⟨_, h0⟩ | ⟨g, cap', cur, h', hb, _⟩
  · omega
  · simp at h'
    obtain ⟨rfl, rfl⟩ := h'
    refine ⟨g, rfl, hb, ?_⟩
    rw [World.ownsRow.cellAt h i (by omega), List.getElem?_map, hi]; rfl

set_option maxHeartbeats 2000000 in
theorem lines_any (s : ByteArray) (hs : s.size ≤ 1000) (hh : (hdr s).2.1 = false) (V : Int) (n : Nat) (cs : List Cm) (ls : List ByteArray) (hL : LnsAt s V n (hdr s).1 cs ls) (w : World) :
    Calls Tryz.prog 28 #[.string s] w fun e w' => ∃ lv, e = .returned lv ∧ Ls w' w.heap.size lv ls ∧ Below w.heap.size w w' := by
  have HR := hide (read_any s hs hh w)
  have hst := hdr_le s
  generalize (hdr s).2.2.1 = W at *
  generalize (hdr s).2.2.2.1 = n' at *
  generalize (hdr s).2.2.2.2 = m' at *
  generalize (hdr s).1 = st at *
  generalize pw W = V' at *
  have HL := hide hL
  clear hL hh
  obtain ⟨i0, hi0, hz0, hz1, hz2⟩ := info_parts Tryz.infoStr
  go_enter Tryz.func28, Tryz.ntmps28
  go_wp2_with fail
  refine (unhide HR).mono ?_
  rintro e w1 ⟨ks, rfl, hg1⟩
  go_wp2_with fail
  have hg2 := gb_alloc hg1 (.cells #[.int .i64 V', .int .i64 n', .int .i64 m', .int .i64 st, .string ks] 81)
  have hB2 : Below w.heap.size w (w1.alloc (.cells #[.int .i64 V', .int .i64 n', .int .i64 m', .int .i64 st, .string ks] 81)) := ⟨hg2.os, hg2.tape, hg2.output, hg2.size, fun k hk => hg2.block k hk (by simp)⟩
  generalize w1.alloc (.cells #[.int .i64 V', .int .i64 n', .int .i64 m', .int .i64 st, .string ks] 81) = w2 at *
  go_loopw [3, 5] (fun o i wr => ∃ (k p : Nat), i = .int .i64 p ∧ k ≤ ls.length ∧ Hid (Ls wr w.heap.size o (ls.take k)) ∧ Hid (LnsAt s V n p (cs.drop k) (ls.drop k)) ∧ p ≤ s.size ∧ k ≤ p ∧ Below w.heap.size w wr) (fun _ i _ => s.size - (intOf i).toNat)
  case atStart => exact ⟨0, st, rfl, Nat.zero_le _, World.ownsRow_nil _ _ _ _, HL, hst, Nat.zero_le _, hB2⟩
  case round =>
    obtain ⟨k, p, rfl, hk, hO, hA, hp, hkp, hB⟩ := hrel
    have hA' := unhide hA
    by_cases hlt : p < s.size
    · obtain ⟨l, hl⟩ : ∃ l, ls[k]? = some l := by
        cases e : ls[k]? with
        | some l => exact ⟨l, rfl⟩
        | none =>
          have hkl : ls.length ≤ k := by
            by_cases h' : k < ls.length
            · rw [List.getElem?_eq_getElem h'] at e; cases e
            · omega
          rw [List.drop_of_length_le hkl] at hA'
          cases hc : cs.drop k with
          | nil => rw [hc] at hA'; have : p = s.size := hA'; omega
          | cons c r => rw [hc] at hA'; exact absurd hA' (by simp [LnsAt])
      have hkl : k < ls.length := (List.getElem?_eq_some_iff.1 hl).1
      have hdl : ls.drop k = l :: ls.drop (k + 1) := by
        rw [List.drop_eq_getElem_cons hkl]
        rw [List.getElem?_eq_getElem hkl] at hl
        rw [Option.some.inj hl]
      obtain ⟨c, hdc⟩ : ∃ c, cs.drop k = c :: cs.drop (k + 1) := by
        cases hc : cs.drop k with
        | nil => rw [hdl, hc] at hA'; exact absurd hA' (by simp [LnsAt])
        | cons c r =>
          refine ⟨c, ?_⟩
          have : r = cs.drop (k + 1) := by rw [← List.tail_drop, hc]; rfl
          rw [this]
      rw [hdl, hdc] at hA'
      obtain ⟨_, a2, a3, a4, a5⟩ := hA'
      have htk : ls.take (k + 1) = ls.take k ++ [l] := by
        rw [List.take_succ_eq_append_getElem hkl]
        rw [List.getElem?_eq_getElem hkl] at hl
        rw [Option.some.inj hl]
      have hlen : (ls.take k).length = k := by simp; omega
      rw [pk_at s p hlt] at a2 a3 a5
      have hsz := szc_szl (s[p].toNat : Int)
      have hpos : 1 ≤ szl (s[p].toNat : Int) := by unfold szl; repeat' split
                                                   all_goals omega
      rw [← hsz] at a2 a3 a5
      have Htk := hide htk
      have A5 := hide a5
      have A3 := hide a3
      clear htk a5 a3 hdl hdc hsz hl a4 hA
      obtain ⟨ao, cap, rfl⟩ := (unhide hO).shape
      rw [hlen] at hO
      have hxb := s[p].toNat_lt
      have hO' : wr.ownsRow w.heap.size 9 1 (.slice ao k cap) k ((ls.take k).map fun l => Value.string l) := by
        have h := unhide hO
        unfold Ls at h
        rw [hlen] at h; exact h
      have HO' := hide hO'
      clear hO' hO hlen
      generalize hz : szl (s[p].toNat : Int) = z at *
      have Hz := hide hz
      have hwb := hB.size
      have hpz : IntKind.i64.wrap ((p : Int) + (z : Int)) = (p : Int) + (z : Int) := by rw [IntKind.wrap_i64]; omega
      have hpz2 : ((p : Int) + (z : Int)).toNat = p + z := by omega
      have hpz3 : (p : Int) + (z : Int) ≤ (s.size : Int) := by omega
      have hpz4 : (p : Int) ≤ (p : Int) + (z : Int) := by omega
      have hpz5 : (0 : Int) ≤ (p : Int) + (z : Int) := by omega
      clear hz
      go_wp2_with fail
      refine (size_any _ _).mono ?_
      rintro e w3 ⟨rfl, rfl⟩
      rw [unhide Hz]
      go_wp2_with (at_builtin; refine wpList_append_own _ rfl (.tmp 19) (.tmp 26) 47 rfl w.heap.size 9 i0 (.string ⟨#[]⟩) 1 16 Tryz.underlying47 hi0 hz0 hz1 hz2 rfl (by decide) (.slice ao k cap) k ((ls.take k).map fun l => Value.string l) rfl ?_ ⟨w3.heap.size, 0, none⟩ 1 1 [.string (s.extract p (p + z))] rfl rfl ?_ ?_ ?_ ?_ ?_ ?_)
      · exact World.ownsRow.alloc (unhide HO') _
      · exact cell_one_new _ _ _
      · simp [Value.oneCell']
      · unfold maxLen; omega
      · omega
      · (try simp); omega
      · intro v' w' h1 h2 _
        have hO2 : Ls w' w.heap.size v' (ls.take (k + 1)) := by
          unfold Ls
          rw [unhide Htk, List.length_append, List.map_append, unhide A3]
          have e : (ls.take k).length = k := by simp; omega
          rw [e]; simpa using h1
        have hown : ∀ j, (Value.slice ao k cap).ownBlock = some j → w.heap.size ≤ j ∧ j < w3.heap.size := World.ownsRow.lt (unhide HO')
        have hB2 : Below w.heap.size w w' := (hB.alloc hB.size _).trans ⟨h2.os, h2.tape, h2.output, h2.size, fun j hj => h2.block j (by simp; omega) (fun e => by have := hown j e.symm; omega)⟩
        have HO2 := hide hO2
        obtain ⟨ao2, cap2, rfl⟩ := hO2.shape
        clear hO2 h1 h2 hown
        go_wp2_with fail
        go_roundw
        case rel => exact ⟨k + 1, p + z, by go_num, by omega, HO2, A5, by omega, by omega, hB2⟩
        case measure => simp [intOf]; omega
    · obtain rfl : p = s.size := by omega
      have hfin : ls.take k = ls := by
        cases hd : ls.drop k with
        | nil =>
          have := List.take_append_drop k ls
          rw [hd, List.append_nil] at this
          exact this
        | cons l r =>
          rw [hd] at hA'
          cases hc : cs.drop k with
          | nil => rw [hc] at hA'; exact absurd hA' (by simp [LnsAt])
          | cons c r => rw [hc] at hA'; exact absurd hA'.1 hlt
      have hO2 := unhide hO
      rw [hfin] at hO2
      have HO2 := hide hO2
      obtain ⟨ao, cap, rfl⟩ := hO2.shape
      clear hO2 hfin hA' hA hO
      go_wp2_with fail
      go_ret
      exact ⟨_, rfl, unhide HO2, hB⟩

/-- The digits. -/
def hexB : ByteArray := ⟨#[48, 49, 50, 51, 52, 53, 54, 55, 56, 57, 97, 98, 99, 100, 101, 102]⟩
theorem hex_find : ∀ k : Nat, k < 256 → ((48 ≤ k ∧ k ≤ 57 → fnd hexB (k : Int) 16 0 = (k : Int) - 48) ∧ (97 ≤ k ∧ k ≤ 102 → fnd hexB (k : Int) 16 0 = (k : Int) - 87)) := by decide +kernel
theorem IsHx.find {a : UInt8} {v : Int} (h : IsHx a v) : fnd hexB (a.toNat : Int) hexB.size 0 = v := by
  have hf := hex_find a.toNat a.toNat_lt
  show fnd hexB (a.toNat : Int) 16 0 = v
  rcases h with ⟨h1, h2, h3⟩ | ⟨h1, h2, h3⟩
  · rw [hf.1 ⟨by omega, by omega⟩, h3]
  · rw [hf.2 ⟨by omega, by omega⟩, h3]
theorem IsHx.bd {a : UInt8} {v : Int} (h : IsHx a v) : 0 ≤ v ∧ v ≤ 15 := by
  rcases h with ⟨h1, h2, h3⟩ | ⟨h1, h2, h3⟩ <;> omega

/-- The line at which a line goes on; -1: at the next one, or nowhere. -/
def goalC (c : Cm) : Int := if c.kind = 122 then c.no else if c.kind = 106 then c.yes else -1

set_option maxHeartbeats 1000000 in
theorem goal_z (l : ByteArray) (x a b : UInt8) (u v : Int) (hl : l.data.toList = [122, x, a, b]) (ha : IsHx a u) (hb : IsHx b v) (w : World) :
    Calls Tryz.prog 29 #[.string l] w fun e w' => e = .returned (.int .i64 (u * 16 + v)) ∧ w' = w := by
  have hs : l.size = 4 := by rw [size_list, hl]; rfl
  have F1 := hide (fun w0 => find_any hexB (by unfold maxLen; decide) (a.toNat : Int) w0)
  have F2 := hide (fun w0 => find_any hexB (by unfold maxLen; decide) (b.toNat : Int) w0)
  simp only [ha.find] at F1
  simp only [hb.find] at F2
  obtain ⟨ba1, ba2⟩ := ha.bd
  obtain ⟨bb1, bb2⟩ := hb.bd
  have k0 : (l[0]'(by omega)) = 122 := byte_eq _ (by rw [hl]; rfl)
  have k2 : (l[2]'(by omega)) = a := byte_eq _ (by rw [hl]; rfl)
  have k3 : (l[3]'(by omega)) = b := byte_eq _ (by rw [hl]; rfl)
  have e0 : ((l[0]'(by omega)).toNat : Int) = 122 := by rw [k0]; rfl
  have E2 := hide k2
  have E3 := hide k3
  have hfin : 16 * u + v = u * 16 + v := by omega
  generalize u * 16 + v = r at *
  have Hfin := hide hfin
  clear k0 k2 k3 hl ha hb hfin
  go_enter Tryz.func29, Tryz.ntmps29
  go_wp2_with fail
  rw [unhide E2]
  refine (unhide F1 _).mono ?_
  rintro e w' ⟨rfl, rfl⟩
  go_wp2_with fail
  rw [unhide E3]
  refine (unhide F2 _).mono ?_
  rintro e w' ⟨rfl, rfl⟩
  go_wp2_with fail
  go_ret
  exact ⟨ret_int (unhide Hfin), rfl⟩

set_option maxHeartbeats 1000000 in
theorem goal_j (l : ByteArray) (a b : UInt8) (u v : Int) (hl : l.data.toList = [106, a, b]) (ha : IsHx a u) (hb : IsHx b v) (w : World) :
    Calls Tryz.prog 29 #[.string l] w fun e w' => e = .returned (.int .i64 (u * 16 + v)) ∧ w' = w := by
  have hs : l.size = 3 := by rw [size_list, hl]; rfl
  have F1 := hide (fun w0 => find_any hexB (by unfold maxLen; decide) (a.toNat : Int) w0)
  have F2 := hide (fun w0 => find_any hexB (by unfold maxLen; decide) (b.toNat : Int) w0)
  simp only [ha.find] at F1
  simp only [hb.find] at F2
  obtain ⟨ba1, ba2⟩ := ha.bd
  obtain ⟨bb1, bb2⟩ := hb.bd
  have k0 : (l[0]'(by omega)) = 106 := byte_eq _ (by rw [hl]; rfl)
  have k2 : (l[1]'(by omega)) = a := byte_eq _ (by rw [hl]; rfl)
  have k3 : (l[2]'(by omega)) = b := byte_eq _ (by rw [hl]; rfl)
  have e0 : ((l[0]'(by omega)).toNat : Int) = 106 := by rw [k0]; rfl
  have E2 := hide k2
  have E3 := hide k3
  have hfin : 16 * u + v = u * 16 + v := by omega
  generalize u * 16 + v = r at *
  have Hfin := hide hfin
  clear k0 k2 k3 hl ha hb hfin
  go_enter Tryz.func29, Tryz.ntmps29
  go_wp2_with fail
  rw [unhide E2]
  refine (unhide F1 _).mono ?_
  rintro e w' ⟨rfl, rfl⟩
  go_wp2_with fail
  rw [unhide E3]
  refine (unhide F2 _).mono ?_
  rintro e w' ⟨rfl, rfl⟩
  go_wp2_with fail
  go_ret
  exact ⟨ret_int (unhide Hfin), rfl⟩

set_option maxHeartbeats 1000000 in
theorem goal_no (l : ByteArray) (k : Int) (h0 : 0 < l.size) (hk : (l[0].toNat : Int) = k) (h1 : k ≠ 122) (h2 : k ≠ 106) (w : World) :
    Calls Tryz.prog 29 #[.string l] w fun e w' => e = .returned (.int .i64 (-1)) ∧ w' = w := by
  have e1 : (k != 122) = true := by simpa using h1
  have e2 : (k != 106) = true := by simpa using h2
  clear h1 h2
  go_enter Tryz.func29, Tryz.ntmps29
  go_wp2_with fail
  go_ret
  exact ⟨rfl, rfl⟩

theorem goal_any {V : Int} {n : Nat} {c : Cm} {l : ByteArray} (h : LnT V n c l.data.toList) (w : World) :
    Calls Tryz.prog 29 #[.string l] w fun e w' => e = .returned (.int .i64 (goalC c)) ∧ w' = w := by
  have hsz := size_list l
  unfold goalC
  rcases h with ⟨v, x, o, y, e, hk, _⟩ | ⟨v, x, e, hk, _⟩ | ⟨x, y, e, hk, _⟩ | ⟨x, a, b, u, v, e, hk, _, ha, hb, hn⟩ | ⟨a, b, u, v, e, hk, ha, hb, hn⟩ | ⟨e, hk⟩
  · rw [e] at hsz
    simp only [List.length_cons] at hsz
    rw [if_neg (by omega), if_neg (by omega)]
    exact goal_no l 61 (by omega) (by rw [byte_eq (by omega) (c := 61) (by rw [e]; rfl)]; rfl) (by omega) (by omega) w
  · rw [e] at hsz
    simp only [List.length_cons] at hsz
    rw [if_neg (by omega), if_neg (by omega)]
    exact goal_no l 108 (by omega) (by rw [byte_eq (by omega) (c := 108) (by rw [e]; rfl)]; rfl) (by omega) (by omega) w
  · rw [e] at hsz
    simp only [List.length_cons] at hsz
    rw [if_neg (by omega), if_neg (by omega)]
    exact goal_no l 115 (by omega) (by rw [byte_eq (by omega) (c := 115) (by rw [e]; rfl)]; rfl) (by omega) (by omega) w
  · rw [if_pos hk, hn]
    exact goal_z l x a b u v e ha hb w
  · rw [if_neg (by omega), if_pos hk, hn]
    exact goal_j l a b u v e ha hb w
  · rw [e] at hsz
    simp only [List.length_cons, List.length_nil] at hsz
    rw [if_neg (by omega), if_neg (by omega)]
    exact goal_no l 104 (by omega) (by rw [byte_eq (by omega) (c := 104) (by rw [e]; rfl)]; rfl) (by omega) (by omega) w
end Go.Proofs.YtnkbfdbbcaffmaaGreatDoor
/-
  The reader of codes answers as the document's shape does. (No walk here.)
-/
namespace Go.Proofs.YtnkbfdbbcaffmaaGreatDoor
open Go.RowKit

/-- The form of codes. -/
def codeF : List UInt8 := [87, 107, 75, 75, 75, 75, 75, 75, 75, 47, 75, 75, 75, 75, 75, 75, 75, 75, 75, 75, 75, 75, 75, 75, 75, 75, 58, 76]
theorem codeF_eq : codeF = ([87] ++ ((107 :: (List.replicate 7 75 ++ [47])) ++ (List.replicate 16 75 ++ [58]))) ++ [76] := rfl

theorem opB_line (e c : Int) (he : e = 67 ∨ e = 76) : opB e c = isLn c := by
  have h66 : (e == 66) = false := by simp; omega
  have h66' : (e != 66) = true := by simp; omega
  unfold opB isLn
  rw [h66, h66']
  by_cases h1 : c = 61
  · simp [h1]
  · by_cases h2 : c = 108
    · simp [h2]
    · by_cases h3 : c = 115
      · simp [h3]
      · by_cases h4 : c = 63
        · simp [h4]
        · by_cases h5 : c = 33
          · simp [h5]
          · by_cases h6 : c = 122
            · simp [h6]
            · by_cases h7 : c = 106
              · simp [h7]
              · by_cases h8 : c = 104
                · simp [h8]
                · simp [h1, h2, h3, h4, h5, h6, h7, h8]

section
variable {s : ByteArray} {n hv : Int}

theorem Ex.nil {p : Nat} {a : Bool} : Ex s n [] p a p a := ⟨fun e => ⟨rfl, e⟩, fun e φ => by rw [e]; simp⟩

theorem dgt_one (p : Nat) (a : Bool) : ((dgt s p a).1, (dgt s p a).2.1) = oneB s p a (fun d => isDig d || (decide (97 ≤ d) && decide (d ≤ 102))) := by
  unfold dgt
  split
  · rename_i hr
    dsimp only
    rw [tb_one s p a 48 57 (by omega)]
    unfold oneB
    cases a with
    | true => simp
    | false =>
      simp only [Bool.false_eq_true, if_false]
      by_cases h : p < s.size
      · rw [pk_at s p h] at hr
        rw [dif_pos h, dif_pos h]
        simp [isDig, hr.1, hr.2]
      · rw [dif_neg h, dif_neg h]
  · rename_i hr
    dsimp only
    rw [tb_one s p a 97 102 (by omega)]
    unfold oneB
    cases a with
    | true => simp
    | false =>
      simp only [Bool.false_eq_true, if_false]
      by_cases h : p < s.size
      · rw [pk_at s p h] at hr
        rw [dif_pos h, dif_pos h]
        have hd : isDig s[p].toNat = false := by simp [isDig]; omega
        simp only [hd, Bool.false_or]
      · rw [dif_neg h, dif_neg h]

theorem ex_dgt {p : Nat} {a : Bool} : Ex s n [110] p a (dgt s p a).1 (dgt s p a).2.1 :=
  ex_of (by simp [plainB]) (fun c _ _ => by simp [stn]) (dgt_one p a)
theorem ex_nmb {p : Nat} {a : Bool} : Ex s n [110, 110] p a (nmb s p a).1 (nmb s p a).2.1 := Ex.seq ex_dgt ex_dgt

theorem tlin_ex (p : Nat) (k : Int) (hk : isLn k = true) : Ex s n (opS k) (p + 1) false (tlin s p hv n k).1 (tlin s p hv n k).2.1 := by
  simp [isLn] at hk
  unfold tlin opS
  by_cases h1 : k = 61
  · rw [if_pos h1, if_pos h1]
    exact Ex.seq ex_var (Ex.seq ex_opnd (Ex.seq ex_opn ex_opnd))
  · rw [if_neg h1, if_neg h1]
    by_cases h2 : k = 108
    · rw [if_pos h2, if_pos h2]
      exact Ex.seq ex_var ex_opnd
    · rw [if_neg h2, if_neg h2]
      by_cases h3 : k = 115
      · rw [if_pos h3, if_pos h3]
        exact Ex.seq ex_opnd ex_opnd
      · rw [if_neg h3, if_neg h3, if_neg (by omega), if_neg (by omega)]
        by_cases h4 : k = 122
        · rw [if_pos h4, if_pos h4]
          exact Ex.seq ex_opnd ex_nmb
        · rw [if_neg h4, if_neg h4]
          by_cases h5 : k = 106
          · rw [if_pos h5, if_pos h5]
            exact ex_nmb
          · rw [if_neg h5, if_neg h5]
            exact Ex.nil

theorem ShC_last {p : Nat} (h : isLn (pk s p false) = false) : Sh s n p [67] = if p < s.size then some p else none := by
  by_cases hp : p < s.size
  · rw [pk_at s p hp] at h
    rw [Sh_step hp, if_pos hp]
    have e : nxtL s[p].toNat n [67] = none := by
      rw [nxtL, if_pos (by simp)]
      have e2 : ¬ opB ((67 : UInt8).toNat : Int) s[p].toNat = true := by
        show ¬ opB 67 _ = true
        rw [opB_line _ _ (.inl rfl), h]; simp
      rw [if_neg e2, if_neg (by decide)]
      rfl
    rw [e]
  · rw [Sh_end hp, if_neg hp, if_pos (.inr rfl)]
theorem ShL_last {p : Nat} (h : isLn (pk s p false) = false) : Sh s n p [76] = some p := by
  by_cases hp : p < s.size
  · rw [pk_at s p hp] at h
    rw [Sh_step hp]
    have e : nxtL s[p].toNat n [76] = none := by
      rw [nxtL, if_pos (by simp)]
      have e2 : ¬ opB ((76 : UInt8).toNat : Int) s[p].toNat = true := by
        show ¬ opB 76 _ = true
        rw [opB_line _ _ (.inr rfl), h]; simp
      rw [if_neg e2, if_pos (by decide)]
    rw [e]
  · rw [Sh_end hp, if_neg (by decide)]
theorem ShC_open {p : Nat} (h : isLn (pk s p false) = true) : Sh s n p [67] = Sh s n (p + 1) (opS (pk s p false) ++ [67]) := by
  have hp : p < s.size := (isLn_pk h).2
  rw [pk_at s p hp] at h ⊢
  rw [Sh_step hp]
  have e : nxtL s[p].toNat n [67] = some (opS s[p].toNat ++ [67]) := by
    rw [nxtL, if_pos (by simp)]
    have e2 : opB ((67 : UInt8).toNat : Int) s[p].toNat = true := by
      show opB 67 _ = true
      rw [opB_line _ _ (.inl rfl), h]
    rw [if_pos e2, if_neg (by decide)]
  rw [e]
theorem ShL_open {p : Nat} (h : isLn (pk s p false) = true) : Sh s n p [76] = Sh s n p [67] := by
  have hp : p < s.size := (isLn_pk h).2
  rw [ShC_open h]
  rw [pk_at s p hp] at h ⊢
  rw [Sh_step hp]
  have e : nxtL s[p].toNat n [76] = some (opS s[p].toNat ++ [67]) := by
    rw [nxtL, if_pos (by simp)]
    have e2 : opB ((76 : UInt8).toNat : Int) s[p].toNat = true := by
      show opB 76 _ = true
      rw [opB_line _ _ (.inr rfl), h]
    rw [if_pos e2, if_pos (by decide)]
  rw [e]

theorem rdL_sh : ∀ (f : Nat) (st : PS), Inv s st → lft s st ≤ f → st.bad = false → Sh s n st.p [67] = if (rdL s hv n f st).bad = true then some (rdL s hv n f st).p else if (rdL s hv n f st).p < s.size then some (rdL s hv n f st).p else none
  | 0, st, h, hl, hb => by
    unfold rdL
    unfold lft at hl
    rw [hb] at hl
    simp at hl
    rw [hb, if_neg (by simp)]
    exact ShC_last (by rw [pk_end s st.p (by omega)]; rfl)
  | f + 1, st, h, hl, hb => by
    unfold rdL
    by_cases hc : isLn (pk s st.p st.bad) = true
    · rw [if_pos hc]
      obtain ⟨nx, lx⟩ := ln1_nxt (hv := hv) (hn := n) h hc
      have x := tlin_ex (s := s) (n := n) (hv := hv) st.p (pk s st.p st.bad) hc
      have hc' := hc
      rw [hb] at hc'
      rw [ShC_open hc']
      have x2 := x.2 rfl [67]
      rw [hb] at x2
      rw [x2]
      have e1 : (ln1 s hv n st).bad = (tlin s st.p hv n (pk s st.p false)).2.1 := by unfold ln1; rw [hb]
      have e2 : (ln1 s hv n st).p = (tlin s st.p hv n (pk s st.p false)).1 := by unfold ln1; rw [hb]
      rw [← e1, ← e2]
      cases hb1 : (ln1 s hv n st).bad with
      | true =>
        have n2 := rdL_nxt s hv n f _ nx.2.2 (by omega)
        obtain ⟨y1, y2⟩ := n2.1.2.2 hb1
        rw [y1, y2]; rfl
      | false =>
        rw [if_neg (by simp)]
        exact rdL_sh f _ nx.2.2 (by omega) hb1
    · rw [if_neg hc]
      rw [hb] at hc ⊢
      rw [if_neg (by simp)]
      exact ShC_last (by simpa using hc)
end

theorem shape_code (s : ByteArray) : shL (nvar s) s.data.toList codeF = if codBad s = true then some (cod s).p else none := by
  have e0 : shL (nvar s) s.data.toList codeF = Sh s (nvar s) 0 codeF := by
    unfold Sh
    simp
  rw [e0, codeF_eq, (ex_head (s := s) (n := nvar s)).2 rfl [76]]
  have hI : ∀ b, Inv s ⟨(hdr s).1, b, []⟩ := fun b => ⟨Nat.zero_le _, hdr_le s⟩
  have hl : ∀ b, lft s ⟨(hdr s).1, b, []⟩ ≤ s.size := fun b => by unfold lft; split <;> simp
  have stuck : ∀ f, rdL s (pw (hdr s).2.2.1) (hdr s).2.2.2.1 f ⟨(hdr s).1, true, []⟩ = ⟨(hdr s).1, true, []⟩ := by
    intro f
    cases f with
    | zero => rfl
    | succ f => rw [rdL, if_neg (by dsimp only; rw [pk_bad]; decide)]
  unfold codBad cod rdLs
  dsimp only
  cases hb : (hdr s).2.1 with
  | true =>
    rw [if_pos rfl, Bool.true_or, stuck]
    rfl
  | false =>
    rw [if_neg (by simp)]
    cases hc : isLn (pk s (hdr s).1 false) with
    | false =>
      rw [ShL_last hc]
      show _ = if ((rdL s (pw (hdr s).2.2.1) (hdr s).2.2.2.1 s.size ⟨(hdr s).1, true, []⟩).bad || decide ((rdL s (pw (hdr s).2.2.1) (hdr s).2.2.2.1 s.size ⟨(hdr s).1, true, []⟩).p < s.size)) = true then some (rdL s (pw (hdr s).2.2.1) (hdr s).2.2.2.1 s.size ⟨(hdr s).1, true, []⟩).p else none
      rw [stuck]
      rfl
    | true =>
      have hv := nvar_head hb
      rw [hv, ShL_open hc]
      have r := rdL_sh (n := (hdr s).2.2.2.1) (hv := pw (hdr s).2.2.1) s.size ⟨(hdr s).1, false, []⟩ (hI _) (hl _) rfl
      rw [r]
      show _ = if ((rdL s (pw (hdr s).2.2.1) (hdr s).2.2.2.1 s.size ⟨(hdr s).1, false, []⟩).bad || decide ((rdL s (pw (hdr s).2.2.1) (hdr s).2.2.2.1 s.size ⟨(hdr s).1, false, []⟩).p < s.size)) = true then some (rdL s (pw (hdr s).2.2.1) (hdr s).2.2.2.1 s.size ⟨(hdr s).1, false, []⟩).p else none
      cases (rdL s (pw (hdr s).2.2.1) (hdr s).2.2.2.1 s.size ⟨(hdr s).1, false, []⟩).bad with
      | true => simp
      | false => simp
end Go.Proofs.YtnkbfdbbcaffmaaGreatDoor
