import Derived.Test.YtnkbfdbbcaffmaaGreatDoorX40ExB
import Derived.Test.YtnkbfdbbcaffmaaGreatDoorX36ExA
import Derived.Test.YtnkbfdbbcaffmaaGreatDoorX38CdX
import Derived.Test.YtnkbfdbbcaffmaaGreatDoorX29Doc7
/-
  The document's line: z, j, h.
-/
namespace Go.Proofs.YtnkbfdbbcaffmaaGreatDoor
open Go.RowKit

section
variable {w : World} {b : Nat} {N : Int} {n m : Nat} {st : Int} {ks : KX} {view : Int} {tag steps : Int} {t : ByteArray} {σ sn : List Int}

set_option maxHeartbeats 2000000 in
set_option maxRecDepth 100000 in
theorem line_end (h : PlS w b N n m st ks view σ sn tag steps t) (fuel : Int) (hs0 : 0 ≤ steps) (hs1 : steps < fuel) (hf : fuel ≤ 10000) (i : Nat) (hat : ks.at_ = i) (ao : Option Addr) (cap : Nat) (hlv : ks.lv = .slice ao ks.ls.length cap) (l : ByteArray) (hl : ks.ls[i]? = some l) (hpl : ks.ps.length ≤ 10000) (hil : ks.ls.length ≤ 1000)
    (h0 : 0 < l.size) (hk : (l[0].toNat : Int) = 104) :
    Calls Tryz.prog 92 #[.pointer (some ⟨b, 0, none⟩), .slice ao ks.ls.length cap, .int .i64 fuel] w fun e w' => e = .returned (.tuple #[]) ∧ (∃ v', PlS w' b N n m st { ks with at_ := (i : Int) + 1, pv := v', ps := ks.ps ++ [(i : Int)] } view σ sn 1 (steps + 1) t) ∧ Below b w w' := by
  have hne : (steps == fuel) = false := by simp; omega
  obtain ⟨m0, m1, m2, m3, m4, m5, m6, m7, mf, m8, m9⟩ := h.thirteen
  obtain ⟨m10, m11⟩ := h.two
  have h1S := h.setSteps (steps + 1)
  obtain ⟨pa, pc, hpv⟩ : ∃ pa pc, ks.pv = .slice pa ks.ps.length pc := by
    rcases h.path.2 with ⟨h', h0⟩ | ⟨g, cap, cur, h', hb, _⟩
    · exact ⟨none, 0, by rw [h', h0]⟩
    · exact ⟨_, cap, h'⟩
  have hPost := fun v' w' o => pls_path (w' := w') (v' := v') h1S (i : Int) o
  rw [hpv] at hPost m11
  rw [hat] at m10
  have hrow := h1S.path
  rw [hpv] at hrow
  have HPost := hide hPost
  have Hrow := hide hrow
  have hbl : b < w.heap.size := by obtain ⟨stv, snv, hP, _⟩ := h; exact At.lt hP
  obtain ⟨i0, hi0, hz0, hz1, hz2⟩ := info_parts Tryz.infoInt
  clear hPost hrow
  go_enter Tryz.func92, Tryz.ntmps92
  go_wp2_with fail
  have hBs : Below b w (w.setCell ⟨b, 9, none⟩ (.int .i64 (steps + 1))) := (Below.refl b w).setCell (p := ⟨b, 9, none⟩) (Nat.le_refl b) _
  have hbl1 : b < (w.setCell ⟨b, 9, none⟩ (.int .i64 (steps + 1))).heap.size := by simp [World.setCell]; exact hbl
  generalize w.setCell ⟨b, 9, none⟩ (.int .i64 (steps + 1)) = w1 at *
  clear m0 m1 m2 m3 m4 m5 m6 m7 mf m8 m9 m10 m11
  obtain ⟨m0, m1, m2, m3, m4, m5, m6, m7, mf, m8, m9⟩ := h1S.thirteen
  obtain ⟨m10, m11⟩ := h1S.two
  rw [hat] at m10
  rw [hpv] at m11
  go_region_law (refine step_append_at rfl (.tmp 28) (.tmp 33) 29 rfl 3 i0 (.int .i64 0) 1 8 Tryz.underlying29 hi0 hz0 hz1 hz2 rfl (by decide) (b + 1) (.slice pa ks.ps.length pc) ks.ps.length (intsL ks.ps) (by simp [Act.eval]) (by exact World.ownsRow.alloc (unhide Hrow) _) ⟨w1.heap.size, 0, none⟩ 1 1 [.int .i64 i] (by simp [Act.eval]) rfl (by exact cell_one_drew _ _ _) (by simp [Value.oneCell']) (by unfold maxLen; omega) (by omega) (by simp; omega) ?_; intro v' w' r1 r2 r4; obtain ⟨hP2, c11, c12, cf, hB2, g', cap', rfl⟩ := unhide HPost _ _ _ r1 r2 r4; rw [hat] at c11)
  all_goals
    have hB3 := (hBs.trans hB2).setCell (p := ⟨b, 12, none⟩) (Nat.le_refl b) (.slice (some ⟨g', 0, none⟩) (ks.ps.length + 1) cap')
    clear m0 m1 m2 m3 m4 m5 m6 m7 mf m8 m9 m10 m11 c11 c12 cf r1 r2 r4
    generalize w'.setCell ⟨b, 12, none⟩ (.slice (some ⟨g', 0, none⟩) (ks.ps.length + 1) cap') = w2 at *
    obtain ⟨m0, m1, m2, m3, m4, m5, m6, m7, mf, m8, m9⟩ := hP2.thirteen
    obtain ⟨m10, m11⟩ := hP2.two
    dsimp only at m10 m11
    rw [hat] at m10
    have hLs := hP2.lines
    dsimp only at hLs
    rw [hlv] at hLs
    obtain ⟨g, rfl, _, y0⟩ := hLs.at_ hl
    have hP4 := hP2.setAt ((i : Int) + 1)
    dsimp only at hP4
    have hB4 := hB3.setCell (p := ⟨b, 11, none⟩) (Nat.le_refl b) (.int .i64 ((i : Int) + 1))
    have HP4 := hide hP4
    have HB4 := hide hB4
    have HP2 := hide hP2
    have hilt : i < ks.ls.length := (List.getElem?_eq_some_iff.1 hl).1
    have Hat := hide hat
    have Hpv := hide hpv
    have Hlv := hide hlv
    have Hl := hide hl
    clear hP4 hB4 hP2 hLs hat hpv hlv hl m11
    generalize ks.ls.length = NL at *
    go_wp2_with fail
    go_end0
    exact ⟨rfl, ⟨_, (unhide HP4).setTag 1⟩, (unhide HB4).setCell (p := ⟨b, 8, none⟩) (Nat.le_refl b) _⟩

set_option maxHeartbeats 2000000 in
set_option maxRecDepth 100000 in
theorem line_jump (h : PlS w b N n m st ks view σ sn tag steps t) (fuel : Int) (hs0 : 0 ≤ steps) (hs1 : steps < fuel) (hf : fuel ≤ 10000) (i : Nat) (hat : ks.at_ = i) (ao : Option Addr) (cap : Nat) (hlv : ks.lv = .slice ao ks.ls.length cap) (l : ByteArray) (hl : ks.ls[i]? = some l) (hpl : ks.ps.length ≤ 10000) (hil : ks.ls.length ≤ 1000)
    (h0 : 0 < l.size) (hk : (l[0].toNat : Int) = 106) (z : Int) (hgo : ∀ w0, Calls Tryz.prog 29 #[.string l] w0 fun e w' => e = .returned (.int .i64 z) ∧ w' = w0) :
    Calls Tryz.prog 92 #[.pointer (some ⟨b, 0, none⟩), .slice ao ks.ls.length cap, .int .i64 fuel] w fun e w' => e = .returned (.tuple #[]) ∧ (∃ v', PlS w' b N n m st { ks with at_ := z, pv := v', ps := ks.ps ++ [(i : Int)] } view σ sn tag (steps + 1) t) ∧ Below b w w' := by
  have Hgo := hide hgo
  clear hgo
  have hne : (steps == fuel) = false := by simp; omega
  obtain ⟨m0, m1, m2, m3, m4, m5, m6, m7, mf, m8, m9⟩ := h.thirteen
  obtain ⟨m10, m11⟩ := h.two
  have h1S := h.setSteps (steps + 1)
  obtain ⟨pa, pc, hpv⟩ : ∃ pa pc, ks.pv = .slice pa ks.ps.length pc := by
    rcases h.path.2 with ⟨h', h0⟩ | ⟨g, cap, cur, h', hb, _⟩
    · exact ⟨none, 0, by rw [h', h0]⟩
    · exact ⟨_, cap, h'⟩
  have hPost := fun v' w' o => pls_path (w' := w') (v' := v') h1S (i : Int) o
  rw [hpv] at hPost m11
  rw [hat] at m10
  have hrow := h1S.path
  rw [hpv] at hrow
  have HPost := hide hPost
  have Hrow := hide hrow
  have hbl : b < w.heap.size := by obtain ⟨stv, snv, hP, _⟩ := h; exact At.lt hP
  obtain ⟨i0, hi0, hz0, hz1, hz2⟩ := info_parts Tryz.infoInt
  clear hPost hrow
  go_enter Tryz.func92, Tryz.ntmps92
  go_wp2_with fail
  have hBs : Below b w (w.setCell ⟨b, 9, none⟩ (.int .i64 (steps + 1))) := (Below.refl b w).setCell (p := ⟨b, 9, none⟩) (Nat.le_refl b) _
  have hbl1 : b < (w.setCell ⟨b, 9, none⟩ (.int .i64 (steps + 1))).heap.size := by simp [World.setCell]; exact hbl
  generalize w.setCell ⟨b, 9, none⟩ (.int .i64 (steps + 1)) = w1 at *
  clear m0 m1 m2 m3 m4 m5 m6 m7 mf m8 m9 m10 m11
  obtain ⟨m0, m1, m2, m3, m4, m5, m6, m7, mf, m8, m9⟩ := h1S.thirteen
  obtain ⟨m10, m11⟩ := h1S.two
  rw [hat] at m10
  rw [hpv] at m11
  go_region_law (refine step_append_at rfl (.tmp 28) (.tmp 33) 29 rfl 3 i0 (.int .i64 0) 1 8 Tryz.underlying29 hi0 hz0 hz1 hz2 rfl (by decide) (b + 1) (.slice pa ks.ps.length pc) ks.ps.length (intsL ks.ps) (by simp [Act.eval]) (by exact World.ownsRow.alloc (unhide Hrow) _) ⟨w1.heap.size, 0, none⟩ 1 1 [.int .i64 i] (by simp [Act.eval]) rfl (by exact cell_one_drew _ _ _) (by simp [Value.oneCell']) (by unfold maxLen; omega) (by omega) (by simp; omega) ?_; intro v' w' r1 r2 r4; obtain ⟨hP2, c11, c12, cf, hB2, g', cap', rfl⟩ := unhide HPost _ _ _ r1 r2 r4; rw [hat] at c11)
  all_goals
    have hB3 := (hBs.trans hB2).setCell (p := ⟨b, 12, none⟩) (Nat.le_refl b) (.slice (some ⟨g', 0, none⟩) (ks.ps.length + 1) cap')
    clear m0 m1 m2 m3 m4 m5 m6 m7 mf m8 m9 m10 m11 c11 c12 cf r1 r2 r4
    generalize w'.setCell ⟨b, 12, none⟩ (.slice (some ⟨g', 0, none⟩) (ks.ps.length + 1) cap') = w2 at *
    obtain ⟨m0, m1, m2, m3, m4, m5, m6, m7, mf, m8, m9⟩ := hP2.thirteen
    obtain ⟨m10, m11⟩ := hP2.two
    dsimp only at m10 m11
    rw [hat] at m10
    have hLs := hP2.lines
    dsimp only at hLs
    rw [hlv] at hLs
    obtain ⟨g, rfl, _, y0⟩ := hLs.at_ hl
    have hP4 := hP2.setAt ((i : Int) + 1)
    dsimp only at hP4
    have hB4 := hB3.setCell (p := ⟨b, 11, none⟩) (Nat.le_refl b) (.int .i64 ((i : Int) + 1))
    have HP4 := hide hP4
    have HB4 := hide hB4
    have HP2 := hide hP2
    have hilt : i < ks.ls.length := (List.getElem?_eq_some_iff.1 hl).1
    have Hat := hide hat
    have Hpv := hide hpv
    have Hlv := hide hlv
    have Hl := hide hl
    clear hP4 hB4 hP2 hLs hat hpv hlv hl m11
    generalize ks.ls.length = NL at *
    have hP6 := (unhide HP4).setAt z
    dsimp only at hP6
    have HP6 := hide hP6
    clear hP6
    go_wp2_with fail
    refine (unhide Hgo _).mono ?_
    rintro e w5 ⟨rfl, rfl⟩
    go_wp2_with fail
    go_end0
    exact ⟨rfl, ⟨_, unhide HP6⟩, (unhide HB4).setCell (p := ⟨b, 11, none⟩) (Nat.le_refl b) _⟩

set_option maxHeartbeats 2000000 in
set_option maxRecDepth 100000 in
theorem line_zero (h : PlS w b N n m st ks view σ sn tag steps t) (fuel : Int) (hs0 : 0 ≤ steps) (hs1 : steps < fuel) (hf : fuel ≤ 10000) (i : Nat) (hat : ks.at_ = i) (ao : Option Addr) (cap : Nat) (hlv : ks.lv = .slice ao ks.ls.length cap) (l : ByteArray) (hl : ks.ls[i]? = some l) (hpl : ks.ps.length ≤ 10000) (hil : ks.ls.length ≤ 1000)
    (h0 : 0 < l.size) (h1 : 1 < l.size) (hk : (l[0].toNat : Int) = 122) (z : Int) (hgo : ∀ w0, Calls Tryz.prog 29 #[.string l] w0 fun e w' => e = .returned (.int .i64 z) ∧ w' = w0)
    (hx0 : 48 ≤ (l[1].toNat : Int)) (hxc : 97 ≤ (l[1].toNat : Int) → ((l[1].toNat : Int) - 97).toNat < σ.length) (hV : 1 ≤ N) (hV2 : N ≤ 256) (hsl : sn.length ≤ 90000) :
    Calls Tryz.prog 92 #[.pointer (some ⟨b, 0, none⟩), .slice ao ks.ls.length cap, .int .i64 fuel] w fun e w' => e = .returned (.tuple #[]) ∧ (∃ v', PlS w' b N n m st { ks with at_ := if vb N σ l[1].toNat = 0 then z else (i : Int) + 1, pv := v', ps := ks.ps ++ [(i : Int)] } view σ (sn ++ [if vb N σ l[1].toNat = 0 then 102 else 116]) tag (steps + 1) t) ∧ Below b w w' := by
  have Hgo := hide hgo
  have hb1 := l[1].toNat_lt
  clear hgo
  have HT := hide (fun w0 ks' (h' : PlS w0 b N n m st ks' view σ sn tag (steps + 1) t) => rtest_any h' (by omega) (l[1].toNat : Int) hx0 (by omega) hV hV2 hxc)
  clear hx0 hxc
  generalize vb N σ l[1].toNat = x at *
  generalize hA : (if x = 0 then z else (i : Int) + 1) = A
  generalize hBb : (if x = 0 then (102 : Int) else 116) = B
  have HA := hide hA
  have HB := hide hBb
  clear hA hBb
  have hne : (steps == fuel) = false := by simp; omega
  obtain ⟨m0, m1, m2, m3, m4, m5, m6, m7, mf, m8, m9⟩ := h.thirteen
  obtain ⟨m10, m11⟩ := h.two
  have h1S := h.setSteps (steps + 1)
  obtain ⟨pa, pc, hpv⟩ : ∃ pa pc, ks.pv = .slice pa ks.ps.length pc := by
    rcases h.path.2 with ⟨h', h0⟩ | ⟨g, cap, cur, h', hb, _⟩
    · exact ⟨none, 0, by rw [h', h0]⟩
    · exact ⟨_, cap, h'⟩
  have hPost := fun v' w' o => pls_path (w' := w') (v' := v') h1S (i : Int) o
  rw [hpv] at hPost m11
  rw [hat] at m10
  have hrow := h1S.path
  rw [hpv] at hrow
  have HPost := hide hPost
  have Hrow := hide hrow
  have hbl : b < w.heap.size := by obtain ⟨stv, snv, hP, _⟩ := h; exact At.lt hP
  obtain ⟨i0, hi0, hz0, hz1, hz2⟩ := info_parts Tryz.infoInt
  clear hPost hrow
  go_enter Tryz.func92, Tryz.ntmps92
  go_wp2_with fail
  have hBs : Below b w (w.setCell ⟨b, 9, none⟩ (.int .i64 (steps + 1))) := (Below.refl b w).setCell (p := ⟨b, 9, none⟩) (Nat.le_refl b) _
  have hbl1 : b < (w.setCell ⟨b, 9, none⟩ (.int .i64 (steps + 1))).heap.size := by simp [World.setCell]; exact hbl
  generalize w.setCell ⟨b, 9, none⟩ (.int .i64 (steps + 1)) = w1 at *
  clear m0 m1 m2 m3 m4 m5 m6 m7 mf m8 m9 m10 m11
  obtain ⟨m0, m1, m2, m3, m4, m5, m6, m7, mf, m8, m9⟩ := h1S.thirteen
  obtain ⟨m10, m11⟩ := h1S.two
  rw [hat] at m10
  rw [hpv] at m11
  go_region_law (refine step_append_at rfl (.tmp 28) (.tmp 33) 29 rfl 3 i0 (.int .i64 0) 1 8 Tryz.underlying29 hi0 hz0 hz1 hz2 rfl (by decide) (b + 1) (.slice pa ks.ps.length pc) ks.ps.length (intsL ks.ps) (by simp [Act.eval]) (by exact World.ownsRow.alloc (unhide Hrow) _) ⟨w1.heap.size, 0, none⟩ 1 1 [.int .i64 i] (by simp [Act.eval]) rfl (by exact cell_one_drew _ _ _) (by simp [Value.oneCell']) (by unfold maxLen; omega) (by omega) (by simp; omega) ?_; intro v' w' r1 r2 r4; obtain ⟨hP2, c11, c12, cf, hB2, g', cap', rfl⟩ := unhide HPost _ _ _ r1 r2 r4; rw [hat] at c11)
  all_goals
    have hB3 := (hBs.trans hB2).setCell (p := ⟨b, 12, none⟩) (Nat.le_refl b) (.slice (some ⟨g', 0, none⟩) (ks.ps.length + 1) cap')
    clear m0 m1 m2 m3 m4 m5 m6 m7 mf m8 m9 m10 m11 c11 c12 cf r1 r2 r4
    generalize w'.setCell ⟨b, 12, none⟩ (.slice (some ⟨g', 0, none⟩) (ks.ps.length + 1) cap') = w2 at *
    obtain ⟨m0, m1, m2, m3, m4, m5, m6, m7, mf, m8, m9⟩ := hP2.thirteen
    obtain ⟨m10, m11⟩ := hP2.two
    dsimp only at m10 m11
    rw [hat] at m10
    have hLs := hP2.lines
    dsimp only at hLs
    rw [hlv] at hLs
    obtain ⟨g, rfl, _, y0⟩ := hLs.at_ hl
    have hP4 := hP2.setAt ((i : Int) + 1)
    dsimp only at hP4
    have hB4 := hB3.setCell (p := ⟨b, 11, none⟩) (Nat.le_refl b) (.int .i64 ((i : Int) + 1))
    have HP4 := hide hP4
    have HB4 := hide hB4
    have HP2 := hide hP2
    have hilt : i < ks.ls.length := (List.getElem?_eq_some_iff.1 hl).1
    have Hat := hide hat
    have Hpv := hide hpv
    have Hlv := hide hlv
    have Hl := hide hl
    clear hP4 hB4 hP2 hLs hat hpv hlv hl m11
    generalize ks.ls.length = NL at *
    have hT := unhide HT _ _ (unhide HP4)
    have HT2 := hide hT
    clear hT
    by_cases hx : x = 0
    · have HeA := hide (show A = z by rw [← unhide HA, if_pos hx])
      have HeB := hide (show B = 102 by rw [← unhide HB, if_pos hx])
      have hx2 : (!(x == 0)) = false := by simpa using hx
      rw [if_pos hx, hx2] at HT2
      clear hx hx2
      go_wp2_with fail
      refine (unhide HT2).mono ?_
      rintro e w5 ⟨rfl, hP5, hB5⟩
      have hP6 := hP5.setAt z
      dsimp only at hP6
      obtain ⟨q0, q1, q2, q3, q4, q5, q6, q7, qf, _, _⟩ := hP5.thirteen
      obtain ⟨q10, q11⟩ := hP5.two
      dsimp only at q10
      clear m0 m1 m2 m3 m4 m5 m6 m7 mf m8 m9 m10 q11 y0
      go_wp2_with fail
      refine (unhide Hgo _).mono ?_
      rintro e w6 ⟨rfl, rfl⟩
      go_wp2_with fail
      go_end0
      exact ⟨rfl, ⟨_, by rw [unhide HeA, unhide HeB]; exact hP6⟩, ((unhide HB4).trans hB5).setCell (p := ⟨b, 11, none⟩) (Nat.le_refl b) _⟩
    · have HeA := hide (show A = (i : Int) + 1 by rw [← unhide HA, if_neg hx])
      have HeB := hide (show B = 116 by rw [← unhide HB, if_neg hx])
      have hx2 : (!(x == 0)) = true := by simpa using hx
      rw [if_neg hx, hx2] at HT2
      clear hx hx2
      go_wp2_with fail
      refine (unhide HT2).mono ?_
      rintro e w5 ⟨rfl, hP5, hB5⟩
      go_wp2_with fail
      go_end0
      exact ⟨rfl, ⟨_, by rw [unhide HeA, unhide HeB]; exact hP5⟩, (unhide HB4).trans hB5⟩

end
end Go.Proofs.YtnkbfdbbcaffmaaGreatDoor
/-
  The document's run of a code, step by step.
-/
namespace Go.Proofs.YtnkbfdbbcaffmaaGreatDoor
open Go.RowKit

theorem strI_none {L : Int} : ∀ {cs : List Cm} {i : Nat} {last : Int}, strI L cs i last = -1 → (0 ≤ L) →
    (∀ (j : Nat) (c : Cm), cs[j]? = some c → (c.kind = 106 → c.yes < L) ∧ (c.kind = 122 → c.no < L)) ∧ (∀ c, cs.getLast? = some c → c.kind = 104 ∨ c.kind = 106)
  | [], i, last, _, _ => ⟨fun j c h => by simp at h, fun c h => by simp at h⟩
  | c :: r, i, last, h, hL => by
    unfold strI at h
    split at h
    · omega
    · rename_i h1
      split at h
      · omega
      · rename_i h2
        obtain ⟨a, b⟩ := strI_none h hL
        refine ⟨fun j d hd => ?_, fun d hd => ?_⟩
        · cases j with
          | zero =>
            simp at hd
            subst hd
            exact ⟨fun e => by
              have := fun h' => h1 ⟨e, h'⟩
              omega, fun e => by
              have := fun h' => h2 ⟨e, h'⟩
              omega⟩
          | succ j => exact a j d (by simpa using hd)
        · cases r with
          | nil =>
            simp at hd
            subst hd
            unfold strI at h
            split at h
            · omega
            · rename_i h3
              by_cases e : c.kind = 104
              · exact .inl e
              · exact .inr (Classical.byContradiction fun e2 => h3 ⟨e, e2⟩)
          | cons d' r' => exact b d (by simpa using hd)

/-- Lines of a code lead to lines, or to the end. -/
theorem cod_next {s : ByteArray} (hst : stray (cod s).cs = -1) : ∀ (i : Nat) (c : Cm), (cod s).cs[i]? = some c →
    (c.kind = 104 → c.yes = (cod s).cs.length) ∧ (c.kind ≠ 104 → c.kind ≠ 106 → c.yes = i + 1 ∧ i + 1 < (cod s).cs.length) ∧ (c.kind = 106 → c.yes < (cod s).cs.length) ∧ (c.kind = 122 → c.no < (cod s).cs.length) := by
  have key : ∀ (f : Nat) (st : PS), (∀ (i : Nat) (c : Cm), st.cs[i]? = some c → c.kind ≠ 106 → c.yes = i + 1) → ∀ (i : Nat) (c : Cm), (rdL s (pw (hdr s).2.2.1) (hdr s).2.2.2.1 f st).cs[i]? = some c → c.kind ≠ 106 → c.yes = i + 1 := by
    intro f
    induction f with
    | zero => exact fun st h => h
    | succ f ih =>
      intro st hs
      unfold rdL
      split
      · refine ih _ ?_
        intro i c hc hk
        unfold ln1 at hc
        dsimp only at hc
        by_cases hi : i < st.cs.length
        · rw [List.getElem?_append_left hi] at hc
          exact hs i c hc hk
        · rw [List.getElem?_append_right (by omega)] at hc
          have e : i = st.cs.length := by
            by_cases e : i - st.cs.length = 0
            · omega
            · rw [List.getElem?_eq_none (by simp; omega)] at hc; cases hc
          rw [e] at hc
          simp at hc
          subst hc
          unfold lcm at hk ⊢
          dsimp only at hk ⊢
          rw [if_neg hk, e]
      · exact hs
  intro i c hc
  have hci := hc
  have hL := strI_none hst (Int.natCast_nonneg _)
  unfold cod rdLs fixE at hc
  dsimp only at hc
  rw [List.getElem?_map] at hc
  have hcl : (cod s).cs.length = (rdL s (pw (hdr s).2.2.1) (hdr s).2.2.2.1 s.size ⟨(hdr s).1, (hdr s).2.1 || !(isLn (pk s (hdr s).1 (hdr s).2.1)), []⟩).cs.length := by
    unfold cod rdLs fixE
    simp
  have hk := key s.size ⟨(hdr s).1, (hdr s).2.1 || !(isLn (pk s (hdr s).1 (hdr s).2.1)), []⟩ (fun i c h => by simp at h)
  have hil : i < (cod s).cs.length := (List.getElem?_eq_some_iff.1 hci).1
  cases hd : (rdL s (pw (hdr s).2.2.1) (hdr s).2.2.2.1 s.size ⟨(hdr s).1, (hdr s).2.1 || !(isLn (pk s (hdr s).1 (hdr s).2.1)), []⟩).cs[i]? with
  | none => rw [hd] at hc; cases hc
  | some d =>
    rw [hd] at hc
    simp only [Option.map_some, Option.some.injEq] at hc
    have hdk := hk i d hd
    have hkk : c.kind = d.kind := by rw [← hc]; unfold fix1; split <;> rfl
    refine ⟨fun e => ?_, fun e1 e2 => ⟨?_, ?_⟩, (hL.1 i c hci).1, (hL.1 i c hci).2⟩
    · rw [← hc, hcl]
      unfold fix1
      rw [if_pos (by rw [← hkk]; exact e)]
    · rw [← hc]
      unfold fix1
      rw [if_neg (by rw [← hkk]; exact e1)]
      exact hdk (by rw [← hkk]; exact e2)
    · by_cases hlast : i + 1 = (cod s).cs.length
      · have : (cod s).cs.getLast? = some c := by
          rw [List.getLast?_eq_getElem?]
          rw [show (cod s).cs.length - 1 = i from by omega]
          exact hci
        rcases hL.2 c this with h' | h'
        · exact absurd h' e1
        · exact absurd h' e2
      · omega

/-- Where the document's run of a code is: ended, or at line i. -/
def WayC (V view : Int) (n m fuel : Nat) (cs : List Cm) (R : Res) (P : List Int) (g : Nat) (σ sn : List Int) (tag : Int) (steps : Nat) (ks : KX) : Prop :=
  (tag ≠ 0 ∧ R = ⟨tag, steps, sn, σ⟩ ∧ P = ks.ps) ∨
  (tag = 0 ∧ ∃ i : Nat, i < cs.length ∧ ks.at_ = i ∧ runP V view n m fuel cs g i σ sn steps = R ∧ ks.ps ++ pathP V view n m fuel cs g i σ steps = P ∧ g + steps = fuel + 1 ∧ steps ≤ fuel ∧ sn.length ≤ 4 * steps ∧ ks.ps.length = steps)

theorem line_way {w : World} {b : Nat} {W : Nat} {n m fuel : Nat} {st : Int} {ks : KX} {view : Int} {cs : List Cm} {R : Res} {P : List Int} {g : Nat} {σ sn : List Int} {steps : Nat} {t : ByteArray} {ao : Option Addr} {cap : Nat}
    (h : PlS w b (pw W) n m st ks view σ sn 0 steps t) (hw : WayC (pw W) view n m fuel cs R P g σ sn 0 steps ks) (hlv : ks.lv = .slice ao ks.ls.length cap) (hW1 : 1 ≤ W) (hW : W ≤ 8) (hfit : Fits (pw W) σ) (hnm : n + m = σ.length) (hlen : σ.length ≤ 100) (hv0 : 0 ≤ view) (hv1 : view ≤ 8) (hf : fuel ≤ 10000)
    (hcs : CsOK (pw W) n cs) (hcl : cs.length ≤ 1000) (hll : ks.ls.length = cs.length) (hget : ∀ (i : Nat) (c : Cm), cs[i]? = some c → ∃ l, ks.ls[i]? = some l ∧ LnT (pw W) n c l.data.toList)
    (hnx : ∀ (i : Nat) (c : Cm), cs[i]? = some c → (c.kind = 104 → c.yes = cs.length) ∧ (c.kind ≠ 104 → c.kind ≠ 106 → c.yes = i + 1 ∧ i + 1 < cs.length) ∧ (c.kind = 106 → c.yes < cs.length) ∧ (c.kind = 122 → c.no < cs.length)) :
    Calls Tryz.prog 92 #[.pointer (some ⟨b, 0, none⟩), .slice ao ks.ls.length cap, .int .i64 fuel] w fun e w' => e = .returned (.tuple #[]) ∧ (∃ g' σ' sn' tag' ks' steps', g = g' + 1 ∧ PlS w' b (pw W) n m st ks' view σ' sn' tag' ((steps' : Nat) : Int) t ∧ WayC (pw W) view n m fuel cs R P g' σ' sn' tag' steps' ks' ∧ ks'.lv = ks.lv ∧ ks'.ls = ks.ls ∧ Fits (pw W) σ' ∧ σ'.length = σ.length) ∧ Below b w w' := by
  rcases hw with ⟨h0, _⟩ | ⟨_, i, hi, hat, hrun, hpath, hg, hst, hsn, hpl⟩
  · exact absurd rfl h0
  obtain ⟨g', rfl⟩ : ∃ g', g = g' + 1 := ⟨g - 1, by omega⟩
  obtain ⟨c, hc⟩ : ∃ c, cs[i]? = some c := ⟨_, List.getElem?_eq_getElem hi⟩
  obtain ⟨l, hl, hLT⟩ := hget i c hc
  obtain ⟨n1, n2, n3, n4⟩ := hnx i c hc
  obtain ⟨hcok, hy0, hn0⟩ := hcs c (List.mem_of_getElem? hc)
  rw [runP] at hrun
  rw [pathP] at hpath
  simp only [Int.toNat_natCast] at hrun hpath
  rw [hc] at hrun hpath
  dsimp only at hrun hpath
  by_cases hfu : fuel ≤ steps
  · have e : steps = fuel := by omega
    subst e
    rw [if_pos hfu] at hrun hpath
    rw [List.append_nil] at hpath
    refine (line_fuel h ao ks.ls.length cap).mono ?_
    rintro e w' ⟨rfl, hP, hB⟩
    exact ⟨rfl, ⟨g', σ, sn, 3, ks, steps, rfl, hP, .inl ⟨by decide, hrun.symm, hpath.symm⟩, rfl, rfl, hfit, rfl⟩, hB⟩
  · rw [if_neg hfu] at hrun hpath
    have hfits2 := act_fits (view := view) (m := m) hcok hfit hnm hW1
    have hσl2 := act_σlen (pw W) view n m σ c
    have hal := act_len (pw W) view n m σ c
    have hst1 : ((steps : Int) + 1) = ((steps + 1 : Nat) : Int) := by omega
    obtain ⟨l0, lk⟩ := hLT.first
    have hV := (pw_bd W hW).1
    have hV2 := (pw_bd W hW).2
    have hn : n ≤ σ.length := by omega
    by_cases k3 : c.kind = 61 ∨ c.kind = 108 ∨ c.kind = 115
    · have hyes := (n2 (by omega) (by omega)).1
      have hlt := (n2 (by omega) (by omega)).2
      have hact : (act (pw W) view n m σ c).2.2.2 = c.yes := by
        unfold act
        split
        · rfl
        · split
          · split <;> rfl
          · split
            · split <;> rfl
            · omega
      refine (line_plain (Q := fun w' => ∃ v', PlS w' b (pw W) n m st { ks with at_ := (i : Int) + 1, pv := v', ps := ks.ps ++ [(i : Int)] } view (act (pw W) view n m σ c).1 (sn ++ (act (pw W) view n m σ c).2.1) (if (act (pw W) view n m σ c).2.2.1 = true then 2 else 0) ((steps : Int) + 1) t) h fuel (by omega) (by omega) (by omega) i hat ao cap hlv l hl (by omega) (by omega) l0 c.kind lk (by simp; omega) (by simp; omega) (by simp; omega)
        (fun w0 v' hP0 => (plain_line hLT k3 hcok hP0 hW hfit hnm hlen (by omega) hv0 hv1).mono (fun e w' hh => ⟨hh.1, ⟨v', hh.2.1⟩, hh.2.2⟩))).mono ?_
      rintro e w' ⟨rfl, ⟨v', hP⟩, hB⟩
      rw [hst1] at hP
      cases htr : (act (pw W) view n m σ c).2.2.1 with
      | true =>
        rw [htr, if_pos rfl] at hrun hP hpath
        exact ⟨rfl, ⟨g', _, _, 2, _, steps + 1, rfl, hP, .inl ⟨by decide, hrun.symm, hpath.symm⟩, rfl, rfl, hfits2, hσl2⟩, hB⟩
      | false =>
        rw [htr, if_neg (by simp)] at hrun hP hpath
        rw [hact, hyes] at hrun hpath
        refine ⟨rfl, ⟨g', _, _, 0, _, steps + 1, rfl, hP, .inr ⟨rfl, i + 1, hlt, rfl, hrun, ?_, by omega, by omega, ?_, ?_⟩, rfl, rfl, hfits2, hσl2⟩, hB⟩
        · rw [List.append_assoc]; exact hpath
        · rw [List.length_append]; omega
        · simp; omega
    · have hkd : c.kind = 122 ∨ c.kind = 106 ∨ c.kind = 104 := by
        rcases hLT with ⟨_, _, _, _, _, hk, _⟩ | ⟨_, _, _, hk, _⟩ | ⟨_, _, _, hk, _⟩ | ⟨_, _, _, _, _, _, hk, _⟩ | ⟨_, _, _, _, _, hk, _⟩ | ⟨_, hk⟩ <;> omega
      rcases hkd with hk | hk | hk
      · have hlt := n4 hk
        have hyes := (n2 (by omega) (by omega)).1
        have hlt2 := (n2 (by omega) (by omega)).2
        have hgc : goalC c = c.no := by unfold goalC; rw [if_pos hk]
        have hact : act (pw W) view n m σ c = (σ, [if vl σ c.xn c.xv.toNat = 0 then 102 else 116], false, if vl σ c.xn c.xv.toNat = 0 then c.no else c.yes) := by
          unfold act; rw [if_neg (by omega), if_neg (by omega), if_neg (by omega), if_neg (by omega)]
        have hgo := fun w0 => goal_any hLT w0
        rw [hgc] at hgo
        obtain ⟨x, hx, hl1, hlx⟩ : ∃ x : UInt8, OpRel (pw W) n x c.xn c.xv ∧ ∃ h1 : 1 < l.size, l[1] = x := by
          have hsz := size_list l
          rcases hLT with ⟨_, _, _, _, _, hk', _⟩ | ⟨_, _, _, hk', _⟩ | ⟨_, _, _, hk', _⟩ | ⟨x, a, b', u, v, e, _, hx, _⟩ | ⟨_, _, _, _, _, hk', _⟩ | ⟨_, hk'⟩
          · omega
          · omega
          · omega
          · rw [e] at hsz
            simp only [List.length_cons, List.length_nil] at hsz
            exact ⟨x, hx, by omega, byte_eq _ (by rw [e]; rfl)⟩
          · omega
          · omega
        refine (line_zero h fuel (by omega) (by omega) (by omega) i hat ao cap hlv l hl (by omega) (by omega) l0 hl1 (by rw [lk, hk]) c.no hgo (by rw [hlx]; exact hx.low) (by rw [hlx]; exact hx.high hn) hV hV2 (by omega)).mono ?_
        rintro e w' ⟨rfl, ⟨v', hP⟩, hB⟩
        rw [hlx, hx.val hV σ, hst1] at hP
        rw [hact] at hrun hpath
        dsimp only at hrun hpath
        rw [if_neg (by simp)] at hrun hpath
        rw [hyes] at hrun hpath
        by_cases hz : vl σ c.xn c.xv.toNat = 0
        · simp only [if_pos hz] at hP hrun hpath
          obtain ⟨z, hzz⟩ := Int.eq_ofNat_of_zero_le hn0
          rw [hzz] at hP hrun hpath
          refine ⟨rfl, ⟨g', _, _, 0, _, steps + 1, rfl, hP, .inr ⟨rfl, z, by omega, rfl, hrun, ?_, by omega, by omega, ?_, ?_⟩, rfl, rfl, hfit, rfl⟩, hB⟩
          · rw [List.append_assoc]; exact hpath
          · rw [List.length_append]; simp; omega
          · simp; omega
        · simp only [if_neg hz] at hP hrun hpath
          refine ⟨rfl, ⟨g', _, _, 0, _, steps + 1, rfl, hP, .inr ⟨rfl, i + 1, hlt2, rfl, hrun, ?_, by omega, by omega, ?_, ?_⟩, rfl, rfl, hfit, rfl⟩, hB⟩
          · rw [List.append_assoc]; exact hpath
          · rw [List.length_append]; simp; omega
          · simp; omega
      · have hlt := n3 hk
        have hgc : goalC c = c.yes := by unfold goalC; rw [if_neg (by omega), if_pos hk]
        have hact : act (pw W) view n m σ c = (σ, [], false, c.yes) := by
          unfold act; rw [if_neg (by omega), if_neg (by omega), if_neg (by omega), if_pos (.inl hk)]
        have hgo := fun w0 => goal_any hLT w0
        rw [hgc] at hgo
        refine (line_jump h fuel (by omega) (by omega) (by omega) i hat ao cap hlv l hl (by omega) (by omega) l0 (by rw [lk, hk]) c.yes hgo).mono ?_
        rintro e w' ⟨rfl, ⟨v', hP⟩, hB⟩
        rw [hst1] at hP
        rw [hact] at hrun hpath
        dsimp only at hrun hpath
        rw [if_neg (by simp)] at hrun hpath
        rw [List.append_nil] at hrun
        obtain ⟨z, hzz⟩ := Int.eq_ofNat_of_zero_le hy0
        rw [hzz] at hP hrun hpath
        refine ⟨rfl, ⟨g', _, _, 0, _, steps + 1, rfl, hP, .inr ⟨rfl, z, by omega, rfl, hrun, ?_, by omega, by omega, by omega, ?_⟩, rfl, rfl, hfit, rfl⟩, hB⟩
        · rw [List.append_assoc]; exact hpath
        · simp; omega
      · have hyes := n1 hk
        have hact : act (pw W) view n m σ c = (σ, [], false, c.yes) := by
          unfold act; rw [if_neg (by omega), if_neg (by omega), if_neg (by omega), if_pos (.inr hk)]
        refine (line_end h fuel (by omega) (by omega) (by omega) i hat ao cap hlv l hl (by omega) (by omega) l0 (by rw [lk, hk])).mono ?_
        rintro e w' ⟨rfl, ⟨v', hP⟩, hB⟩
        rw [hst1] at hP
        rw [hact] at hrun hpath
        dsimp only at hrun hpath
        rw [if_neg (by simp), hyes] at hrun hpath
        rw [List.append_nil] at hrun
        obtain ⟨g2, rfl⟩ : ∃ g2, g' = g2 + 1 := ⟨g' - 1, by omega⟩
        rw [runP] at hrun
        rw [pathP] at hpath
        simp only [Int.toNat_natCast] at hrun hpath
        rw [List.getElem?_eq_none (Nat.le_refl _)] at hrun hpath
        exact ⟨rfl, ⟨g2 + 1, _, _, 1, _, steps + 1, rfl, hP, .inl ⟨by decide, hrun.symm, hpath.symm⟩, rfl, rfl, hfit, rfl⟩, hB⟩
end Go.Proofs.YtnkbfdbbcaffmaaGreatDoor
