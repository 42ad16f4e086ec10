import Derived.Test.YtnkbfdbbcaffmaaGreatDoorX18RunL
import Derived.Test.YtnkbfdbbcaffmaaGreatDoorX06Agree2
import Derived.Deep.RegionHeld3
import Derived.BigRegion
import Derived.Test.YtnkbfdbbcaffmaaGreatDoorX07Ref
/-
  What a good head says.
-/
namespace Go.Proofs.YtnkbfdbbcaffmaaGreatDoor
open Go.RowKit

section
variable {s : ByteArray}

theorem head_facts (h : (hdr s).2.1 = false) : ∃ h0 : 0 < s.size, (s[0].toNat : Int) = 48 + (hdr s).2.2.1 ∧ fnd s 47 s.size 0 = 1 + (hdr s).2.2.2.1 ∧ fnd s 58 s.size 0 = 2 + (hdr s).2.2.2.1 + (hdr s).2.2.2.2 ∧ (hdr s).1 = 3 + (hdr s).2.2.2.1 + (hdr s).2.2.2.2 ∧ 3 + (hdr s).2.2.2.1 + (hdr s).2.2.2.2 ≤ s.size ∧ 1 ≤ (hdr s).2.2.2.1 := by
  have hv := nvar_head h
  unfold nvar at hv
  generalize fnd s 47 s.size 0 = q at *
  unfold hdr at *
  dsimp only at *
  obtain ⟨h1, g1, g2, g3⟩ := tk_good h
  obtain ⟨h2, h3, h4, h7⟩ := tk_good h1
  simp only [Bool.or_eq_false_iff] at h2
  obtain ⟨h5, h6⟩ := h2
  obtain ⟨_, t1, x, t2, t3, t4, t5⟩ := tb_eat h5
  have h0 : 0 < s.size := by omega
  have t6 : s[0] = x := by
    have := drop_at s 0 h0
    have e : Lft s 0 = s[0] :: s.data.toList.drop (0 + 1) := this
    rw [t2] at e
    exact (List.cons.inj e).1.symm
  rw [h5, t1] at h3 h4 h6 h7 hv
  rw [h5, t1, h7] at g1 g2 g3
  rw [h5, t1] at h1
  rw [h1] at g1 g2 g3
  rw [h5, t1, h7]
  simp only [Nat.zero_add] at *
  rw [h1, g3]
  generalize hn : cnt s false 8 1 = n at *
  generalize hm : cnt s false 16 (1 + n + 1) = m at *
  have hl : ∀ j, j < n + m + 2 → pk s (0 + j) false ≠ 58 ∧ 0 + j < s.size := by
    intro j hj
    rw [Nat.zero_add]
    refine ⟨?_, by omega⟩
    by_cases j0 : j = 0
    · subst j0
      rw [pk_at s 0 h0, t6]; omega
    · by_cases j1 : j < n + 1
      · have := cnt_letter (s := s) 8 1 (j - 1) (by omega)
        rw [show 1 + (j - 1) = j from by omega] at this
        omega
      · by_cases j2 : j = 1 + n
        · rw [j2, h4]; decide
        · have := cnt_letter (s := s) 16 (1 + n + 1) (j - (1 + n + 1)) (by omega)
          rw [show 1 + n + 1 + (j - (1 + n + 1)) = j from by omega] at this
          omega
  have hf := fnd_skip (s := s) 58 (s.size - (n + m + 2)) (n + m + 2) 0 hl
  rw [show s.size - (n + m + 2) + (n + m + 2) = s.size from by omega] at hf
  obtain ⟨f, hf2⟩ : ∃ f, s.size - (n + m + 2) = f + 1 := ⟨s.size - (n + m + 2) - 1, by omega⟩
  have hp : 0 + (n + m + 2) < s.size := by omega
  refine ⟨h0, by rw [t6]; omega, by omega, ?_, by omega, by omega, ?_⟩
  · rw [hf, hf2, fnd, dif_pos hp, if_pos]
    · omega
    · rw [← pk_at s _ hp, ← g2]; congr 1; omega
  · simp at h6; omega
end

theorem act_or (V view : Int) (n m : Nat) (σ : List Int) (c : Cm) : (act V view n m σ c).2.2.2 = c.yes ∨ (act V view n m σ c).2.2.2 = c.no := by
  unfold act
  split
  · exact .inl rfl
  · split
    · split <;> exact .inl rfl
    · split
      · split <;> exact .inl rfl
      · split
        · exact .inl rfl
        · dsimp only
          split
          · exact .inr rfl
          · exact .inl rfl

theorem krn_head {s : ByteArray} (h : krnBad s = false) : (hdr s).2.1 = false := by
  simp [krnBad] at h
  have := rdB_nxt s (pw (hdr s).2.2.1) (hdr s).2.2.2.1 s.size ⟨(hdr s).1, (hdr s).2.1, []⟩ ⟨Nat.zero_le _, hdr_le s⟩ (by unfold lft; split <;> simp)
  exact this.1.back h.1

theorem Does.pos {V : Int} {n : Nat} {c : Cm} {t a b : List UInt8} (h : Does V n c t a b) : 0 < t.length := by
  rcases h with ⟨_, _, _, _, _, rfl, _⟩ | ⟨_, _, _, rfl, _⟩ | ⟨_, _, _, rfl, _⟩ | ⟨_, _, _, _, rfl, _⟩ | ⟨_, _, _, rfl, _⟩ <;> simp
end Go.Proofs.YtnkbfdbbcaffmaaGreatDoor
/-
  The document's head. Read.
-/
namespace Go.Proofs.YtnkbfdbbcaffmaaGreatDoor
open Go.RowKit

set_option maxHeartbeats 2000000 in
theorem read_any (s : ByteArray) (hs : s.size ≤ 1000) (h : (hdr s).2.1 = false) (w : World) :
    Calls Tryz.prog 53 #[.string s] w fun e w' => ∃ ks, e = .returned (.agg #[.int .i64 (pw (hdr s).2.2.1), .int .i64 (hdr s).2.2.2.1, .int .i64 (hdr s).2.2.2.2, .int .i64 (hdr s).1, .string ks]) ∧ w.grownBy w' none := by
  obtain ⟨h0, e0, e1, e2, e3, e4, e5⟩ := head_facts h
  have hW := hdr_wid s
  have hn := hdr_vars s
  have hm := hdr_words s
  rw [e3]
  generalize (hdr s).2.2.1 = W at *
  generalize (hdr s).2.2.2.1 = n at *
  generalize (hdr s).2.2.2.2 = m at *
  have F1 := hide (fun w0 => find_any s (by unfold maxLen; omega) 47 w0)
  have F2 := hide (fun w0 => find_any s (by unfold maxLen; omega) 58 w0)
  obtain ⟨p, hp⟩ : ∃ p : Nat, p = 1 + n := ⟨_, rfl⟩
  obtain ⟨q, hq⟩ : ∃ q : Nat, q = 2 + n + m := ⟨_, rfl⟩
  have e1' : fnd s 47 s.size 0 = (p : Int) := by omega
  have e2' : fnd s 58 s.size 0 = (q : Int) := by omega
  simp only [e1'] at F1
  simp only [e2'] at F2
  have r1 : (n : Int) = (p : Int) - 1 := by omega
  have r2 : (m : Int) = (q : Int) - (p : Int) - 1 := by omega
  have r3 : ((3 + n + m : Nat) : Int) = (q : Int) + 1 := by omega
  rw [r1, r2, r3]
  have f0 : 1 ≤ p := by omega
  have f1 : p + 1 ≤ q := by omega
  have f2 : q + 1 ≤ s.size := by omega
  clear e1 e2 e3 e1' e2' h r1 r2 r3 hp hq e4 e5 hn hm
  go_enter Tryz.func53, Tryz.ntmps53
  go_wp2_with fail
  have k0 : IntKind.i32.wrap (s[0].toNat : Int) = 48 + (W : Int) := by rw [IntKind.wrap_i32]; omega
  go_loop [3, 4] (fun ns i => ∃ k : Nat, i = .int .i32 (48 + (k : Int)) ∧ ns = .int .i64 (pw k) ∧ k ≤ W) (fun _ i => 56 - (intOf i).toNat)
  case atStart => exact ⟨0, rfl, rfl, Nat.zero_le _⟩
  case round =>
    obtain ⟨k, rfl, rfl, hk⟩ := hrel
    by_cases hlt : k < W
    · have hb := pw_bd7 k (by omega)
      have hb2 := (pw_bd k (by omega)).1
      have hp : pw (k + 1) = pw k * 2 := rfl
      have Hp := hide hp
      clear hp
      generalize pw k = z at *
      have e32 : IntKind.i32.wrap (48 + (k : Int) + 1) = 48 + (k : Int) + 1 := by rw [IntKind.wrap_i32]; omega
      go_wp2_with fail
      go_round
      case rel => exact ⟨k + 1, by go_num, by rw [unhide Hp]; congr 1; omega, by omega⟩
      case measure => simp [intOf]; omega
    · have e : k = W := by omega
      subst e
      clear hlt hk
      generalize hz : pw k = z at *
      have Hz := hide hz
      clear hz
      go_wp2_with fail
      refine (unhide F1 _).mono ?_
      rintro e w' ⟨rfl, rfl⟩
      go_wp2_with fail
      refine (unhide F2 _).mono ?_
      rintro e w' ⟨rfl, rfl⟩
      go_wp2_with fail
      have g1 : IntKind.i64.wrap ((p : Int) - 1) = (p : Int) - 1 := by rw [IntKind.wrap_i64]; omega
      have g2 : IntKind.i64.wrap ((q : Int) - (p : Int)) = (q : Int) - (p : Int) := by rw [IntKind.wrap_i64]; omega
      have g3 : IntKind.i64.wrap ((q : Int) - (p : Int) - 1) = (q : Int) - (p : Int) - 1 := by rw [IntKind.wrap_i64]; omega
      have g4 : IntKind.i64.wrap ((q : Int) + 1) = (q : Int) + 1 := by rw [IntKind.wrap_i64]; omega
      have g5 : IntKind.i64.wrap ((p : Int) + 1) = (p : Int) + 1 := by rw [IntKind.wrap_i64]; omega
      have g6 : (1 : Int) ≤ (p : Int) := by omega
      have g7 : (p : Int) ≤ (s.size : Int) := by omega
      have g8 : (p : Int) + 1 ≤ (q : Int) := by omega
      have g9 : (q : Int) ≤ (s.size : Int) := by omega
      have g10 : ((p : Int) + 1).toNat = p + 1 := by omega
      have g11 : (0 : Int) ≤ (p : Int) + 1 := by omega
      have x1 : (s.extract 1 p).size = p - 1 := by rw [ByteArray.size_extract]; omega
      have x2 : (s.extract (p + 1) q).size = q - (p + 1) := by rw [ByteArray.size_extract]; omega
      have g12 : ¬ 9223372036854775807 < p - 1 + (q - (p + 1)) := by omega
      have g13 : ¬ 9223372036854775807 < min p s.size - 1 + (min q s.size - (p + 1)) := by omega
      have hA := At.new w 81 #[.int .i64 0, .int .i64 0, .int .i64 0, .int .i64 0, .string ⟨#[]⟩]
      have c0 := hA.cell 0
      have c1 := hA.cell 1
      have c2 := hA.cell 2
      have c3 := hA.cell 3
      have c4 := hA.cell 4
      have cf := fun j => hA.frozen j
      simp at c0 c1 c2 c3 c4
      go_region_held3 (fun _ => True) (first | trivial | go_keep) (fail)
      go_wp2_with fail
      refine bodyPost_ret (v := .agg #[.int .i64 z, .int .i64 ((p : Int) - 1), .int .i64 ((q : Int) - (p : Int) - 1), .int .i64 ((q : Int) + 1), .string (s.extract 1 p ++ s.extract (p + 1) q)]) (by simp [results, Tryz.results53, go_sem]) rfl ⟨_, by rw [unhide Hz], gb_drew (gb_alloc (gb_refl _ _) _)⟩
end Go.Proofs.YtnkbfdbbcaffmaaGreatDoor
