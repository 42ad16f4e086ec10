/-
  What a good head says.
-/
import Derived.Test.YtfolokhilkffcaaFlow
import Derived.Test.YtfolokhilkffcaaAgree2
namespace Go.Proofs.Ytfolokhilkffcaa
open Go.RowKit

section
variable {s : ByteArray}

theorem head_facts (h : (hdr s).2.1 = false) : ∃ h0 : 0 < s.size, (s[0].toNat : Int) = 48 + (hdr s).2.2.1 ∧ fnd s 47 s.size 0 = 1 + (hdr s).2.2.2.1 ∧ fnd s 58 s.size 0 = 2 + (hdr s).2.2.2.1 + (hdr s).2.2.2.2 ∧ (hdr s).1 = 3 + (hdr s).2.2.2.1 + (hdr s).2.2.2.2 ∧ 3 + (hdr s).2.2.2.1 + (hdr s).2.2.2.2 ≤ s.size ∧ 1 ≤ (hdr s).2.2.2.1 := by
  have hv := nvar_head h
  unfold nvar at hv
  generalize fnd s 47 s.size 0 = q at *
  unfold hdr at *
  dsimp only at *
  obtain ⟨h1, g1, g2, g3⟩ := tk_good h
  obtain ⟨h2, h3, h4, h7⟩ := tk_good h1
  simp only [Bool.or_eq_false_iff] at h2
  obtain ⟨h5, h6⟩ := h2
  obtain ⟨_, t1, x, t2, t3, t4, t5⟩ := tb_eat h5
  have h0 : 0 < s.size := by omega
  have t6 : s[0] = x := by
    have := drop_at s 0 h0
    have e : Lft s 0 = s[0] :: s.data.toList.drop (0 + 1) := this
    rw [t2] at e
    exact (List.cons.inj e).1.symm
  rw [h5, t1] at h3 h4 h6 h7 hv
  rw [h5, t1, h7] at g1 g2 g3
  rw [h5, t1] at h1
  rw [h1] at g1 g2 g3
  rw [h5, t1, h7]
  simp only [Nat.zero_add] at *
  rw [h1, g3]
  generalize hn : cnt s false 8 1 = n at *
  generalize hm : cnt s false 16 (1 + n + 1) = m at *
  have hl : ∀ j, j < n + m + 2 → pk s (0 + j) false ≠ 58 ∧ 0 + j < s.size := by
    intro j hj
    rw [Nat.zero_add]
    refine ⟨?_, by omega⟩
    by_cases j0 : j = 0
    · subst j0
      rw [pk_at s 0 h0, t6]; omega
    · by_cases j1 : j < n + 1
      · have := cnt_letter (s := s) 8 1 (j - 1) (by omega)
        rw [show 1 + (j - 1) = j from by omega] at this
        omega
      · by_cases j2 : j = 1 + n
        · rw [j2, h4]; decide
        · have := cnt_letter (s := s) 16 (1 + n + 1) (j - (1 + n + 1)) (by omega)
          rw [show 1 + n + 1 + (j - (1 + n + 1)) = j from by omega] at this
          omega
  have hf := fnd_skip (s := s) 58 (s.size - (n + m + 2)) (n + m + 2) 0 hl
  rw [show s.size - (n + m + 2) + (n + m + 2) = s.size from by omega] at hf
  obtain ⟨f, hf2⟩ : ∃ f, s.size - (n + m + 2) = f + 1 := ⟨s.size - (n + m + 2) - 1, by omega⟩
  have hp : 0 + (n + m + 2) < s.size := by omega
  refine ⟨h0, by rw [t6]; omega, by omega, ?_, by omega, by omega, ?_⟩
  · rw [hf, hf2, fnd, dif_pos hp, if_pos]
    · omega
    · rw [← pk_at s _ hp, ← g2]; congr 1; omega
  · simp at h6; omega
end

theorem act_or (V view : Int) (n m : Nat) (σ : List Int) (c : Cm) : (act V view n m σ c).2.2.2 = c.yes ∨ (act V view n m σ c).2.2.2 = c.no := by
  unfold act
  split
  · exact .inl rfl
  · split
    · split <;> exact .inl rfl
    · split
      · split <;> exact .inl rfl
      · dsimp only
        split
        · exact .inr rfl
        · exact .inl rfl

theorem krn_head {s : ByteArray} (h : krnBad s = false) : (hdr s).2.1 = false := by
  simp [krnBad] at h
  have := rdB_nxt s (pw (hdr s).2.2.1) (hdr s).2.2.2.1 s.size ⟨(hdr s).1, (hdr s).2.1, []⟩ ⟨Nat.zero_le _, hdr_le s⟩ (by unfold lft; split <;> simp)
  exact this.1.back h.1

theorem Does.pos {V : Int} {n : Nat} {c : Cm} {t a b : List UInt8} (h : Does V n c t a b) : 0 < t.length := by
  rcases h with ⟨_, _, _, _, _, rfl, _⟩ | ⟨_, _, _, rfl, _⟩ | ⟨_, _, _, rfl, _⟩ | ⟨_, _, _, _, rfl, _⟩ | ⟨_, _, _, rfl, _⟩ <;> simp
end Go.Proofs.Ytfolokhilkffcaa
