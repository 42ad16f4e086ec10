/-
  plain.
-/
import Derived.Test.YtfolokhilkffcaaGreatPl4
namespace Go.Proofs.YtfolokhilkffcaaGreat
open Go.RowKit

section
variable {w w' : World} {b : Nat} {W : Nat} {n m : Nat} {st : Int} {ks : ByteArray} {view : Int} {tag steps : Int} {todo : ByteArray} {σ sn : List Int}

set_option maxHeartbeats 1000000 in
theorem plain_set {Q : World → Prop} (t : ByteArray) (h0 : 0 < t.size) (ht : (t[0].toNat : Int) = 61)
    (hc : Calls Tryz.prog 86 #[.pointer (some ⟨b, 0, none⟩), .string t] w fun e w' => e = .returned (.tuple #[]) ∧ Q w') :
    Calls Tryz.prog 73 #[.pointer (some ⟨b, 0, none⟩), .string t] w fun e w' => e = .returned (.tuple #[]) ∧ Q w' := by
  have HC := hide hc
  clear hc
  go_enter Tryz.func73, Tryz.ntmps73
  go_wp2_with fail
  refine (unhide HC).mono ?_
  rintro e w' ⟨rfl, hQ⟩
  go_wp2_with fail
  go_end0
  exact ⟨rfl, hQ⟩

set_option maxHeartbeats 2000000 in
theorem plain_load (h : PlS w b (pw W) n m st ks view σ sn tag steps todo) (hW : W ≤ 8) (t : ByteArray) (h0 : 0 < t.size) (h1 : 1 < t.size) (h2 : 2 < t.size) (ht : (t[0].toNat : Int) = 108) (var xx : Nat)
    (hv : (t[1].toNat : Int) = 97 + var) (hvn : var < n) (hx0 : 48 ≤ (t[2].toNat : Int)) (hxc : 97 ≤ (t[2].toNat : Int) → ((t[2].toNat : Int) - 97).toNat < σ.length)
    (hxx : vb (pw W) σ t[2].toNat = xx) (hx1 : (xx : Int) < pw W) (hsl : sn.length ≤ 90000) (hv0 : 0 ≤ view) (hv1 : view ≤ 8) (hnm : n + m = σ.length) (hlen : σ.length ≤ 100) :
    Calls Tryz.prog 73 #[.pointer (some ⟨b, 0, none⟩), .string t] w fun e w' => e = .returned (.tuple #[]) ∧ PlS w' b (pw W) n m st ks view (if (m : Int) ≤ xx then σ else σ.set var (σ.getD (n + xx) 0)) (sn ++ swB view m xx) (if (m : Int) ≤ xx then 2 else tag) steps todo ∧ Below b w w' := by
  have hpb := pw_bd W hW
  have b1 := t[1].toNat_lt
  have b2 := t[2].toNat_lt
  have HX := hide (rvalue_any h t[2].toNat hx0 (by omega) (by omega) (by omega) hxc)
  rw [hxx] at HX
  have HT := hide (touch_any h hsl xx (by omega) (by omega) hv0 hv1 (by omega))
  have hn : n ≤ 100 := by omega
  have hvl : var < σ.length := by omega
  generalize hr : σ.getD (n + xx) 0 = r
  have Hr := hide hr
  clear hr
  have hnx : ¬ (m : Int) ≤ xx → n + xx < σ.length := by omega
  have HN := hide hnx
  clear hxx hxc hx0 b2 hnx
  generalize hV : pw W = V at *
  have HV := hide hV
  clear hV hnm
  generalize hc1 : (t[1].toNat : Int) = c1 at *
  have hw1 : IntKind.i64.wrap c1 = c1 := by rw [IntKind.wrap_i64]; omega
  have hw2 : c1 - 97 = (var : Int) := by omega
  have hw3 : IntKind.i64.wrap (var : Int) = (var : Int) := by rw [IntKind.wrap_i64]; omega
  clear hv
  by_cases hm : (m : Int) ≤ xx
  · rw [if_pos hm] at HT ⊢
    rw [if_pos hm] at HT ⊢
    clear h
    go_enter Tryz.func73, Tryz.ntmps73
    go_wp2_with fail
    refine (unhide HX).mono ?_
    rintro e w' ⟨rfl, rfl⟩
    go_wp2_with fail
    refine (unhide HT).mono ?_
    rintro e w2 ⟨rfl, hP2, hB2⟩
    go_wp2_with fail
    go_end0
    exact ⟨rfl, hP2, hB2⟩
  · rw [if_neg hm] at HT ⊢
    rw [if_neg hm] at HT ⊢
    clear h
    have hnx := unhide HN hm
    clear hm
    go_enter Tryz.func73, Tryz.ntmps73
    go_wp2_with fail
    refine (unhide HX).mono ?_
    rintro e w' ⟨rfl, rfl⟩
    go_wp2_with fail
    refine (unhide HT).mono ?_
    rintro e w2 ⟨rfl, hP2, hB2⟩
    obtain ⟨stv, snv, hP, hT, hS⟩ := hP2
    obtain ⟨g, cap, rfl, hg⟩ := hT.form (by rintro rfl; simp at hvl)
    obtain ⟨m0, m1, m2, m3, m4, m5, m6, m7, m8, m9, mf⟩ := hP.thirteen
    have cS := hT.cell var hvl
    have fS := hT.fz var
    have cW := hT.cell (n + xx) hnx
    rw [unhide Hr] at cW
    have hvi : (var : Int) < (σ.length : Int) := by omega
    have hwl : (n : Int) + (xx : Int) < (σ.length : Int) := by omega
    have hwr : IntKind.i64.wrap ((n : Int) + (xx : Int)) = (n : Int) + (xx : Int) := by rw [IntKind.wrap_i64]; omega
    have hp0 : (0 : Int) ≤ (n : Int) + (xx : Int) := by omega
    have hp2 : ((n : Int) + (xx : Int)).toNat = n + xx := by omega
    have cW5 : ∀ r', (w2.setCell ⟨g, var, none⟩ (.int .i64 r')).cell? ⟨g, n + xx, none⟩ = some (.int .i64 r) := fun r' => by
      have h := (hT.put var r')
      have h' : Sr (w2.setCell ⟨g, var, none⟩ (.int .i64 r')) b (.slice (some ⟨g, 0, none⟩) (σ.set var r').length cap) (σ.set var r') := by rw [List.length_set]; exact h
      have h := h'.cell (n + xx) (by rw [List.length_set]; exact hnx)
      have hne : var ≠ n + xx := by omega
      have e : (σ.set var r').getD (n + xx) 0 = σ.getD (n + xx) 0 := by simp [List.getD, hne]
      rw [e, unhide Hr] at h; exact h
    have hP5 := At.other hP (a := ⟨g, var, none⟩) (.int .i64 r) (by show g ≠ b; omega)
    obtain ⟨t0, t1, t2, t3, t4, t5, t6, t7, t8, t9, tf⟩ := Pl.thirteen hP5
    have hS5' := And.intro t5 (cW5 r)
    have hS3' := And.intro m5 cW
    clear cW5
    go_wp2_with fail
    go_region_held3 (fun w' => w'.cell? ⟨b, 6, none⟩ = some (.slice (some ⟨g, 0, none⟩) σ.length cap) ∧ w'.cell? ⟨g, n + xx, none⟩ = some (.int .i64 r)) (first | assumption | exact hS5' | go_keep) (fail)
    go_wp2_with fail
    go_end0
    exact ⟨rfl, pls_put hP hT hS hg var r, below_put b g var _ hg hB2⟩

set_option maxHeartbeats 2000000 in
theorem plain_store (h : PlS w b (pw W) n m st ks view σ sn tag steps todo) (hW : W ≤ 8) (t : ByteArray) (h0 : 0 < t.size) (h1 : 1 < t.size) (h2 : 2 < t.size) (ht : (t[0].toNat : Int) = 115) (xx yy : Nat)
    (hx0 : 48 ≤ (t[1].toNat : Int)) (hxc : 97 ≤ (t[1].toNat : Int) → ((t[1].toNat : Int) - 97).toNat < σ.length) (hy0 : 48 ≤ (t[2].toNat : Int)) (hyc : 97 ≤ (t[2].toNat : Int) → ((t[2].toNat : Int) - 97).toNat < σ.length)
    (hxx : vb (pw W) σ t[1].toNat = xx) (hx1 : (xx : Int) < pw W) (hyy : vb (pw W) σ t[2].toNat = yy) (hsl : sn.length ≤ 90000) (hv0 : 0 ≤ view) (hv1 : view ≤ 8) (hnm : n + m = σ.length) (hlen : σ.length ≤ 100) :
    Calls Tryz.prog 73 #[.pointer (some ⟨b, 0, none⟩), .string t] w fun e w' => e = .returned (.tuple #[]) ∧ PlS w' b (pw W) n m st ks view (if (m : Int) ≤ xx then σ else σ.set (n + xx) yy) (sn ++ swB view m xx) (if (m : Int) ≤ xx then 2 else tag) steps todo ∧ Below b w w' := by
  have hpb := pw_bd W hW
  have b1 := t[1].toNat_lt
  have b2 := t[2].toNat_lt
  have HX := hide (rvalue_any h t[1].toNat hx0 (by omega) (by omega) (by omega) hxc)
  rw [hxx] at HX
  have HY := hide (rvalue_any h t[2].toNat hy0 (by omega) (by omega) (by omega) hyc)
  rw [hyy] at HY
  have HT := hide (touch_any h hsl xx (by omega) (by omega) hv0 hv1 (by omega))
  have hn : n ≤ 100 := by omega
  have hnx : ¬ (m : Int) ≤ xx → n + xx < σ.length := by omega
  have HN := hide hnx
  clear hxx hxc hx0 hyy hyc hy0 b1 b2 hnx
  generalize hV : pw W = V at *
  have HV := hide hV
  clear hV hnm
  by_cases hm : (m : Int) ≤ xx
  · rw [if_pos hm] at HT ⊢
    rw [if_pos hm] at HT ⊢
    clear h
    go_enter Tryz.func73, Tryz.ntmps73
    go_wp2_with fail
    refine (unhide HX).mono ?_
    rintro e w' ⟨rfl, rfl⟩
    go_wp2_with fail
    refine (unhide HY).mono ?_
    rintro e w' ⟨rfl, rfl⟩
    go_wp2_with fail
    refine (unhide HT).mono ?_
    rintro e w2 ⟨rfl, hP2, hB2⟩
    go_wp2_with fail
    go_end0
    exact ⟨rfl, hP2, hB2⟩
  · rw [if_neg hm] at HT ⊢
    rw [if_neg hm] at HT ⊢
    clear h
    have hnx := unhide HN hm
    clear hm
    go_enter Tryz.func73, Tryz.ntmps73
    go_wp2_with fail
    refine (unhide HX).mono ?_
    rintro e w' ⟨rfl, rfl⟩
    go_wp2_with fail
    refine (unhide HY).mono ?_
    rintro e w' ⟨rfl, rfl⟩
    go_wp2_with fail
    refine (unhide HT).mono ?_
    rintro e w2 ⟨rfl, hP2, hB2⟩
    obtain ⟨stv, snv, hP, hT, hS⟩ := hP2
    obtain ⟨g, cap, rfl, hg⟩ := hT.form (by rintro rfl; simp at hnx)
    obtain ⟨m0, m1, m2, m3, m4, m5, m6, m7, m8, m9, mf⟩ := hP.thirteen
    have fS := hT.fz (n + xx)
    have cW := hT.cell (n + xx) hnx
    generalize σ.getD (n + xx) 0 = r at *
    have hwl : (n : Int) + (xx : Int) < (σ.length : Int) := by omega
    have hwr : IntKind.i64.wrap ((n : Int) + (xx : Int)) = (n : Int) + (xx : Int) := by rw [IntKind.wrap_i64]; omega
    have hp0 : (0 : Int) ≤ (n : Int) + (xx : Int) := by omega
    have hp2 : ((n : Int) + (xx : Int)).toNat = n + xx := by omega
    go_wp2_with fail
    go_end0
    exact ⟨rfl, pls_put hP hT hS hg (n + xx) yy, hB2.setCell (Nat.le_of_lt hg) _⟩
end
end Go.Proofs.YtfolokhilkffcaaGreat
