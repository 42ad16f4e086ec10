/-
  Rows of numbers; a run of a kernel that was made.
-/
import Derived.Test.YtfolokhilkffcaaKpJ
namespace Go.Proofs.Ytfolokhilkffcaa
open Go.RowKit

theorem Ir.open_ {w : World} {base : Nat} {v : Value} {zs : List Int} (h : Ir w base v zs) (hp : 0 < zs.length) : ∃ g cap, v = .slice (some ⟨g, 0, none⟩) zs.length cap ∧ base ≤ g ∧ g < w.heap.size ∧ Lies w ⟨g, 0, none⟩ zs := by
  rcases h.2 with ⟨_, h0⟩ | ⟨g, cap, cur, h', hb, _⟩
  · omega
  · refine ⟨g, cap, h', hb, (World.ownsRow.lt h g (by rw [h']; rfl)).2, fun j z hj => ?_⟩
    exact World.ownsRow.cells h (g := g) (by rw [h']; rfl) j _ (by simp [intsL, hj])

theorem at_lies {w : World} {g : Nat} {zs : List Int} (h : At w g 3 (intsV zs)) : Lies w ⟨g, 0, none⟩ zs := fun j v hv => by
  rw [Addr.add_lit, Nat.zero_add, h.cell j]
  simp [intsV, hv]

theorem liesO_of {w : World} {g : Nat} {zs : List Int} (h : Lies w ⟨g, 0, none⟩ zs) (hg : g < w.heap.size) : LiesO w (some ⟨g, 0, none⟩) zs := .inr ⟨g, 0, rfl, h, hg⟩

/-- The run of a kernel. -/
def kR (s : ByteArray) (W n m : Nat) (view : Int) (zs : List Int) (fuel : Nat) : Res := runP (pw W) view n m fuel (krn s).cs (fuel + 1) 0 zs [] 0

section
variable {s ks : ByteArray} {W n m : Nat}
theorem KOK.chk (K : KOK s ks W n m) : (chk s).1 = 0 := by
  have := K.size
  unfold Go.Proofs.Ytfolokhilkffcaa.chk
  rw [if_neg (by omega), K.good]
  rfl

theorem KOK.prun (K : KOK s ks W n m) (view : Int) (hv0 : 0 ≤ view) (hv8 : view ≤ 8) (zs : List Int) (hz : zs.length = n + m) (hf : Fits (pw W) zs) (fuel : Nat) (hfu : fuel ≤ 10000) : pRun s view zs fuel = (0, kR s W n m view zs fuel) := by
  have hin : inB (pw W) (n + m) zs = true := by
    simp [inB, okV, hz]
    exact hf
  unfold pRun
  rw [K.wid, K.vars, K.words, K.chk, if_neg (by simp)]
  have hr : rfs (pw W) (n + m) view zs fuel = 0 := by
    unfold rfs
    rw [if_neg (by omega), if_neg (by rw [hin]; simp), if_neg (by omega)]
  rw [hr, if_neg (by simp)]
  simp [kR]

theorem kR_len (view : Int) (zs : List Int) (fuel : Nat) : (kR s W n m view zs fuel).σ.length = zs.length := runP_len _ _ _ _ _ _ _ _ _ _ _

theorem run_ok (K : KOK s ks W n m) (view : Int) (hv0 : 0 ≤ view) (hv8 : view ≤ 8) (zs : List Int) (hz : zs.length = n + m) (hf : Fits (pw W) zs) (fuel : Nat) (hfu : fuel ≤ 10000) (g cap : Nat) (w : World) (hL : Lies w ⟨g, 0, none⟩ zs) (hg : g < w.heap.size) :
    Calls Try.prog 9 #[.string s, .int .i64 view, .slice (some ⟨g, 0, none⟩) zs.length cap, .int .i64 fuel] w fun e w' => ∃ gs, e = .returned (.tuple #[.agg #[.int .i64 (kR s W n m view zs fuel).tag, .int .i64 (kR s W n m view zs fuel).steps, .string (strOfNums (kR s W n m view zs fuel).sn), .slice (some ⟨gs, 0, none⟩) zs.length zs.length], .int .i64 0]) ∧ At w' gs 3 (intsV (kR s W n m view zs fuel).σ) ∧ w.heap.size ≤ gs ∧ Below w.heap.size w w' := by
  have hn1 := K.n1
  have hn8 := K.n8
  have hm16 := K.m16
  have hsz := K.size
  refine (leakRun_any s (by unfold maxLen; omega) view fuel g 0 cap zs (by omega) w hL hg).mono ?_
  rintro e w' ⟨st, he, hst, hB⟩
  rw [K.prun view hv0 hv8 zs hz hf fuel hfu] at he hst
  have hlen := kR_len (s := s) (W := W) (n := n) (m := m) view zs fuel
  rcases hst with ⟨h0, _⟩ | ⟨gs, hst, hA, hgs⟩
  · dsimp only at h0
    rw [h0] at hlen; simp at hlen; omega
  · dsimp only at hst hA
    rw [hlen] at hst
    subst hst
    exact ⟨gs, he, hA, hgs, hB⟩

theorem kR_tag (view : Int) (zs : List Int) (fuel : Nat) : (kR s W n m view zs fuel).tag = 1 ∨ (kR s W n m view zs fuel).tag = 2 ∨ (kR s W n m view zs fuel).tag = 3 := runP_tag _ _ _ _ _ _ _ _ _ _ _
theorem KOK.begun (K : KOK s ks W n m) (view : Int) (zs : List Int) (fuel : Nat) : Starts (pw W) n (Lft s (3 + n + m)) zs fuel (kR s W n m view zs fuel) := K.starts view zs fuel
theorem kR_more (view : Int) (zs : List Int) (f f' : Nat) (h : f ≤ f') : (kR s W n m view zs f).steps ≤ f ∧
    ((kR s W n m view zs f).tag ≠ 3 → kR s W n m view zs f' = kR s W n m view zs f) ∧
    ((kR s W n m view zs f).tag = 3 → (kR s W n m view zs f).steps = f ∧ f ≤ (kR s W n m view zs f').steps ∧ ∃ t, (kR s W n m view zs f').sn = (kR s W n m view zs f).sn ++ t) := by
  have h := runP_more (pw W) view n m (krn s).cs f f' h (f + 1) 0 zs [] 0 (Nat.zero_le _) (by omega)
  rw [show f + 1 + (f' - f) = f' + 1 from by omega] at h
  exact h
end

theorem str_prefix {a b t : List Int} (h : b = a ++ t) : (strOfNums b).extract 0 (strOfNums a).size = strOfNums a ∧ (strOfNums a).size ≤ (strOfNums b).size := by
  subst h
  refine ⟨?_, by simp [strOfNums_size]⟩
  have e : strOfNums (a ++ t) = strOfNums a ++ strOfNums t := by
    apply ByteArray.ext
    simp [strOfNums]
  rw [e]
  apply ByteArray.ext
  apply Array.ext'
  rw [ByteArray.data_extract, ByteArray.data_append]
  simp
  exact List.take_of_length_le (by rw [← size_list]; exact Nat.le_refl _)

/-- What alikeEnds leaves. -/
def Alk (w : World) (c : Prop) (e : Ending) (w' : World) : Prop := ∃ bb, e = .returned (.bool bb) ∧ (c → bb = true) ∧ Below w.heap.size w w'

set_option maxHeartbeats 2000000 in
theorem alike_some (t1 s1 t2 s2 : Int) (str str' : ByteArray) (a1 a2 : Option Addr) (c1 c2 : Nat) (zs ys : List Int) (hle : ys.length = zs.length) (hl : zs.length ≤ 9223372036854775807) (w : World) (h1 : LiesO w a1 zs) (h2 : LiesO w a2 ys) :
    Calls Try.prog 13 #[.agg #[.int .i64 t1, .int .i64 s1, .string str, .slice a1 zs.length c1], .agg #[.int .i64 t2, .int .i64 s2, .string str', .slice a2 zs.length c2]] w (Alk w (t1 = t2 ∧ s1 = s2 ∧ zs = ys)) := by
  have hg := gb_alloc (gb_alloc (gb_refl w none) (.cells #[.int .i64 t1, .int .i64 s1, .string str, .slice a1 zs.length c1] 29)) (.cells #[.int .i64 t2, .int .i64 s2, .string str', .slice a2 zs.length c2] 29)
  have hs := hide (sameInts_gen a1 a2 c1 c2 zs ys hle hl _ (h1.grown hg) (h2.grown hg))
  clear h1 h2
  go_enter Try.func13, Try.ntmps13
  go_wp2_with fail
  refine (unhide hs).mono ?_
  rintro e w1 ⟨bb, rfl, hb, hB⟩
  have r0 := hB.cell (p := ⟨w.heap.size, 0, none⟩) (by simp; omega)
  have r1 := hB.cell (p := ⟨w.heap.size, 1, none⟩) (by simp; omega)
  have r2 := hB.cell (p := ⟨w.heap.size + 1, 0, none⟩) (by simp)
  have r3 := hB.cell (p := ⟨w.heap.size + 1, 1, none⟩) (by simp)
  simp at r0 r1 r2 r3
  have HB := hide ((((Below.refl w.heap.size w).alloc (Nat.le_refl _) (.cells #[.int .i64 t1, .int .i64 s1, .string str, .slice a1 zs.length c1] 29)).alloc (by simp) (.cells #[.int .i64 t2, .int .i64 s2, .string str', .slice a2 zs.length c2] 29)).trans (hB.mono (by simp; omega)))
  have Hb := hide hb
  clear hB hb hg
  cases bb with
  | false =>
    go_wp2_with fail
    go_ret
    exact ⟨false, rfl, fun e => unhide Hb e.2.2, unhide HB⟩
  | true =>
    by_cases ht : t1 = t2
    · subst ht
      by_cases hst : s1 = s2
      · subst hst
        go_wp2_with fail
        go_ret
        exact ⟨true, rfl, fun _ => rfl, unhide HB⟩
      · have hs2 : (s1 == s2) = false := by simpa using hst
        have Hst := hide hst
        clear hst
        go_wp2_with fail
        go_ret
        exact ⟨false, rfl, fun e => absurd e.2.1 (unhide Hst), unhide HB⟩
    · have ht2 : (t1 == t2) = false := by simpa using ht
      have Ht := hide ht
      clear ht
      go_wp2_with fail
      go_ret
      exact ⟨false, rfl, fun e => absurd e.1 (unhide Ht), unhide HB⟩
end Go.Proofs.Ytfolokhilkffcaa
