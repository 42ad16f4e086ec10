/-
  shown, shows, starts.
-/
import Derived.Test.YtfolokhilkffcaaKpG
namespace Go.Proofs.Ytfolokhilkffcaa
open Go.RowKit

theorem list_at {b : ByteArray} {l : List UInt8} (h : b.data.toList = l) {k : Nat} {c : UInt8} (hc : l[k]? = some c) : ∃ hk : k < b.size, b[k] = c := by
  have hl : k < l.length := (List.getElem?_eq_some_iff.1 hc).1
  have hk : k < b.size := by rw [size_list, h]; exact hl
  exact ⟨hk, byte_eq hk (by rw [h]; exact hc)⟩

theorem At.four {w : World} {b : Nat} {t : TypeId} {v0 v1 v2 v3 : Value} (h : At w b t #[v0, v1, v2, v3]) : w.cell? ⟨b, 0, none⟩ = some v0 ∧ w.cell? ⟨b, 1, none⟩ = some v1 ∧ w.cell? ⟨b, 2, none⟩ = some v2 ∧ w.cell? ⟨b, 3, none⟩ = some v3 := by
  refine ⟨?_, ?_, ?_, ?_⟩ <;> (rw [h.cell]; rfl)

section
variable {s ks : ByteArray} {W n m : Nat} {zs : List Int} {ao : Option Addr} {cin : Nat} {w : World}

/-- What shown leaves. -/
def Shw (w : World) (r : Int) (e : Ending) (w' : World) : Prop := e = .returned (.int .u8 r) ∧ Below w.heap.size w w'

set_option maxHeartbeats 2000000 in
theorem shown_test (K : KOK s ks W n m) (hz : zs.length = n + m) (hL : LiesO w ao zs) {c : Cm} {B : List UInt8} (hB : Lft s (3 + ks.size) = B) {k x : UInt8} {r : List UInt8} (hb : B = k :: x :: 40 :: r) (hk : (k.toNat : Int) = 63 ∨ (k.toNat : Int) = 33) (hck : c.kind = 63 ∨ c.kind = 33) (hx : OpRel (pw W) n x c.xn c.xv) :
    Calls Try.prog 38 #[.agg #[.string s, .string ks, .int .i64 W, .int .i64 n], .slice ao zs.length cin] w (Shw w (shB zs c)) := by
  have hsh : shB zs c = if vl zs c.xn c.xv.toNat = 0 then 102 else 116 := by
    unfold shB; rw [if_neg (by rcases hck with h | h <;> rw [h] <;> decide), if_neg (by rcases hck with h | h <;> rw [h] <;> decide)]
  rw [hsh, ← hx.val (pw_bd W K.w8).1 zs]
  have hBo := hide (fun w0 => Body_any s ks W n K.size K.long w0)
  have hn8 := K.n8
  have hm16 := K.m16
  have hva := hide (fun w0 (h : LiesO w0 ao zs) => kvalue_any s ks W n K.w1 K.w8 ao cin zs (by omega) x hx.low (hx.high (by omega)) w0 h)
  generalize vb (pw W) zs x.toNat = v at *
  generalize hres : (if v = 0 then (102 : Int) else 116) = res
  have Hres := hide hres
  have HL := hide hL
  have HB := hide (hB.trans hb)
  have hzl : zs.length ≤ 100 := by omega
  clear hsh hL hck hx hres hz hB hb
  rcases hk with hk | hk
  all_goals
    go_enter Try.func38, Try.ntmps38
    go_wp2_with fail
    refine (unhide hBo _).mono ?_
    rintro e w1 ⟨bb, rfl, hbb, hB1⟩
    rw [unhide HB] at hbb
    obtain ⟨g0, f0⟩ := list_at hbb (k := 0) rfl
    obtain ⟨g1, f1⟩ := list_at hbb (k := 1) rfl
    obtain ⟨g2, f2⟩ := list_at hbb (k := 2) rfl
    have hb3 : decide ((bb.size : Int) < 3) = false := by simp; omega
    have f0' : (bb[0].toNat : Int) = k.toNat := by rw [f0]
    have f1' : (bb[1].toNat : Int) = x.toNat := by rw [f1]
    rw [hk] at f0'
    have hL1 := ((unhide HL).grown (gb_alloc (gb_refl w none) (.cells #[.string s, .string ks, .int .i64 W, .int .i64 n] 24))).grown (below_gb hB1)
    have hw1 : w.heap.size < w1.heap.size := by have := hB1.size; simp at this; omega
    have HL1 := hide hL1
    have hA1 := (At.new w 24 #[.string s, .string ks, .int .i64 W, .int .i64 n]).below hB1 (by simp)
    clear hL1 f0 f1 f2 g2 hbb
    have hS1 := hA1.four
    go_wp2_with fail
    go_region_held3 (fun w' => w'.cell? ⟨w.heap.size, 0, none⟩ = some (.string s) ∧ w'.cell? ⟨w.heap.size, 1, none⟩ = some (.string ks) ∧ w'.cell? ⟨w.heap.size, 2, none⟩ = some (.int .i64 W) ∧ w'.cell? ⟨w.heap.size, 3, none⟩ = some (.int .i64 n)) (first | assumption | go_keep)
      ((go_at_call 49; refine (unhide hva _ (LiesO.grown (unhide HL1) (gb_drewN (gb_refl _ none) 1))).mono ?_; rintro e w2 ⟨rfl, hB2⟩; have hA2 := At.below (At.drewN hA1 1) hB2 (by simpa using hw1); have hS2 := hA2.four))
    have hBB := ((Below.refl w.heap.size w).alloc (Nat.le_refl _) (.cells #[.string s, .string ks, .int .i64 W, .int .i64 n] 24)).trans (((hB1.mono (by simp)).drew).trans (hB2.mono (by simp; omega)))
    have HBB := hide hBB
    clear hBB hB1 hB2 hS1 hA1 hA2 hS2
    by_cases hv : v = 0
    · have e : res = 102 := by rw [← unhide Hres, if_pos hv]
      subst hv
      subst e
      go_wp2_with fail
      go_ret
      exact ⟨rfl, unhide HBB⟩
    · have hv2 : (v != 0) = true := by simpa using hv
      have e : res = 116 := by rw [← unhide Hres, if_neg hv]
      subst e
      clear hv
      go_wp2_with fail
      go_ret
      exact ⟨rfl, unhide HBB⟩

set_option maxHeartbeats 2000000 in
theorem shown_mem (K : KOK s ks W n m) {c : Cm} {B : List UInt8} (hB : Lft s (3 + ks.size) = B) {k x y : UInt8} {r : List UInt8} (hb : B = k :: x :: y :: r) (hk : (k.toNat : Int) = 108 ∨ (k.toNat : Int) = 115) (hck : c.kind = 108 ∨ c.kind = 115) :
    Calls Try.prog 38 #[.agg #[.string s, .string ks, .int .i64 W, .int .i64 n], .slice ao zs.length cin] w (Shw w (shB zs c)) := by
  have hsh : shB zs c = 109 := by
    unfold shB; rw [if_neg (by rcases hck with h | h <;> rw [h] <;> decide), if_pos hck]
  rw [hsh]
  have hBo := hide (fun w0 => Body_any s ks W n K.size K.long w0)
  have HB := hide (hB.trans hb)
  clear hsh hck hB hb
  rcases hk with hk | hk
  all_goals
    go_enter Try.func38, Try.ntmps38
    go_wp2_with fail
    refine (unhide hBo _).mono ?_
    rintro e w1 ⟨bb, rfl, hbb, hB1⟩
    rw [unhide HB] at hbb
    obtain ⟨g0, f0⟩ := list_at hbb (k := 0) rfl
    obtain ⟨g2, f2⟩ := list_at hbb (k := 2) rfl
    have hb3 : decide ((bb.size : Int) < 3) = false := by simp; omega
    have f0' : (bb[0].toNat : Int) = k.toNat := by rw [f0]
    rw [hk] at f0'
    clear f0 f2 g2 hbb
    go_wp2_with fail
    go_ret
    exact ⟨rfl, ((Below.refl w.heap.size w).alloc (Nat.le_refl _) _).trans (hB1.mono (by simp))⟩

set_option maxHeartbeats 2000000 in
theorem shown_set (K : KOK s ks W n m) (hz : zs.length = n + m) (hL : LiesO w ao zs) {c : Cm} {B : List UInt8} (hB : Lft s (3 + ks.size) = B) {v x o y : UInt8} {r : List UInt8} (hb : B = 61 :: v :: x :: o :: y :: r) (hck : c.kind = 61) (ho : (o.toNat : Int) = c.op) (hy : OpRel (pw W) n y c.yn c.yv) :
    Calls Try.prog 38 #[.agg #[.string s, .string ks, .int .i64 W, .int .i64 n], .slice ao zs.length cin] w (Shw w (shB zs c)) := by
  have hsh : shB zs c = if isDiv o.toNat = true then (if vl zs c.yn c.yv.toNat = 0 then 120 else 118) else 0 := by
    unfold shB; rw [if_pos hck, ho]
  rw [hsh, ← hy.val (pw_bd W K.w8).1 zs]
  have hBo := hide (fun w0 => Body_any s ks W n K.size K.long w0)
  have hn8 := K.n8
  have hm16 := K.m16
  have hva := hide (fun w0 (h : LiesO w0 ao zs) => kvalue_any s ks W n K.w1 K.w8 ao cin zs (by omega) y hy.low (hy.high (by omega)) w0 h)
  generalize vb (pw W) zs y.toNat = v0 at *
  have HL := hide hL
  have HB := hide (hB.trans hb)
  have hzl : zs.length ≤ 100 := by omega
  clear hsh hL hck hy hz hB hb ho
  by_cases hdv : isDiv o.toNat = true
  · rw [if_pos hdv]
    generalize hres : (if v0 = 0 then (120 : Int) else 118) = res
    have Hres := hide hres
    have ho : (o.toNat : Int) = 47 ∨ (o.toNat : Int) = 37 := by simpa [isDiv] using hdv
    clear hres hdv
    rcases ho with ho | ho
    all_goals
      go_enter Try.func38, Try.ntmps38
      go_wp2_with fail
      refine (unhide hBo _).mono ?_
      rintro e w1 ⟨bb, rfl, hbb, hB1⟩
      rw [unhide HB] at hbb
      obtain ⟨g0, f0⟩ := list_at hbb (k := 0) rfl
      obtain ⟨g3, f3⟩ := list_at hbb (k := 3) rfl
      obtain ⟨g4, f4⟩ := list_at hbb (k := 4) rfl
      have hb3 : decide ((bb.size : Int) < 3) = false := by simp; omega
      have hb5 : decide ((bb.size : Int) < 5) = false := by simp; omega
      have f0' : (bb[0].toNat : Int) = 61 := by rw [f0]; rfl
      have f3' : (bb[3].toNat : Int) = o.toNat := by rw [f3]
      have f4' : (bb[4].toNat : Int) = y.toNat := by rw [f4]
      rw [ho] at f3'
      have hL1 := ((unhide HL).grown (gb_alloc (gb_refl w none) (.cells #[.string s, .string ks, .int .i64 W, .int .i64 n] 24))).grown (below_gb hB1)
      have hw1 : w.heap.size < w1.heap.size := by have := hB1.size; simp at this; omega
      have HL1 := hide hL1
      have hA1 := (At.new w 24 #[.string s, .string ks, .int .i64 W, .int .i64 n]).below hB1 (by simp)
      clear hL1 f0 f3 f4 hbb
      have hS1 := hA1.four
      go_wp2_with fail
      go_region_held3 (fun w' => w'.cell? ⟨w.heap.size, 0, none⟩ = some (.string s) ∧ w'.cell? ⟨w.heap.size, 1, none⟩ = some (.string ks) ∧ w'.cell? ⟨w.heap.size, 2, none⟩ = some (.int .i64 W) ∧ w'.cell? ⟨w.heap.size, 3, none⟩ = some (.int .i64 n)) (first | assumption | go_keep)
        ((go_at_call 49; refine (unhide hva _ (LiesO.grown (unhide HL1) (gb_drewN (gb_refl _ none) 1))).mono ?_; rintro e w2 ⟨rfl, hB2⟩; have hA2 := At.below (At.drewN hA1 1) hB2 (by simpa using hw1); have hS2 := hA2.four))
      have hBB := ((Below.refl w.heap.size w).alloc (Nat.le_refl _) (.cells #[.string s, .string ks, .int .i64 W, .int .i64 n] 24)).trans (((hB1.mono (by simp)).drew).trans (hB2.mono (by simp; omega)))
      have HBB := hide hBB
      clear hBB hB1 hB2 hS1 hA1 hA2 hS2
      by_cases hv : v0 = 0
      · have e : res = 120 := by rw [← unhide Hres, if_pos hv]
        subst hv
        subst e
        go_wp2_with fail
        go_ret
        exact ⟨rfl, unhide HBB⟩
      · have hv2 : (v0 == 0) = false := by simpa using hv
        have e : res = 118 := by rw [← unhide Hres, if_neg hv]
        subst e
        go_wp2_with fail
        go_ret
        exact ⟨rfl, unhide HBB⟩
  · rw [if_neg hdv]
    have ho : ((o.toNat : Int) != 47) = true ∧ ((o.toNat : Int) != 37) = true := by
      simp [isDiv] at hdv; simpa using hdv
    obtain ⟨ho1, ho2⟩ := ho
    clear hdv hva HL
    go_enter Try.func38, Try.ntmps38
    go_wp2_with fail
    refine (unhide hBo _).mono ?_
    rintro e w1 ⟨bb, rfl, hbb, hB1⟩
    rw [unhide HB] at hbb
    obtain ⟨g0, f0⟩ := list_at hbb (k := 0) rfl
    obtain ⟨g3, f3⟩ := list_at hbb (k := 3) rfl
    obtain ⟨g4, f4⟩ := list_at hbb (k := 4) rfl
    have hb3 : decide ((bb.size : Int) < 3) = false := by simp; omega
    have hb5 : decide ((bb.size : Int) < 5) = false := by simp; omega
    have f0' : (bb[0].toNat : Int) = 61 := by rw [f0]; rfl
    have f3' : (bb[3].toNat : Int) = o.toNat := by rw [f3]
    clear f0 f3 f4 hbb
    go_wp2_with fail
    go_ret
    exact ⟨rfl, ((Below.refl w.heap.size w).alloc (Nat.le_refl _) _).trans (hB1.mono (by simp))⟩

theorem shown_any (K : KOK s ks W n m) (hz : zs.length = n + m) (hL : LiesO w ao zs) {c : Cm} {a b : List UInt8} (hd : Does (pw W) n c (Lft s (3 + ks.size)) a b) :
    Calls Try.prog 38 #[.agg #[.string s, .string ks, .int .i64 W, .int .i64 n], .slice ao zs.length cin] w (Shw w (shB zs c)) := by
  generalize hB : Lft s (3 + ks.size) = B at hd
  rcases hd with ⟨v, x, o, y, r, rfl, rfl, hk, hv, hx, ho, hy⟩ | ⟨v, x, r, rfl, rfl, hk, hv, hx⟩ | ⟨x, y, r, rfl, rfl, hk, hx, hy⟩ | ⟨x, A, C, r, rfl, rfl, rfl, hk, hx, _, _⟩ | ⟨x, A, r, rfl, rfl, rfl, hk, hx, _⟩
  · exact shown_set K hz hL hB rfl hk ho hy
  · exact shown_mem K hB rfl (.inl rfl) (.inl hk)
  · exact shown_mem K hB rfl (.inr rfl) (.inr hk)
  · exact shown_test K hz hL hB rfl (.inl rfl) (.inl hk) hx
  · exact shown_test K hz hL hB rfl (.inr rfl) (.inr hk) hx
end
end Go.Proofs.Ytfolokhilkffcaa
