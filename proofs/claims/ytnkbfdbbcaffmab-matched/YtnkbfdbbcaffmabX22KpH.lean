import Derived.Test.YtnkbfdbbcaffmabX21KpF
/-
  shown, shows, starts.
-/
namespace Go.Proofs.Ytnkbfdbbcaffmab
open Go.RowKit

theorem list_at {b : ByteArray} {l : List UInt8} (h : b.data.toList = l) {k : Nat} {c : UInt8} (hc : l[k]? = some c) : ∃ hk : k < b.size, b[k] = c := by
  have hl : k < l.length := (List.getElem?_eq_some_iff.1 hc).1
  have hk : k < b.size := by rw [size_list, h]; exact hl
  exact ⟨hk, byte_eq hk (by rw [h]; exact hc)⟩

theorem At.four {w : World} {b : Nat} {t : TypeId} {v0 v1 v2 v3 : Value} (h : At w b t #[v0, v1, v2, v3]) : w.cell? ⟨b, 0, none⟩ = some v0 ∧ w.cell? ⟨b, 1, none⟩ = some v1 ∧ w.cell? ⟨b, 2, none⟩ = some v2 ∧ w.cell? ⟨b, 3, none⟩ = some v3 := by
  refine ⟨?_, ?_, ?_, ?_⟩ <;> (rw [h.cell]; rfl)

section
variable {s ks : ByteArray} {W n m : Nat} {zs : List Int} {ao : Option Addr} {cin : Nat} {w : World}

/-- What shown leaves. -/
def Shw (w : World) (r : Int) (e : Ending) (w' : World) : Prop := e = .returned (.int .u8 r) ∧ Below w.heap.size w w'

set_option maxHeartbeats 2000000 in
theorem shown_test (K : KOK s ks W n m) (hz : zs.length = n + m) (hL : LiesO w ao zs) {c : Cm} {B : List UInt8} (hB : Lft s (3 + ks.size) = B) {k x : UInt8} {r : List UInt8} (hb : B = k :: x :: 40 :: r) (hk : (k.toNat : Int) = 63 ∨ (k.toNat : Int) = 33) (hck : c.kind = 63 ∨ c.kind = 33) (hx : OpRel (pw W) n x c.xn c.xv) :
    Calls Try.prog 45 #[.agg #[.string s, .string ks, .int .i64 W, .int .i64 n], .slice ao zs.length cin] w (Shw w (shB zs c)) := by
  have hsh : shB zs c = if vl zs c.xn c.xv.toNat = 0 then 102 else 116 := by
    unfold shB; rw [if_neg (by rcases hck with h | h <;> rw [h] <;> decide), if_neg (by rcases hck with h | h <;> rw [h] <;> decide)]
  rw [hsh, ← hx.val (pw_bd W K.w8).1 zs]
  have hBo := hide (fun w0 => Body_any s ks W n K.size K.long w0)
  have hn8 := K.n8
  have hm16 := K.m16
  have hva := hide (fun w0 (h : LiesO w0 ao zs) => kvalue_any s ks W n K.w1 K.w8 ao cin zs (by omega) x hx.low (hx.high (by omega)) w0 h)
  generalize vb (pw W) zs x.toNat = v at *
  generalize hres : (if v = 0 then (102 : Int) else 116) = res
  have Hres := hide hres
  have HL := hide hL
  have HB := hide (hB.trans hb)
  have hzl : zs.length ≤ 100 := by omega
  clear hsh hL hck hx hres hz hB hb
  rcases hk with hk | hk
  all_goals
    go_enter Try.func45, Try.ntmps45
    go_wp2_with fail
    refine (unhide hBo _).mono ?_
    rintro e w1 ⟨bb, rfl, hbb, hB1⟩
    rw [unhide HB] at hbb
    obtain ⟨g0, f0⟩ := list_at hbb (k := 0) rfl
    obtain ⟨g1, f1⟩ := list_at hbb (k := 1) rfl
    obtain ⟨g2, f2⟩ := list_at hbb (k := 2) rfl
    have hb3 : decide ((bb.size : Int) < 3) = false := by simp; omega
    have f0' : (bb[0].toNat : Int) = k.toNat := by rw [f0]
    have f1' : (bb[1].toNat : Int) = x.toNat := by rw [f1]
    rw [hk] at f0'
    have hL1 := ((unhide HL).grown (gb_alloc (gb_refl w none) (.cells #[.string s, .string ks, .int .i64 W, .int .i64 n] 24))).grown (below_gb hB1)
    have hw1 : w.heap.size < w1.heap.size := by have := hB1.size; simp at this; omega
    have HL1 := hide hL1
    have hA1 := (At.new w 24 #[.string s, .string ks, .int .i64 W, .int .i64 n]).below hB1 (by simp)
    clear hL1 f0 f1 f2 g2 hbb
    have hS1 := hA1.four
    go_wp2_with fail
    go_region_held3 (fun w' => w'.cell? ⟨w.heap.size, 0, none⟩ = some (.string s) ∧ w'.cell? ⟨w.heap.size, 1, none⟩ = some (.string ks) ∧ w'.cell? ⟨w.heap.size, 2, none⟩ = some (.int .i64 W) ∧ w'.cell? ⟨w.heap.size, 3, none⟩ = some (.int .i64 n)) (first | assumption | go_keep)
      ((go_at_call 65; refine (unhide hva _ (LiesO.grown (unhide HL1) (gb_drewN (gb_refl _ none) 1))).mono ?_; rintro e w2 ⟨rfl, hB2⟩; have hA2 := At.below (At.drewN hA1 1) hB2 (by simpa using hw1); have hS2 := hA2.four))
    have hBB := ((Below.refl w.heap.size w).alloc (Nat.le_refl _) (.cells #[.string s, .string ks, .int .i64 W, .int .i64 n] 24)).trans (((hB1.mono (by simp)).drew).trans (hB2.mono (by simp; omega)))
    have HBB := hide hBB
    clear hBB hB1 hB2 hS1 hA1 hA2 hS2
    by_cases hv : v = 0
    · have e : res = 102 := by rw [← unhide Hres, if_pos hv]
      subst hv
      subst e
      go_wp2_with fail
      go_ret
      exact ⟨rfl, unhide HBB⟩
    · have hv2 : (v != 0) = true := by simpa using hv
      have e : res = 116 := by rw [← unhide Hres, if_neg hv]
      subst e
      clear hv
      go_wp2_with fail
      go_ret
      exact ⟨rfl, unhide HBB⟩

set_option maxHeartbeats 2000000 in
theorem shown_mem (K : KOK s ks W n m) {c : Cm} {B : List UInt8} (hB : Lft s (3 + ks.size) = B) {k x y : UInt8} {r : List UInt8} (hb : B = k :: x :: y :: r) (hk : (k.toNat : Int) = 108 ∨ (k.toNat : Int) = 115) (hck : c.kind = 108 ∨ c.kind = 115) :
    Calls Try.prog 45 #[.agg #[.string s, .string ks, .int .i64 W, .int .i64 n], .slice ao zs.length cin] w (Shw w (shB zs c)) := by
  have hsh : shB zs c = 109 := by
    unfold shB; rw [if_neg (by rcases hck with h | h <;> rw [h] <;> decide), if_pos hck]
  rw [hsh]
  have hBo := hide (fun w0 => Body_any s ks W n K.size K.long w0)
  have HB := hide (hB.trans hb)
  clear hsh hck hB hb
  rcases hk with hk | hk
  all_goals
    go_enter Try.func45, Try.ntmps45
    go_wp2_with fail
    refine (unhide hBo _).mono ?_
    rintro e w1 ⟨bb, rfl, hbb, hB1⟩
    rw [unhide HB] at hbb
    obtain ⟨g0, f0⟩ := list_at hbb (k := 0) rfl
    obtain ⟨g2, f2⟩ := list_at hbb (k := 2) rfl
    have hb3 : decide ((bb.size : Int) < 3) = false := by simp; omega
    have f0' : (bb[0].toNat : Int) = k.toNat := by rw [f0]
    rw [hk] at f0'
    clear f0 f2 g2 hbb
    go_wp2_with fail
    go_ret
    exact ⟨rfl, ((Below.refl w.heap.size w).alloc (Nat.le_refl _) _).trans (hB1.mono (by simp))⟩

set_option maxHeartbeats 2000000 in
theorem shown_set (K : KOK s ks W n m) (hz : zs.length = n + m) (hL : LiesO w ao zs) {c : Cm} {B : List UInt8} (hB : Lft s (3 + ks.size) = B) {v x o y : UInt8} {r : List UInt8} (hb : B = 61 :: v :: x :: o :: y :: r) (hck : c.kind = 61) (ho : (o.toNat : Int) = c.op) (hy : OpRel (pw W) n y c.yn c.yv) :
    Calls Try.prog 45 #[.agg #[.string s, .string ks, .int .i64 W, .int .i64 n], .slice ao zs.length cin] w (Shw w (shB zs c)) := by
  have hsh : shB zs c = if isDiv o.toNat = true then (if vl zs c.yn c.yv.toNat = 0 then 120 else 118) else 0 := by
    unfold shB; rw [if_pos hck, ho]
  rw [hsh, ← hy.val (pw_bd W K.w8).1 zs]
  have hBo := hide (fun w0 => Body_any s ks W n K.size K.long w0)
  have hn8 := K.n8
  have hm16 := K.m16
  have hva := hide (fun w0 (h : LiesO w0 ao zs) => kvalue_any s ks W n K.w1 K.w8 ao cin zs (by omega) y hy.low (hy.high (by omega)) w0 h)
  generalize vb (pw W) zs y.toNat = v0 at *
  have HL := hide hL
  have HB := hide (hB.trans hb)
  have hzl : zs.length ≤ 100 := by omega
  clear hsh hL hck hy hz hB hb ho
  by_cases hdv : isDiv o.toNat = true
  · rw [if_pos hdv]
    generalize hres : (if v0 = 0 then (120 : Int) else 118) = res
    have Hres := hide hres
    have ho : (o.toNat : Int) = 47 ∨ (o.toNat : Int) = 37 := by simpa [isDiv] using hdv
    clear hres hdv
    rcases ho with ho | ho
    all_goals
      go_enter Try.func45, Try.ntmps45
      go_wp2_with fail
      refine (unhide hBo _).mono ?_
      rintro e w1 ⟨bb, rfl, hbb, hB1⟩
      rw [unhide HB] at hbb
      obtain ⟨g0, f0⟩ := list_at hbb (k := 0) rfl
      obtain ⟨g3, f3⟩ := list_at hbb (k := 3) rfl
      obtain ⟨g4, f4⟩ := list_at hbb (k := 4) rfl
      have hb3 : decide ((bb.size : Int) < 3) = false := by simp; omega
      have hb5 : decide ((bb.size : Int) < 5) = false := by simp; omega
      have f0' : (bb[0].toNat : Int) = 61 := by rw [f0]; rfl
      have f3' : (bb[3].toNat : Int) = o.toNat := by rw [f3]
      have f4' : (bb[4].toNat : Int) = y.toNat := by rw [f4]
      rw [ho] at f3'
      have hL1 := ((unhide HL).grown (gb_alloc (gb_refl w none) (.cells #[.string s, .string ks, .int .i64 W, .int .i64 n] 24))).grown (below_gb hB1)
      have hw1 : w.heap.size < w1.heap.size := by have := hB1.size; simp at this; omega
      have HL1 := hide hL1
      have hA1 := (At.new w 24 #[.string s, .string ks, .int .i64 W, .int .i64 n]).below hB1 (by simp)
      clear hL1 f0 f3 f4 hbb
      have hS1 := hA1.four
      go_wp2_with fail
      go_region_held3 (fun w' => w'.cell? ⟨w.heap.size, 0, none⟩ = some (.string s) ∧ w'.cell? ⟨w.heap.size, 1, none⟩ = some (.string ks) ∧ w'.cell? ⟨w.heap.size, 2, none⟩ = some (.int .i64 W) ∧ w'.cell? ⟨w.heap.size, 3, none⟩ = some (.int .i64 n)) (first | assumption | go_keep)
        ((go_at_call 65; refine (unhide hva _ (LiesO.grown (unhide HL1) (gb_drewN (gb_refl _ none) 1))).mono ?_; rintro e w2 ⟨rfl, hB2⟩; have hA2 := At.below (At.drewN hA1 1) hB2 (by simpa using hw1); have hS2 := hA2.four))
      have hBB := ((Below.refl w.heap.size w).alloc (Nat.le_refl _) (.cells #[.string s, .string ks, .int .i64 W, .int .i64 n] 24)).trans (((hB1.mono (by simp)).drew).trans (hB2.mono (by simp; omega)))
      have HBB := hide hBB
      clear hBB hB1 hB2 hS1 hA1 hA2 hS2
      by_cases hv : v0 = 0
      · have e : res = 120 := by rw [← unhide Hres, if_pos hv]
        subst hv
        subst e
        go_wp2_with fail
        go_ret
        exact ⟨rfl, unhide HBB⟩
      · have hv2 : (v0 == 0) = false := by simpa using hv
        have e : res = 118 := by rw [← unhide Hres, if_neg hv]
        subst e
        go_wp2_with fail
        go_ret
        exact ⟨rfl, unhide HBB⟩
  · rw [if_neg hdv]
    have ho : ((o.toNat : Int) != 47) = true ∧ ((o.toNat : Int) != 37) = true := by
      simp [isDiv] at hdv; simpa using hdv
    obtain ⟨ho1, ho2⟩ := ho
    clear hdv hva HL
    go_enter Try.func45, Try.ntmps45
    go_wp2_with fail
    refine (unhide hBo _).mono ?_
    rintro e w1 ⟨bb, rfl, hbb, hB1⟩
    rw [unhide HB] at hbb
    obtain ⟨g0, f0⟩ := list_at hbb (k := 0) rfl
    obtain ⟨g3, f3⟩ := list_at hbb (k := 3) rfl
    obtain ⟨g4, f4⟩ := list_at hbb (k := 4) rfl
    have hb3 : decide ((bb.size : Int) < 3) = false := by simp; omega
    have hb5 : decide ((bb.size : Int) < 5) = false := by simp; omega
    have f0' : (bb[0].toNat : Int) = 61 := by rw [f0]; rfl
    have f3' : (bb[3].toNat : Int) = o.toNat := by rw [f3]
    clear f0 f3 f4 hbb
    go_wp2_with fail
    go_ret
    exact ⟨rfl, ((Below.refl w.heap.size w).alloc (Nat.le_refl _) _).trans (hB1.mono (by simp))⟩

theorem shown_any (K : KOK s ks W n m) (hz : zs.length = n + m) (hL : LiesO w ao zs) {c : Cm} {a b : List UInt8} (hd : Does (pw W) n c (Lft s (3 + ks.size)) a b) :
    Calls Try.prog 45 #[.agg #[.string s, .string ks, .int .i64 W, .int .i64 n], .slice ao zs.length cin] w (Shw w (shB zs c)) := by
  generalize hB : Lft s (3 + ks.size) = B at hd
  rcases hd with ⟨v, x, o, y, r, rfl, rfl, hk, hv, hx, ho, hy⟩ | ⟨v, x, r, rfl, rfl, hk, hv, hx⟩ | ⟨x, y, r, rfl, rfl, hk, hx, hy⟩ | ⟨x, A, C, r, rfl, rfl, rfl, hk, hx, _, _⟩ | ⟨x, A, r, rfl, rfl, rfl, hk, hx, _⟩
  · exact shown_set K hz hL hB rfl hk ho hy
  · exact shown_mem K hB rfl (.inl rfl) (.inl hk)
  · exact shown_mem K hB rfl (.inr rfl) (.inr hk)
  · exact shown_test K hz hL hB rfl (.inl rfl) (.inl hk) hx
  · exact shown_test K hz hL hB rfl (.inr rfl) (.inr hk) hx
end
end Go.Proofs.Ytnkbfdbbcaffmab
/-
  shows, starts.
-/
namespace Go.Proofs.Ytnkbfdbbcaffmab
open Go.RowKit

section
variable {s ks : ByteArray} {W n m : Nat} {zs : List Int} {ao : Option Addr} {cin : Nat} {w : World}

theorem shB_bd (zs : List Int) (c : Cm) : shB zs c = 0 ∨ (0 < shB zs c ∧ shB zs c < 256) := by
  unfold shB
  split
  · split
    · split <;> simp
    · simp
  · split
    · simp
    · split <;> simp

set_option maxHeartbeats 2000000 in
theorem shows_any (K : KOK s ks W n m) (hz : zs.length = n + m) (hL : LiesO w ao zs) {c : Cm} {a b : List UInt8} (hd : Does (pw W) n c (Lft s (3 + ks.size)) a b) (seen : ByteArray) (h : shB zs c = 0 ∨ ∃ hs : 0 < seen.size, (seen[0].toNat : Int) = shB zs c) :
    Calls Try.prog 28 #[.agg #[.string s, .string ks, .int .i64 W, .int .i64 n], .string seen, .slice ao zs.length cin] w fun e w' => e = .returned (.bool true) ∧ Below w.heap.size w w' := by
  have hsh := hide (shown_any (cin := cin) K hz (hL.grown (gb_alloc (gb_refl w none) (.cells #[.string s, .string ks, .int .i64 W, .int .i64 n] 24))) hd)
  generalize shB zs c = r at *
  clear hd hL hz
  by_cases h0 : r = 0
  · subst h0
    clear h
    go_enter Try.func28, Try.ntmps28
    go_wp2_with fail
    refine (unhide hsh).mono ?_
    rintro e w1 ⟨rfl, hB1⟩
    go_wp2_with fail
    go_ret
    exact ⟨rfl, ((Below.refl w.heap.size w).alloc (Nat.le_refl _) _).trans (hB1.mono (by simp))⟩
  · have h1 : ∃ hs : 0 < seen.size, (seen[0].toNat : Int) = r := by
      rcases h with h | h
      · exact absurd h h0
      · exact h
    obtain ⟨hs, he⟩ := h1
    have hem := keep_full hs
    have h02 : (r == 0) = false := by simpa using h0
    clear h h0
    go_enter Try.func28, Try.ntmps28
    go_wp2_with fail
    refine (unhide hsh).mono ?_
    rintro e w1 ⟨rfl, hB1⟩
    go_wp2_with fail
    go_ret
    exact ⟨rfl, ((Below.refl w.heap.size w).alloc (Nat.le_refl _) _).trans (hB1.mono (by simp))⟩

theorem seen_first {sn : List Int} {r : Int} (hr : r = 0 ∨ (0 < r ∧ r < 256)) (h : r = 0 ∨ ∃ t, sn = r :: t) : r = 0 ∨ ∃ hs : 0 < (strOfNums sn).size, ((strOfNums sn)[0].toNat : Int) = r := by
  by_cases h0 : r = 0
  · exact .inl h0
  · right
    obtain ⟨t, rfl⟩ : ∃ t, sn = r :: t := by
      rcases h with h | h
      · exact absurd h h0
      · exact h
    have hs : 0 < (strOfNums (r :: t)).size := by rw [strOfNums_size]; simp
    refine ⟨hs, ?_⟩
    have e : (strOfNums (r :: t))[0] = UInt8.ofNat r.toNat := byte_eq hs rfl
    rw [e, ofNat_toNat _ (by omega)]
    omega

set_option maxHeartbeats 4000000 in
theorem starts_any (K : KOK s ks W n m) (hz : zs.length = n + m) (hL : LiesO w ao zs) (fuel : Nat) (R : Res) (hS : Starts (pw W) n (Lft s (3 + n + m)) zs fuel R) (a1 : Option Addr) (c1 : Nat) (hl : R.σ.length = zs.length) (hL1 : LiesO w a1 R.σ) :
    Calls Try.prog 13 #[.agg #[.string s, .string ks, .int .i64 W, .int .i64 n], .agg #[.int .i64 R.tag, .int .i64 R.steps, .string (strOfNums R.sn), .slice a1 zs.length c1], .slice ao zs.length cin, .int .i64 fuel] w fun e w' => e = .returned (.bool true) ∧ Below w.heap.size w w' := by
  have hks : 3 + n + m = 3 + ks.size := by have := K.kinds; omega
  rw [hks] at hS
  have hn8 := K.n8
  have hm16 := K.m16
  have hzl : zs.length ≤ 100 := by omega
  have hBo := hide (fun w0 => Body_any s ks W n K.size K.long w0)
  have hg := gb_alloc (gb_alloc (gb_refl w none) (.cells #[.string s, .string ks, .int .i64 W, .int .i64 n] 24)) (.cells #[.int .i64 R.tag, .int .i64 R.steps, .string (strOfNums R.sn), .slice a1 zs.length c1] 32)
  have HL := hide (hL.grown hg)
  have HL1 := hide (hL1.grown hg)
  have hsame := hide (fun w0 (h1 : LiesO w0 a1 R.σ) (h2 : LiesO w0 ao zs) => by
    have h := sameInts_gen a1 ao c1 cin R.σ zs hl.symm (by omega) w0 h1 h2
    rw [hl] at h; exact h)
  have hshow := hide (fun w0 (h : LiesO w0 ao zs) (c : Cm) (a b : List UInt8) (hd : Does (pw W) n c (Lft s (3 + ks.size)) a b) (seen : ByteArray) h' => shows_any (cin := cin) (w := w0) K hz h hd seen h')
  rcases hS with ⟨hB, rfl⟩ | ⟨hB, rfl, rfl⟩ | ⟨hf, hst, c, a, b, hd, hsn⟩
  · have hem0 : (strOfNums []).toList.isEmpty = true := keep_empty rfl
    dsimp only at *
    generalize strOfNums [] = str at *
    have HB := hide hB
    have hA0 := hide ((At.new (w.alloc (.cells #[.string s, .string ks, .int .i64 W, .int .i64 n] 24)) 32 #[.int .i64 1, .int .i64 0, .string str, .slice a1 zs.length c1]))
    clear hB hg hl hz hL hL1 hshow
    go_enter Try.func13, Try.ntmps13
    go_wp2_with fail
    refine (unhide hBo _).mono ?_
    rintro e w1 ⟨bb, rfl, hbb, hB1⟩
    have hA1 := (unhide hA0).below hB1 (by simp)
    have hw1 : w.heap.size + 2 ≤ w1.heap.size := by have := hB1.size; simp at this; omega
    have HL2 := hide ((unhide HL).grown (below_gb hB1))
    have HL3 := hide ((unhide HL1).grown (below_gb hB1))
    rw [unhide HB] at hbb
    have hem := keep_empty hbb
    obtain ⟨r0, r1, r2, r3⟩ := hA1.four
    simp at r0 r1 r2 r3
    clear hbb hA1
    go_wp2_with fail
    refine (unhide hsame _ (unhide HL3) (unhide HL2)).mono ?_
    rintro e w2 ⟨bv, rfl, hbv, hB2⟩
    have hbv : bv = true := by simpa using hbv
    subst hbv
    have hA2 := ((unhide hA0).below hB1 (by simp)).below hB2 (by simp; omega)
    obtain ⟨q0, q1, q2, q3⟩ := hA2.four
    simp at q0 q1 q2 q3
    clear r0 r1 r2 r3 hA2
    go_wp2_with fail
    go_ret
    exact ⟨rfl, (((Below.refl w.heap.size w).alloc (Nat.le_refl _) _).alloc (by simp) _).trans ((hB1.mono (by simp; omega)).trans (hB2.mono (by omega)))⟩
  · have hem0 : (strOfNums []).toList.isEmpty = true := keep_empty rfl
    dsimp only at *
    generalize strOfNums [] = str at *
    have HB := hide hB
    have hA0 := hide ((At.new (w.alloc (.cells #[.string s, .string ks, .int .i64 W, .int .i64 n] 24)) 32 #[.int .i64 3, .int .i64 0, .string str, .slice a1 zs.length c1]))
    clear hB hg hl hz hL hL1 hshow
    go_enter Try.func13, Try.ntmps13
    go_wp2_with fail
    refine (unhide hBo _).mono ?_
    rintro e w1 ⟨bb, rfl, hbb, hB1⟩
    have hA1 := (unhide hA0).below hB1 (by simp)
    have hw1 : w.heap.size + 2 ≤ w1.heap.size := by have := hB1.size; simp at this; omega
    have HL2 := hide ((unhide HL).grown (below_gb hB1))
    have HL3 := hide ((unhide HL1).grown (below_gb hB1))
    have hem : bb.toList.isEmpty = false := keep_full (by
      rw [size_list, hbb]
      exact List.length_pos_iff.2 (unhide HB))
    obtain ⟨r0, r1, r2, r3⟩ := hA1.four
    simp at r0 r1 r2 r3
    clear hbb hA1
    go_wp2_with fail
    refine (unhide hsame _ (unhide HL3) (unhide HL2)).mono ?_
    rintro e w2 ⟨bv, rfl, hbv, hB2⟩
    have hbv : bv = true := by simpa using hbv
    subst hbv
    have hA2 := ((unhide hA0).below hB1 (by simp)).below hB2 (by simp; omega)
    obtain ⟨q0, q1, q2, q3⟩ := hA2.four
    simp at q0 q1 q2 q3
    clear r0 r1 r2 r3 hA2
    go_wp2_with fail
    go_ret
    exact ⟨rfl, (((Below.refl w.heap.size w).alloc (Nat.le_refl _) _).alloc (by simp) _).trans ((hB1.mono (by simp; omega)).trans (hB2.mono (by omega)))⟩
  · have hfs := seen_first (shB_bd zs c) hsn
    have hpos := hd.pos
    obtain ⟨tag, steps, sn, σ⟩ := R
    dsimp only at *
    generalize strOfNums sn = str at *
    have Hfs := hide hfs
    have hA0 := hide ((At.new (w.alloc (.cells #[.string s, .string ks, .int .i64 W, .int .i64 n] 24)) 32 #[.int .i64 tag, .int .i64 steps, .string str, .slice a1 zs.length c1]))
    have hA00 := hide ((At.new w 24 #[.string s, .string ks, .int .i64 W, .int .i64 n]).alloc (.cells #[.int .i64 tag, .int .i64 steps, .string str, .slice a1 zs.length c1] 32))
    have hf2 : ((fuel : Int) == 0) = false := by simp; omega
    have hst2 : decide ((0 : Int) < (steps : Int)) = true := by simp; omega
    have Hd := hide hd
    clear hg hl hz hL hL1 hsame hfs hsn hd
    go_enter Try.func13, Try.ntmps13
    go_wp2_with fail
    refine (unhide hBo _).mono ?_
    rintro e w1 ⟨bb, rfl, hbb, hB1⟩
    have hA1 := (unhide hA0).below hB1 (by simp)
    have hA11 := (unhide hA00).below hB1 (by simp; omega)
    have hw1 : w.heap.size + 2 ≤ w1.heap.size := by have := hB1.size; simp at this; omega
    have HL2 := hide ((unhide HL).grown (below_gb hB1))
    have hem : bb.toList.isEmpty = false := keep_full (by
      rw [size_list, hbb]; exact hpos)
    obtain ⟨r0, r1, r2, r3⟩ := hA1.four
    obtain ⟨k0, k1, k2, k3⟩ := hA11.four
    simp at r0 r1 r2 r3
    clear hbb hA1 hA11
    go_wp2_with fail
    refine (unhide hshow _ (unhide HL2) c a b (unhide Hd) str (unhide Hfs)).mono ?_
    rintro e w2 ⟨rfl, hB2⟩
    have hA2 := ((unhide hA0).below hB1 (by simp)).below hB2 (by simp; omega)
    obtain ⟨q0, q1, q2, q3⟩ := hA2.four
    simp at q0 q1 q2 q3
    clear r0 r1 r2 r3 hA2
    go_wp2_with fail
    go_ret
    exact ⟨rfl, (((Below.refl w.heap.size w).alloc (Nat.le_refl _) _).alloc (by simp) _).trans ((hB1.mono (by simp; omega)).trans (hB2.mono (by omega)))⟩
end
end Go.Proofs.Ytnkbfdbbcaffmab
