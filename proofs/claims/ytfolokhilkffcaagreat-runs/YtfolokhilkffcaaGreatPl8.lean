/-
  One step of the document's run is one of the command's.
-/
import Derived.Test.YtfolokhilkffcaaGreatPl7
namespace Go.Proofs.YtfolokhilkffcaaGreat
open Go.RowKit

/-- An operand's byte and what was read of it. -/
def OpRel (V : Int) (n : Nat) (c : UInt8) (nm : Bool) (v : Int) : Prop :=
  (nm = true ∧ (c.toNat : Int) = 97 + v ∧ 0 ≤ v ∧ v < n) ∨ (nm = false ∧ 48 ≤ (c.toNat : Int) ∧ (c.toNat : Int) ≤ 57 ∧ v = ((c.toNat : Int) - 48) % V)

theorem OpRel.low {V : Int} {n : Nat} {c : UInt8} {nm : Bool} {v : Int} (h : OpRel V n c nm v) : 48 ≤ (c.toNat : Int) := by
  rcases h with ⟨_, h1, h2, _⟩ | ⟨_, h1, _⟩ <;> omega
theorem OpRel.high {V : Int} {n : Nat} {c : UInt8} {nm : Bool} {v : Int} (h : OpRel V n c nm v) {σ : List Int} (hn : n ≤ σ.length) : 97 ≤ (c.toNat : Int) → ((c.toNat : Int) - 97).toNat < σ.length := by
  intro hc
  rcases h with ⟨_, h1, h2, h3⟩ | ⟨_, h1, h2, _⟩ <;> omega
theorem OpRel.val {V : Int} {n : Nat} {c : UInt8} {nm : Bool} {v : Int} (h : OpRel V n c nm v) (hV : 1 ≤ V) (σ : List Int) : vb V σ c.toNat = vl σ nm v.toNat := by
  unfold vb vl
  rcases h with ⟨rfl, h1, h2, h3⟩ | ⟨rfl, h1, h2, h3⟩
  · rw [if_pos (by omega), if_pos rfl, h1, show (97 + v - 97) = v from by omega]
  · have : 0 ≤ v := by rw [h3]; exact Int.emod_nonneg _ (by omega)
    rw [if_neg (by omega), if_neg (by simp), ← h3]; omega

/-- A command, the text that it stands at, the texts that follow. -/
def Does (V : Int) (n : Nat) (c : Cm) (t a b : List UInt8) : Prop :=
  (∃ (v x o y : UInt8) (r : List UInt8), t = 61 :: v :: x :: o :: y :: r ∧ a = r ∧ c.kind = 61 ∧ (v.toNat : Int) = 97 + c.var ∧ OpRel V n x c.xn c.xv ∧ (o.toNat : Int) = c.op ∧ OpRel V n y c.yn c.yv) ∨
  (∃ (v x : UInt8) (r : List UInt8), t = 108 :: v :: x :: r ∧ a = r ∧ c.kind = 108 ∧ (v.toNat : Int) = 97 + c.var ∧ OpRel V n x c.xn c.xv) ∨
  (∃ (x y : UInt8) (r : List UInt8), t = 115 :: x :: y :: r ∧ a = r ∧ c.kind = 115 ∧ OpRel V n x c.xn c.xv ∧ OpRel V n y c.yn c.yv) ∨
  (∃ (x : UInt8) (A B r : List UInt8), t = 63 :: x :: 40 :: (A ++ 41 :: 40 :: (B ++ 41 :: r)) ∧ a = A ++ r ∧ b = B ++ r ∧ c.kind = 63 ∧ OpRel V n x c.xn c.xv ∧ Bal A ∧ Bal B) ∨
  (∃ (x : UInt8) (A r : List UInt8), t = 33 :: x :: 40 :: (A ++ 41 :: r) ∧ a = A ++ (33 :: x :: 40 :: (A ++ 41 :: r)) ∧ b = r ∧ c.kind = 33 ∧ OpRel V n x c.xn c.xv ∧ Bal A)
section
variable {V : Int} {n : Nat} {c : Cm}
theorem Does.set (v x o y : UInt8) (r tn : List UInt8) (h1 : c.kind = 61) (h2 : (v.toNat : Int) = 97 + c.var) (h3 : OpRel V n x c.xn c.xv) (h4 : (o.toNat : Int) = c.op) (h5 : OpRel V n y c.yn c.yv) : Does V n c (61 :: v :: x :: o :: y :: r) r tn :=
  .inl ⟨v, x, o, y, r, rfl, rfl, h1, h2, h3, h4, h5⟩
theorem Does.load (v x : UInt8) (r tn : List UInt8) (h1 : c.kind = 108) (h2 : (v.toNat : Int) = 97 + c.var) (h3 : OpRel V n x c.xn c.xv) : Does V n c (108 :: v :: x :: r) r tn :=
  .inr (.inl ⟨v, x, r, rfl, rfl, h1, h2, h3⟩)
theorem Does.store (x y : UInt8) (r tn : List UInt8) (h1 : c.kind = 115) (h2 : OpRel V n x c.xn c.xv) (h3 : OpRel V n y c.yn c.yv) : Does V n c (115 :: x :: y :: r) r tn :=
  .inr (.inr (.inl ⟨x, y, r, rfl, rfl, h1, h2, h3⟩))
theorem Does.branch (x : UInt8) (A B r : List UInt8) (h1 : c.kind = 63) (h2 : OpRel V n x c.xn c.xv) (h3 : Bal A) (h4 : Bal B) : Does V n c (63 :: x :: 40 :: (A ++ 41 :: 40 :: (B ++ 41 :: r))) (A ++ r) (B ++ r) :=
  .inr (.inr (.inr (.inl ⟨x, A, B, r, rfl, rfl, rfl, h1, h2, h3, h4⟩)))
theorem Does.loop (x : UInt8) (A r : List UInt8) (h1 : c.kind = 33) (h2 : OpRel V n x c.xn c.xv) (h3 : Bal A) : Does V n c (33 :: x :: 40 :: (A ++ 41 :: r)) (A ++ (33 :: x :: 40 :: (A ++ 41 :: r))) r :=
  .inr (.inr (.inr (.inr ⟨x, A, r, rfl, rfl, rfl, h1, h2, h3⟩)))
end

section
variable {w w' : World} {b : Nat} {W : Nat} {n m : Nat} {st : Int} {ks : ByteArray} {view : Int} {steps : Int} {t : ByteArray} {σ sn : List Int}

/-- What a step leaves. -/
def After (w : World) (b : Nat) (W n m : Nat) (st : Int) (ks : ByteArray) (view : Int) (a : List Int × List Int × Bool × Int) (sn : List Int) (steps : Int) (κ : Int → List UInt8) (w' : World) : Prop :=
  (∃ t', t'.data.toList = κ a.2.2.2 ∧ PlS w' b (pw W) n m st ks view a.1 (sn ++ a.2.1) (if a.2.2.1 = true then 2 else 0) steps t') ∧ Below b w w'

theorem source_does {c : Cm} {κ : Int → List UInt8} {tx ty tn : List UInt8} (hD : Does (pw W) n c tx ty tn) (htx : t.data.toList = tx) (hty : ty = κ c.yes) (htn : tn = κ c.no) (hc : CmOK (pw W) n c)
    (h : PlS w b (pw W) n m st ks view σ sn 0 steps t) (hW : W ≤ 8) (hfit : Fits (pw W) σ) (hnm : n + m = σ.length) (hlen : σ.length ≤ 100) (hsl : sn.length ≤ 90000) (hv0 : 0 ≤ view) (hv1 : view ≤ 8)
    (fuel : Int) (hs0 : 0 ≤ steps) (hs1 : steps < fuel) (hf : fuel ≤ 10000) (hmx : t.size ≤ 1000000) :
    Calls Tryz.prog 49 #[.pointer (some ⟨b, 0, none⟩), .int .i64 fuel] w fun e w' => e = .returned (.tuple #[]) ∧ After w b W n m st ks view (act (pw W) view n m σ c) sn (steps + 1) κ w' := by
  have hn : n ≤ σ.length := by omega
  have hV := (pw_bd W hW).1
  have hV2 := (pw_bd W hW).2
  have bx := vl_bd hfit hc.x hn
  obtain ⟨xx, hxx⟩ : ∃ xx : Nat, vl σ c.xn c.xv.toNat = (xx : Int) := ⟨(vl σ c.xn c.xv.toNat).toNat, by omega⟩
  have hsz := size_list t
  rcases hD with ⟨v, x, o, y, r, rfl, rfl, hk, hv, hx, ho, hy⟩ | ⟨v, x, r, rfl, rfl, hk, hv, hx⟩ | ⟨x, y, r, rfl, rfl, hk, hx, hy⟩ | ⟨x, A, B, r, rfl, rfl, rfl, hk, hx, hA, hB⟩ | ⟨x, A, r, rfl, rfl, rfl, hk, hx, hA⟩
  · have hop := hc.op hk
    have by' := vl_bd hfit (hc.y (.inl hk)) hn
    obtain ⟨yy, hyy⟩ : ∃ yy : Nat, vl σ c.yn c.yv.toNat = (yy : Int) := ⟨(vl σ c.yn c.yv.toNat).toNat, by omega⟩
    have hvar := hc.var (.inl hk)
    have hv0' := hc.v0
    rw [htx] at hsz
    simp only [List.length_cons] at hsz
    have h0 : 0 < t.size := by omega
    have hle := ext_data t 0 5
    rw [htx] at hle
    have hls : (t.extract 0 5).size = 5 := by rw [size_list, hle]; simp
    have hlr : (t.extract 5 t.size).data.toList = ty := by rw [ext_list, htx]; rfl
    have k1 : ((t.extract 0 5)[1]'(by omega)) = v := byte_eq _ (by rw [hle]; rfl)
    have k2 : ((t.extract 0 5)[2]'(by omega)) = x := byte_eq _ (by rw [hle]; rfl)
    have k3 : ((t.extract 0 5)[3]'(by omega)) = o := byte_eq _ (by rw [hle]; rfl)
    have k4 : ((t.extract 0 5)[4]'(by omega)) = y := byte_eq _ (by rw [hle]; rfl)
    have k0 : ((t.extract 0 5)[0]'(by omega)) = 61 := byte_eq _ (by rw [hle]; rfl)
    refine (source_plain (Q := fun w' => ∃ t', t'.data.toList = κ (act (pw W) view n m σ c).2.2.2 ∧ PlS w' b (pw W) n m st ks view (act (pw W) view n m σ c).1 (sn ++ (act (pw W) view n m σ c).2.1) (if (act (pw W) view n m σ c).2.2.1 = true then 2 else 0) (steps + 1) t') h fuel hs0 hs1 hf h0 61 (by rw [byte_eq h0 (c := 61) (by rw [htx]; rfl)]; rfl) rfl rfl 5 rfl (by omega) ?_).mono ?_
    · intro w0 hP0
      refine Calls.mono (plain_set (Q := fun w' => (∃ t', t'.data.toList = κ (act (pw W) view n m σ c).2.2.2 ∧ PlS w' b (pw W) n m st ks view (act (pw W) view n m σ c).1 (sn ++ (act (pw W) view n m σ c).2.1) (if (act (pw W) view n m σ c).2.2.1 = true then 2 else 0) (steps + 1) t') ∧ Below b w0 w') (t.extract 0 5) (by omega) (by rw [k0]; rfl) ?_) (fun e w' h => h)
      have hact : act (pw W) view n m σ c = ((actSet (pw W) view σ c.var.toNat c.xn c.xv.toNat c.op c.yn c.yv.toNat).1, (actSet (pw W) view σ c.var.toNat c.xn c.xv.toNat c.op c.yn c.yv.toNat).2.1, (actSet (pw W) view σ c.var.toNat c.xn c.xv.toNat c.op c.yn c.yv.toNat).2.2, c.yes) := by unfold act; rw [if_pos hk]
      rw [hact]
      unfold actSet
      rw [hxx, hyy]
      have e97 : (((t.extract 0 5)[1]'(by omega)).toNat : Int) = 97 + (c.var.toNat : Nat) := by rw [k1, hv]; omega
      have a1 := hx.low
      have a2 := hx.high hn
      have a3 := hx.val hV σ
      have a4 := hy.low
      have a5 := hy.high hn
      have a6 := hy.val hV σ
      rw [← k2] at a1 a2 a3
      rw [← k4] at a4 a5 a6
      rw [hxx] at a3 bx
      rw [hyy] at a6 by'
      rw [← k3] at ho
      cases hd : isDiv c.op with
      | false =>
        rw [if_neg (by simp)]
        refine (rset_plain hP0 hW (t.extract 0 5) (by omega) (by omega) (by omega) (by omega) c.var.toNat xx yy c.op e97 (by omega) a1 a4 a2 a5 a3 a6 bx.2 by'.2 ho hop hd).mono ?_
        rintro e w' ⟨rfl, hP, hB⟩
        exact ⟨rfl, ⟨_, hlr.trans hty, by simpa using hP⟩, hB⟩
      | true =>
        rw [if_pos rfl]
        by_cases hz : yy = 0
        · rw [if_pos (by omega)]
          refine (rset_trap hP0 hW (t.extract 0 5) (by omega) (by omega) (by omega) xx yy c.op a1 a4 a2 a5 a3 a6 bx.2 by'.2 ho hd hz hsl).mono ?_
          rintro e w' ⟨rfl, hP, hB⟩
          exact ⟨rfl, ⟨_, hlr.trans hty, by simpa using hP⟩, hB⟩
        · rw [if_neg (by omega)]
          refine (rset_div hP0 hW (t.extract 0 5) (by omega) (by omega) (by omega) (by omega) c.var.toNat xx yy c.op e97 (by omega) a1 a4 a2 a5 a3 a6 bx.2 by'.2 ho hop hd hz hsl).mono ?_
          rintro e w' ⟨rfl, hP, hB⟩
          exact ⟨rfl, ⟨_, hlr.trans hty, by simpa using hP⟩, hB⟩
    · rintro e w' ⟨rfl, hQ, hB⟩
      exact ⟨rfl, hQ, hB⟩
  · have hvar := hc.var (.inr hk)
    have hv0' := hc.v0
    rw [htx] at hsz
    simp only [List.length_cons] at hsz
    have h0 : 0 < t.size := by omega
    have hle := ext_data t 0 3
    rw [htx] at hle
    have hls : (t.extract 0 3).size = 3 := by rw [size_list, hle]; simp
    have hlr : (t.extract 3 t.size).data.toList = ty := by rw [ext_list, htx]; rfl
    have k1 : ((t.extract 0 3)[1]'(by omega)) = v := byte_eq _ (by rw [hle]; rfl)
    have k2 : ((t.extract 0 3)[2]'(by omega)) = x := byte_eq _ (by rw [hle]; rfl)
    have k0 : ((t.extract 0 3)[0]'(by omega)) = 108 := byte_eq _ (by rw [hle]; rfl)
    refine (source_plain (Q := fun w' => ∃ t', t'.data.toList = κ (act (pw W) view n m σ c).2.2.2 ∧ PlS w' b (pw W) n m st ks view (act (pw W) view n m σ c).1 (sn ++ (act (pw W) view n m σ c).2.1) (if (act (pw W) view n m σ c).2.2.1 = true then 2 else 0) (steps + 1) t') h fuel hs0 hs1 hf h0 108 (by rw [byte_eq h0 (c := 108) (by rw [htx]; rfl)]; rfl) rfl rfl 3 rfl (by omega) ?_).mono ?_
    · intro w0 hP0
      have e97 : (((t.extract 0 3)[1]'(by omega)).toNat : Int) = 97 + (c.var.toNat : Nat) := by rw [k1, hv]; omega
      have a1 := hx.low
      have a2 := hx.high hn
      have a3 := hx.val hV σ
      rw [← k2] at a1 a2 a3
      rw [hxx] at a3 bx
      refine (plain_load hP0 hW (t.extract 0 3) (by omega) (by omega) (by omega) (by rw [k0]; rfl) c.var.toNat xx e97 hvar a1 a2 a3 bx.2 hsl hv0 hv1 hnm hlen).mono ?_
      rintro e w' ⟨rfl, hP, hB⟩
      refine ⟨rfl, ⟨t.extract 3 t.size, ?_, ?_⟩, hB⟩
      · have hact : (act (pw W) view n m σ c).2.2.2 = c.yes := by
          unfold act; rw [if_neg (by omega), if_pos hk]; split <;> rfl
        rw [hact]; exact hlr.trans hty
      · unfold act
        rw [if_neg (by omega), if_pos hk, hxx]
        by_cases hm : (m : Int) ≤ xx
        · simp only [if_pos hm] at hP ⊢; exact hP
        · simp only [if_neg hm] at hP ⊢; simpa using hP
    · rintro e w' ⟨rfl, hQ, hB⟩
      exact ⟨rfl, hQ, hB⟩
  · have by' := vl_bd hfit (hc.y (.inr hk)) hn
    obtain ⟨yy, hyy⟩ : ∃ yy : Nat, vl σ c.yn c.yv.toNat = (yy : Int) := ⟨(vl σ c.yn c.yv.toNat).toNat, by omega⟩
    rw [htx] at hsz
    simp only [List.length_cons] at hsz
    have h0 : 0 < t.size := by omega
    have hle := ext_data t 0 3
    rw [htx] at hle
    have hls : (t.extract 0 3).size = 3 := by rw [size_list, hle]; simp
    have hlr : (t.extract 3 t.size).data.toList = ty := by rw [ext_list, htx]; rfl
    have k1 : ((t.extract 0 3)[1]'(by omega)) = x := byte_eq _ (by rw [hle]; rfl)
    have k2 : ((t.extract 0 3)[2]'(by omega)) = y := byte_eq _ (by rw [hle]; rfl)
    have k0 : ((t.extract 0 3)[0]'(by omega)) = 115 := byte_eq _ (by rw [hle]; rfl)
    refine (source_plain (Q := fun w' => ∃ t', t'.data.toList = κ (act (pw W) view n m σ c).2.2.2 ∧ PlS w' b (pw W) n m st ks view (act (pw W) view n m σ c).1 (sn ++ (act (pw W) view n m σ c).2.1) (if (act (pw W) view n m σ c).2.2.1 = true then 2 else 0) (steps + 1) t') h fuel hs0 hs1 hf h0 115 (by rw [byte_eq h0 (c := 115) (by rw [htx]; rfl)]; rfl) rfl rfl 3 rfl (by omega) ?_).mono ?_
    · intro w0 hP0
      have a1 := hx.low
      have a2 := hx.high hn
      have a3 := hx.val hV σ
      have a4 := hy.low
      have a5 := hy.high hn
      have a6 := hy.val hV σ
      rw [← k1] at a1 a2 a3
      rw [← k2] at a4 a5 a6
      rw [hxx] at a3 bx
      rw [hyy] at a6
      refine (plain_store hP0 hW (t.extract 0 3) (by omega) (by omega) (by omega) (by rw [k0]; rfl) xx yy a1 a2 a4 a5 a3 bx.2 a6 hsl hv0 hv1 hnm hlen).mono ?_
      rintro e w' ⟨rfl, hP, hB⟩
      refine ⟨rfl, ⟨t.extract 3 t.size, ?_, ?_⟩, hB⟩
      · have hact : (act (pw W) view n m σ c).2.2.2 = c.yes := by
          unfold act; rw [if_neg (by omega), if_neg (by omega), if_pos hk]; split <;> rfl
        rw [hact]; exact hlr.trans hty
      · unfold act
        rw [if_neg (by omega), if_neg (by omega), if_pos hk, hxx, hyy]
        by_cases hm : (m : Int) ≤ xx
        · simp only [if_pos hm] at hP ⊢; exact hP
        · simp only [if_neg hm] at hP ⊢; simpa using hP
    · rintro e w' ⟨rfl, hQ, hB⟩
      exact ⟨rfl, hQ, hB⟩
  · have a3 := hx.val hV σ
    refine (source_branch h fuel hs0 hs1 hf hmx hsl x A B r htx hA hB hx.low (hx.high hn) hV hV2).mono ?_
    rintro e w' ⟨rfl, ⟨t', ht', hP⟩, hB'⟩
    have hact : act (pw W) view n m σ c = (σ, [if vl σ c.xn c.xv.toNat = 0 then 102 else 116], false, if vl σ c.xn c.xv.toNat = 0 then c.no else c.yes) := by
      unfold act; rw [if_neg (by omega), if_neg (by omega), if_neg (by omega)]
    rw [a3] at ht' hP
    refine ⟨rfl, ⟨t', ?_, ?_⟩, hB'⟩
    · rw [hact, ht']
      by_cases hz : vl σ c.xn c.xv.toNat = 0
      · simp only [if_pos hz]; exact htn
      · simp only [if_neg hz]; exact hty
    · rw [hact]; simpa using hP
  · have a3 := hx.val hV σ
    refine (source_loop h fuel hs0 hs1 hf hmx hsl x A tn htx hA hx.low (hx.high hn) hV hV2).mono ?_
    rintro e w' ⟨rfl, ⟨t', ht', hP⟩, hB'⟩
    have hact : act (pw W) view n m σ c = (σ, [if vl σ c.xn c.xv.toNat = 0 then 102 else 116], false, if vl σ c.xn c.xv.toNat = 0 then c.no else c.yes) := by
      unfold act; rw [if_neg (by omega), if_neg (by omega), if_neg (by omega)]
    rw [a3] at ht' hP
    refine ⟨rfl, ⟨t', ?_, ?_⟩, hB'⟩
    · rw [hact, ht']
      by_cases hz : vl σ c.xn c.xv.toNat = 0
      · simp only [if_pos hz]; exact htn
      · simp only [if_neg hz]; exact hty
    · rw [hact]; simpa using hP
end
end Go.Proofs.YtfolokhilkffcaaGreat
