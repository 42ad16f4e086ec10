/-
  begin.
-/
import Derived.Test.YtfolokhilkffcaaGreatDoc3
import Derived.Deep.RegionHeld3
import Derived.BigRegion
namespace Go.Proofs.YtfolokhilkffcaaGreat
open Go.RowKit

theorem cell_one_drew (w : World) (t : TypeId) (v : Value) : ∀ j u, [v][j]? = some u → (w.alloc (.cells #[v] t)).drew.cell? ((⟨w.heap.size, 0, none⟩ : Addr).add j) = some u := by
  intro j u hj
  have h := At.cell (At.new w t #[v]) j
  rw [Addr.add_lit, Nat.zero_add]
  show World.cell? _ _ = _
  rw [World.cell?_drew, h]
  simpa using hj

theorem begin_post {w w' : World} {b : Nat} {N : Int} {n m : Nat} {st : Int} {ks : ByteArray} {view : Int} {so : Option Addr} {cap : Nat} {snv : Value} {tag steps : Int} {todo : ByteArray} {σ : List Int} {v' : Value}
    (hP : Pl w b N n m st ks view (.slice so σ.length cap) snv tag steps todo) (hT : Sr w b (.slice so σ.length cap) σ) (z : Int) (o : Obj)
    (h1 : w'.ownsRow (b + 1) 3 1 v' (σ.length + 1) (intsL σ ++ [.int .i64 z])) (h2 : (w.alloc o).drew.grownBy w' (Value.slice so σ.length cap).ownBlock) :
    Pl w' b N n m st ks view (.slice so σ.length cap) snv tag steps todo ∧ Sr w' b v' (σ ++ [z]) ∧ Below b w w' ∧ ∃ g' cap', v' = .slice (some ⟨g', 0, none⟩) (σ.length + 1) cap' := by
  have hb := At.lt hP
  have hown : ∀ k, (Value.slice so σ.length cap).ownBlock = some k → b + 1 ≤ k ∧ k < w.heap.size := World.ownsRow.lt hT
  refine ⟨(At.drew (At.alloc hP o)).grown h2 (fun e => by have := hown b e.symm; omega), ?_, ?_, ?_⟩
  · unfold Sr
    rw [List.length_append]
    have e : intsL (σ ++ [z]) = intsL σ ++ [.int .i64 z] := by simp [intsL]
    rw [e]; exact h1
  · refine (((Below.refl b w).alloc (by omega) o).drew).trans ?_
    exact ⟨h2.os, h2.tape, h2.output, h2.size, fun k hk => h2.block k (by simp; omega) (fun e => by have := hown k e.symm; omega)⟩
  · rcases h1.2 with ⟨_, h3⟩ | ⟨g', cap', cur, h4, _⟩
    · omega
    · exact ⟨g', cap', h4⟩

theorem Sr.shape {w : World} {b : Nat} {stv : Value} {σ : List Int} (h : Sr w b stv σ) : ∃ so cap, stv = .slice so σ.length cap := by
  rcases h.2 with ⟨h', h0⟩ | ⟨g, cap, cur, h', hb, _⟩
  · exact ⟨none, 0, by rw [h', h0]⟩
  · exact ⟨_, cap, h'⟩
theorem sr_nil (w : World) (b : Nat) : Sr w b (.slice none 0 0) [] := World.ownsRow_nil _ _ _ _
theorem Pl.setState {w : World} {b : Nat} {N : Int} {n m : Nat} {st : Int} {ks : ByteArray} {view : Int} {stv snv : Value} {tag steps : Int} {todo : ByteArray} (h : Pl w b N n m st ks view stv snv tag steps todo) (v : Value) : Pl (w.setCell ⟨b, 6, none⟩ v) b N n m st ks view v snv tag steps todo := by
  have := At.set h 6 v; simpa [Pl] using this

set_option maxRecDepth 20000 in
set_option maxHeartbeats 2000000 in
theorem begin_any (s : ByteArray) (hs : s.size ≤ 1000) (h : (hdr s).2.1 = false) (view : Int) (ao : Option Addr) (cin : Nat) (zs : List Int) (hl : zs.length ≤ 100) (w : World) (hL : LiesO w ao zs) :
    Calls Tryz.prog 48 #[.string s, .int .i64 view, .slice ao zs.length cin] w fun e w' => ∃ b ks, e = .returned (.pointer (some ⟨b, 0, none⟩)) ∧ w.heap.size ≤ b ∧ PlS w' b (pw (hdr s).2.2.1) (hdr s).2.2.2.1 (hdr s).2.2.2.2 (hdr s).1 ks view zs [] 0 0 ⟨#[]⟩ ∧ Below w.heap.size w w' := by
  have HR := hide (fun w0 => read_any s hs h w0)
  have hn := hdr_vars s
  have hm := hdr_words s
  generalize (hdr s).2.2.1 = W at *
  generalize (hdr s).2.2.2.1 = n at *
  generalize (hdr s).2.2.2.2 = m at *
  generalize (hdr s).1 = st at *
  generalize hV : pw W = V at *
  clear hV h
  go_enter Tryz.func48, Tryz.ntmps48
  go_wp2_with fail
  refine (unhide HR _).mono ?_
  rintro e w1 ⟨ks, rfl, hg1⟩
  have hA := At.new w 90 #[.int .i64 0, .int .i64 0, .int .i64 0, .int .i64 0, .string ⟨#[]⟩, .int .i64 view, .slice none 0 0, .slice none 0 0, .int .i64 0, .int .i64 0, .string ⟨#[]⟩, .int .i64 0, .slice none 0 0]
  have hA1 := hA.grown hg1 (by simp)
  have cf := fun j => hA1.frozen j
  have c0 := hA1.cell 0
  have c1 := hA1.cell 1
  have c2 := hA1.cell 2
  have c3 := hA1.cell 3
  have c4 := hA1.cell 4
  simp at c0 c1 c2 c3 c4
  go_wp2_with fail
  have hP0 : Pl (((((w1.setCell ⟨w.heap.size, 0, none⟩ (.int .i64 V)).setCell ⟨w.heap.size, 1, none⟩ (.int .i64 n)).setCell ⟨w.heap.size, 2, none⟩ (.int .i64 m)).setCell ⟨w.heap.size, 3, none⟩ (.int .i64 st)).setCell ⟨w.heap.size, 4, none⟩ (.string ks)) w.heap.size V n m st ks view (.slice none 0 0) (.slice none 0 0) 0 0 ⟨#[]⟩ := by
    have := ((((hA1.set 0 (.int .i64 V)).set 1 (.int .i64 n)).set 2 (.int .i64 m)).set 3 (.int .i64 st)).set 4 (.string ks)
    simpa [Pl] using this
  have hB0 : Below w.heap.size w (((((w1.setCell ⟨w.heap.size, 0, none⟩ (.int .i64 V)).setCell ⟨w.heap.size, 1, none⟩ (.int .i64 n)).setCell ⟨w.heap.size, 2, none⟩ (.int .i64 m)).setCell ⟨w.heap.size, 3, none⟩ (.int .i64 st)).setCell ⟨w.heap.size, 4, none⟩ (.string ks)) := by
    have h1 := ((Below.refl w.heap.size w).alloc (Nat.le_refl _) (.cells #[.int .i64 0, .int .i64 0, .int .i64 0, .int .i64 0, .string ⟨#[]⟩, .int .i64 view, .slice none 0 0, .slice none 0 0, .int .i64 0, .int .i64 0, .string ⟨#[]⟩, .int .i64 0, .slice none 0 0] 90)).trans ⟨hg1.os, hg1.tape, hg1.output, hg1.size, fun k hk => hg1.block k (by simp; omega) (by simp)⟩
    exact ((((h1.setCell (Nat.le_refl _) _).setCell (Nat.le_refl _) _).setCell (Nat.le_refl _) _).setCell (Nat.le_refl _) _).setCell (Nat.le_refl _) _
  clear c0 c1 c2 c3 c4 cf hA1 hA hg1
  obtain ⟨i0, hi0, hz0, hz1, hz2⟩ := info_parts Tryz.infoInt
  go_loopw [8] (fun i wr => ∃ (k : Nat) (stv : Value), i = .int .i64 k ∧ k ≤ zs.length ∧ Pl wr w.heap.size V n m st ks view stv (.slice none 0 0) 0 0 ⟨#[]⟩ ∧ Sr wr w.heap.size stv (zs.take k) ∧ Below w.heap.size w wr) (fun i _ => zs.length - (intOf i).toNat)
  case atStart => exact ⟨0, _, rfl, Nat.zero_le _, hP0, sr_nil _ _, hB0⟩
  case round =>
    clear hP0 hB0
    obtain ⟨k, stv, rfl, hk, hP, hT, hB⟩ := hrel
    by_cases hlt : k < zs.length
    · rcases hL with hnil | ⟨ab, off, rfl, hLL, hab⟩
      · rw [hnil] at hlt; simp at hlt
      have hc := hLL.at_ k hlt
      rw [← hB.cell (p := ⟨ab, off + k, none⟩) hab] at hc
      have htk : zs.take (k + 1) = zs.take k ++ [zs.getD k 0] := by
        rw [List.take_succ_eq_append_getElem hlt]; simp [List.getD, hlt]
      have hlen : (zs.take k).length = k := by simp; omega
      have Htk := hide htk
      clear htk hLL
      generalize zs.take k = τ at *
      generalize zs.getD k 0 = z at *
      obtain ⟨so, cap, rfl⟩ := hT.shape
      subst hlen
      obtain ⟨m0, m1, m2, m3, m4, m5, m6, m7, m8, m9, mf⟩ := hP.thirteen
      have hlI : (τ.length : Int) < (zs.length : Int) := by omega
      have hw2 : ab ≠ w.heap.size := by omega
      have hbl : w.heap.size < wr.heap.size := At.lt hP
      have hPost := fun v' w' => begin_post (w' := w') (v' := v') hP hT z (.cells #[.int .i64 z] 3)
      have HPost := hide hPost
      clear hPost
      go_wp2_with fail
      go_region_law (refine step_append_mine rfl (.tmp 27) (.tmp 32) 29 rfl 3 i0 (.int .i64 0) 1 8 Tryz.underlying29 hi0 hz0 hz1 hz2 rfl (by decide) (w.heap.size + 1) (.slice so τ.length cap) τ.length (intsL τ) (by simp [Act.eval]) (by exact World.ownsRow.alloc hT _) ⟨wr.heap.size, 0, none⟩ 1 1 [.int .i64 z] (by simp [Act.eval]) rfl (by exact cell_one_drew _ _ _) (by simp [Value.oneCell']) (by unfold maxLen; omega) (by omega) (by simp; omega) ?_; intro v' w' h1 h2; obtain ⟨hP', hT', hB', g', cap', rfl⟩ := unhide HPost _ _ h1 h2; have hc' := hc; rw [← hB'.cell (p := ⟨ab, off + τ.length, none⟩) (by show ab < w.heap.size; exact hab)] at hc'; obtain ⟨q0, q1, q2, q3, q4, q5, q6, q7, q8, q9, qf⟩ := hP'.thirteen; have hB5 : Below w.heap.size wr (w'.setCell ⟨w.heap.size, 6, none⟩ (.slice (some ⟨g', 0, none⟩) (τ.length + 1) cap')) := hB'.setCell (Nat.le_refl _) _; have hc5 := hc; rw [← hB5.cell (p := ⟨ab, off + τ.length, none⟩) (by show ab < w.heap.size; exact hab)] at hc5)
      all_goals
        go_wp2_with fail
        go_roundw
        case rel => exact ⟨τ.length + 1, _, by go_num, by omega, hP'.setState _, by rw [unhide Htk]; exact hT'.set _ (Nat.le_refl _), (hB.trans hB').setCell (Nat.le_refl _) _⟩
        case measure => simp [intOf]; omega
    · have e : k = zs.length := by omega
      subst e
      rw [List.take_length] at hT
      go_wp2_with fail
      go_ret
      exact ⟨_, ks, rfl, Nat.le_refl _, ⟨_, _, hP, hT, World.ownsRow_nil _ _ _ _⟩, hB⟩
end Go.Proofs.YtfolokhilkffcaaGreat
