import Derived.Test.YtnkbfdbbcaffmaaX23KpJ
/-
  trapped, digit, short.
-/
namespace Go.Proofs.Ytnkbfdbbcaffmaa
open Go.RowKit

/-- The bytes of a text, as numbers. -/
def bys (s : ByteArray) : List Int := s.data.toList.map fun b => (b.toNat : Int)
theorem bys_len (s : ByteArray) : (bys s).length = s.size := by rw [size_list]; simp [bys]
theorem bys_at {s : ByteArray} {k : Nat} {c : Int} {t : List Int} (h : (bys s).drop k = c :: t) : ∃ hk : k < s.size, (s[k].toNat : Int) = c ∧ (bys s).drop (k + 1) = t := by
  have hl : k < (bys s).length := by
    have : ((bys s).drop k).length = (c :: t).length := by rw [h]
    simp at this; omega
  have hk : k < s.size := by rw [bys_len] at hl; exact hl
  rw [List.drop_eq_getElem_cons hl] at h
  obtain ⟨h1, h2⟩ := List.cons.inj h
  refine ⟨hk, ?_, h2⟩
  rw [← h1]
  simp [bys]
  rfl
theorem bys_str {l : List Int} (h : ∀ x ∈ l, 48 ≤ x ∧ x ≤ 120) : bys (strOfNums l) = l := by
  unfold bys
  rw [strOfNums_data, List.map_map]
  conv => rhs; rw [← List.map_id l]
  apply List.map_congr_left
  intro x hx
  have := h x hx
  simp only [Function.comp, id]
  rw [ofNat_toNat _ (by omega)]
  omega

set_option maxHeartbeats 2000000 in
theorem trapped_any (sn : List Int) (hb : ∀ x ∈ sn, 48 ≤ x ∧ x ≤ 120) (hsz : sn.length ≤ 1000000) (tag : Int) (h : (sn = [] ∧ tag ≠ 2) ∨ ∃ t c, sn = t ++ [c] ∧ ((c = 111 ∨ c = 120) ↔ tag = 2)) (w : World) :
    Calls Try.prog 11 #[.string (strOfNums sn)] w fun e w' => e = .returned (.bool (tag == 2)) ∧ w' = w := by
  rcases h with ⟨rfl, ht⟩ | ⟨t, c, rfl, hc⟩
  · have ht2 : (tag == 2) = false := by simpa using ht
    rw [ht2]
    have hem0 : (strOfNums []).toList.isEmpty = true := keep_empty rfl
    generalize strOfNums [] = str at *
    clear ht ht2 hb hsz
    go_enter Try.func11, Try.ntmps11
    go_wp2_with fail
    go_ret
    exact ⟨rfl, rfl⟩
  · have hby := bys_str hb
    have hlen : (strOfNums (t ++ [c])).size = t.length + 1 := by rw [strOfNums_size]; simp
    obtain ⟨hk, hlast, _⟩ := bys_at (s := strOfNums (t ++ [c])) (k := t.length) (c := c) (t := []) (by rw [hby]; simp)
    have hem := keep_full (t := strOfNums (t ++ [c])) (by omega)
    simp at hsz
    generalize strOfNums (t ++ [c]) = str at *
    have hidx : (str.size : Int) - 1 = (t.length : Int) := by omega
    have hI : (t.length : Int) < (str.size : Int) := by omega
    have hsz3 : str.size ≤ 1000001 := by omega
    clear hby hb
    have Hc := hide hc
    have Hlen := hide hlen
    clear hc hlen
    by_cases ho : c = 111
    · have e : (tag == 2) = true := by simpa using (unhide Hc).1 (.inl ho)
      rw [e]
      subst ho
      go_enter Try.func11, Try.ntmps11
      go_wp2_with fail
      go_ret
      exact ⟨rfl, rfl⟩
    · by_cases hx : c = 120
      · have e : (tag == 2) = true := by simpa using (unhide Hc).1 (.inr hx)
        rw [e]
        subst hx
        go_enter Try.func11, Try.ntmps11
        go_wp2_with fail
        go_ret
        exact ⟨rfl, rfl⟩
      · have e : (tag == 2) = false := by
          simp
          intro h
          rcases (unhide Hc).2 h with h | h
          · exact ho h
          · exact hx h
        rw [e]
        have ho2 : (c == 111) = false := by simpa using ho
        have hx2 : (c == 120) = false := by simpa using hx
        clear ho hx
        go_enter Try.func11, Try.ntmps11
        go_wp2_with fail
        go_ret
        exact ⟨rfl, rfl⟩

/-- Bytes in a row of its own. -/
def Br8 (w : World) (base : Nat) (v : Value) (l : List Int) : Prop := w.ownsRow base 5 1 v l.length (bytesV l)
theorem Br8.shape {w : World} {b : Nat} {v : Value} {l : List Int} (h : Br8 w b v l) : ∃ so cap, v = .slice so l.length cap := by
  rcases h.2 with ⟨h', h0⟩ | ⟨g, cap, cur, h', hb, _⟩
  · exact ⟨none, 0, by rw [h', h0]⟩
  · exact ⟨_, cap, h'⟩
theorem br8_post {w w' : World} {base : Nat} {v v' : Value} {l : List Int} (ns : List Int) (hI : Br8 w base v l) (h1 : w'.ownsRow base 5 1 v' (l.length + ns.length) (bytesV l ++ bytesV ns)) (h2 : w.grownBy w' v.ownBlock) (hb : base ≤ w.heap.size) (hn : 0 < ns.length) :
    Br8 w' base v' (l ++ ns) ∧ Below base w w' ∧ ∃ g' cap', v' = .slice (some ⟨g', 0, none⟩) (l ++ ns).length cap' := by
  have hown : ∀ k, v.ownBlock = some k → base ≤ k ∧ k < w.heap.size := World.ownsRow.lt hI
  refine ⟨?_, ?_, ?_⟩
  · unfold Br8
    rw [List.length_append]
    have e : bytesV (l ++ ns) = bytesV l ++ bytesV ns := by simp [bytesV]
    rw [e]; exact h1
  · exact ⟨h2.os, h2.tape, h2.output, h2.size, fun k hk => h2.block k (by omega) (fun e => by have := hown k e.symm; omega)⟩
  · rcases h1.2 with ⟨_, h3⟩ | ⟨g', cap', cur, h4, _⟩
    · omega
    · exact ⟨g', cap', by rw [List.length_append]; exact h4⟩
theorem cell_two_drew (w : World) (t : TypeId) (v0 v1 : Value) : ∀ j u, [v0, v1][j]? = some u → (w.alloc (.cells #[v0, v1] t)).drew.cell? ((⟨w.heap.size, 0, none⟩ : Addr).add j) = some u := by
  intro j u hj
  have h := At.cell (At.new w t #[v0, v1]) j
  rw [Addr.add_lit, Nat.zero_add]
  show World.cell? _ _ = _
  rw [World.cell?_drew, h]
  simpa using hj
theorem br8_conv {w : World} {base : Nat} {v : Value} {l : List Int} (h : Br8 w base v l) : (convert 48 9 v).run Try.prog w = .ok (.string (strOfNums l)) w := by
  rcases h.2 with ⟨rfl, h0⟩ | ⟨g, cap, cur, rfl, _, hh, hn, _, hs, ht⟩
  · have : l = [] := List.eq_nil_of_length_eq_zero h0
    subst this
    exact run_convert_bytes_nil (P := Try.prog) w 48 5 Try.underlying48 Try.underlying5 0 0 9 Try.underlying9
  · refine run_convert_bytes_arg (P := Try.prog) w 48 5 Try.underlying48 Try.underlying5 g 0 l.length cap l rfl (fun i hi => ?_) 9 Try.underlying9
    have hc := World.ownsRow.cellAt h i (by omega)
    rw [Nat.zero_add, hc]
    simp [bytesV, List.getD, hi]

theorem Shr.cases_ {l u : List Int} (h : Shr l u) : (l = [] ∧ u = []) ∨ (∃ c t u', l = c :: t ∧ u = c :: u' ∧ c ≠ 109 ∧ c ≠ 118 ∧ c ≠ 120 ∧ Shr t u') ∨ (∃ a b t u', l = 109 :: a :: b :: t ∧ u = 109 :: a :: b :: u' ∧ Shr t u') ∨ (∃ c a b t u', l = c :: a :: b :: t ∧ u = c :: u' ∧ (c = 118 ∨ c = 120) ∧ Shr t u') := by
  obtain ⟨k, h⟩ := h
  cases k with
  | zero => exact .inl h
  | succ k =>
    rcases h with ⟨c, t, u', h1, h2, h3, h4, h5, h6⟩ | ⟨a, b, t, u', h1, h2, h3⟩ | ⟨c, a, b, t, u', h1, h2, h3, h4⟩
    · exact .inr (.inl ⟨c, t, u', h1, h2, h3, h4, h5, k, h6⟩)
    · exact .inr (.inr (.inl ⟨a, b, t, u', h1, h2, k, h3⟩))
    · exact .inr (.inr (.inr ⟨c, a, b, t, u', h1, h2, h3, k, h4⟩))
theorem Shr.end_ {u : List Int} (h : Shr [] u) : u = [] := by
  rcases h.cases_ with ⟨_, h1⟩ | ⟨_, _, _, h1, _⟩ | ⟨_, _, _, _, h1, _⟩ | ⟨_, _, _, _, _, h1, _⟩
  · exact h1
  all_goals cases h1

set_option maxRecDepth 20000 in
set_option maxHeartbeats 4000000 in
theorem short_any (s : ByteArray) (hs : s.size ≤ 1000000) (u : List Int) (h : Shr (bys s) u) (w : World) :
    Calls Try.prog 14 #[.string s] w fun e w' => e = .returned (.string (strOfNums u)) ∧ Below w.heap.size w w' := by
  obtain ⟨i0, hi0, hz0, hz1, hz2⟩ := info_parts Try.infoByte
  have Hs := hide h
  generalize hstr : strOfNums u = str
  have Hstr := hide hstr
  clear h hstr
  go_enter Try.func14, Try.ntmps14
  go_wp2_with fail
  go_loopw [3, 4] (fun out i wr => ∃ (k : Nat) (O U : List Int), i = .int .i64 k ∧ k ≤ s.size ∧ O.length ≤ k ∧ Hid (Br8 wr w.heap.size out O) ∧ Hid (u = O ++ U) ∧ Hid (Shr ((bys s).drop k) U) ∧ Hid (Below w.heap.size w wr)) (fun _ i _ => s.size - (intOf i).toNat)
  case atStart => exact ⟨0, [], u, rfl, Nat.zero_le _, Nat.le_refl _, World.ownsRow_nil _ _ _ _, rfl, unhide Hs, Below.refl _ _⟩
  case round =>
    clear Hs
    obtain ⟨k, O, U, rfl, hk, hOk, hO, hU, hsh, hB⟩ := hrel
    have hbl := (unhide hB).size
    obtain ⟨so, cap, rfl⟩ := (unhide hO).shape
    by_cases hlt : k < s.size
    · have hlI : (k : Int) < (s.size : Int) := by omega
      rcases (unhide hsh).cases_ with ⟨h0, _⟩ | ⟨c, t, U', hd, rfl, hc1, hc2, hc3, hs2⟩ | ⟨a, b, t, U', hd, rfl, hs2⟩ | ⟨c, a, b, t, U', hd, rfl, hc, hs2⟩
      · exfalso
        have : ((bys s).drop k).length = 0 := by rw [h0]; rfl
        simp [bys_len] at this; omega
      · obtain ⟨hk1, hkc, hd1⟩ := bys_at hd
        rw [← hd1] at hs2
        have b1 : (c == 118) = false := by simpa using hc2
        have b2 : (c == 120) = false := by simpa using hc3
        have b3 : (c == 109) = false := by simpa using hc1
        have Hs2 := hide hs2
        clear hd hc1 hc2 hc3 hs2 hsh hd1
        go_wp2_with (at_builtin; refine wpList_append_own _ rfl (.tmp 11) (.tmp 15) 48 rfl w.heap.size 5 i0 (.int .u8 0) 1 1 Try.underlying48 hi0 hz0 hz1 hz2 rfl (by decide) (.slice so O.length cap) O.length (bytesV O) rfl ?hown ⟨wr.heap.size, 0, none⟩ 1 1 [.int .u8 c] rfl rfl ?hcell ?hone ?hmax ?hbyte ?hbase ?hgo)
        case hown => exact World.ownsRow.alloc (unhide hO) _
        case hcell => exact cell_one_new _ _ _
        case hone => simp [Value.oneCell']
        case hmax => unfold maxLen; omega
        case hbyte => omega
        case hbase => simp; omega
        case hgo =>
          intro v' w' h1 h2 _
          have hI0 : Br8 (wr.alloc (.cells #[.int .u8 c] 5)) w.heap.size (.slice so O.length cap) O := World.ownsRow.alloc (unhide hO) _
          obtain ⟨hI1, hB1, g', cap', rfl⟩ := br8_post [c] hI0 h1 h2 (by simp; omega) (by simp)
          have HI1 := hide hI1
          have HB2 := hide (((unhide hB).alloc hbl _).trans hB1)
          clear h1 h2 hI0 hI1 hB1
          go_wp2_with fail
          go_roundw
          case rel => exact ⟨k + 1, O ++ [c], U', by go_num, by omega, by simp; omega, HI1, (by show _ = _; rw [unhide hU]; simp), Hs2, HB2⟩
          case measure => simp [intOf]; omega
      · obtain ⟨hk1, hkc, hd1⟩ := bys_at hd
        obtain ⟨hk2, hka, hd2⟩ := bys_at hd1
        obtain ⟨hk3, hkb, hd3⟩ := bys_at hd2
        rw [← hd3] at hs2
        have Hs2 := hide hs2
        have hjI : (k : Int) + 2 < (s.size : Int) := by omega
        have hjJ : (k : Int) + 1 < (s.size : Int) := by omega
        clear hd hs2 hsh hd1 hd2 hd3
        go_wp2_with (at_builtin; refine wpList_append_own _ rfl (.tmp 11) (.tmp 15) 48 rfl w.heap.size 5 i0 (.int .u8 0) 1 1 Try.underlying48 hi0 hz0 hz1 hz2 rfl (by decide) (.slice so O.length cap) O.length (bytesV O) rfl ?hown ⟨wr.heap.size, 0, none⟩ 1 1 [.int .u8 109] rfl rfl ?hcell ?hone ?hmax ?hbyte ?hbase ?hgo)
        case hown => exact World.ownsRow.alloc (unhide hO) _
        case hcell => exact cell_one_new _ _ _
        case hone => simp [Value.oneCell']
        case hmax => unfold maxLen; omega
        case hbyte => omega
        case hbase => simp; omega
        case hgo =>
          intro v' w' h1 h2 _
          have hI0 : Br8 (wr.alloc (.cells #[.int .u8 109] 5)) w.heap.size (.slice so O.length cap) O := World.ownsRow.alloc (unhide hO) _
          obtain ⟨hI1, hB1, g', cap', rfl⟩ := br8_post [109] hI0 h1 h2 (by simp; omega) (by simp)
          have HI1 := hide hI1
          have HB2 := hide (((unhide hB).alloc hbl _).trans hB1)
          clear h1 h2 hI0 hI1 hB1
          have hlen2 : (O ++ [109]).length ≤ k + 1 := by simp; omega
          have HU2 := hide (show u = (O ++ [109]) ++ (a :: b :: U') by rw [unhide hU]; simp)
          generalize O ++ [109] = O2 at *
          have hbl2 := (unhide HB2).size
          have HPost := hide (fun v2 w2 h1 h2 => br8_post (w := (w'.alloc (.cells #[.int .u8 a, .int .u8 b] 5)).drew) (w' := w2) (v' := v2) [a, b] (World.ownsRow.alloc (unhide HI1) _) h1 h2 (by simp; omega) (by simp))
          have hv1 : IntKind.i64.wrap ((k : Int) + 1) = (k : Int) + 1 := by rw [IntKind.wrap_i64]; omega
          have hv2 : IntKind.i64.wrap ((k : Int) + 2) = (k : Int) + 2 := by rw [IntKind.wrap_i64]; omega
          have hp1 : (0 : Int) ≤ (k : Int) + 1 := by omega
          have hp2 : (0 : Int) ≤ (k : Int) + 2 := by omega
          have ht1 : ((k : Int) + 1).toNat = k + 1 := by omega
          have ht2 : ((k : Int) + 2).toNat = k + 2 := by omega
          go_wp2_with fail
          go_region_law (refine step_append_mine rfl (.tmp 44) (.tmp 53) 48 rfl 5 i0 (.int .u8 0) 1 1 Try.underlying48 hi0 hz0 hz1 hz2 rfl (by decide) w.heap.size (.slice (some ⟨g', 0, none⟩) O2.length cap') O2.length (bytesV O2) (by simp [Act.eval]) (by exact World.ownsRow.alloc (unhide HI1) _) ⟨w'.heap.size, 0, none⟩ 2 2 [.int .u8 a, .int .u8 b] (by simp [Act.eval]) rfl (by exact cell_two_drew _ _ _ _) (by simp [Value.oneCell']) (by unfold maxLen; omega) (by omega) (by simp; omega) ?_; intro v2 w2 h1 h2; obtain ⟨hI3, hB3, g3, cap3, rfl⟩ := unhide HPost _ _ h1 h2)
          all_goals
            have HI3 := hide hI3
            have HB3 := hide ((((unhide HB2).alloc hbl2 _).drew).trans hB3)
            clear h1 h2 hI3 hB3
            go_wp2_with fail
            go_roundw
            case rel => exact ⟨k + 3, O2 ++ [a, b], U', by go_num, by omega, by simp; omega, (by have h := HI3; rw [List.length_append] at h; exact h), (by show _ = _; rw [unhide HU2]; simp), Hs2, HB3⟩
            case measure => simp [intOf]; omega
      · obtain ⟨hk1, hkc, hd1⟩ := bys_at hd
        obtain ⟨hk2, hka, hd2⟩ := bys_at hd1
        obtain ⟨hk3, hkb, hd3⟩ := bys_at hd2
        rw [← hd3] at hs2
        have Hs2 := hide hs2
        clear hd hs2 hsh hd1 hd2 hd3 hka hkb
        rcases hc with rfl | rfl
        · go_wp2_with (at_builtin; refine wpList_append_own _ rfl (.tmp 11) (.tmp 15) 48 rfl w.heap.size 5 i0 (.int .u8 0) 1 1 Try.underlying48 hi0 hz0 hz1 hz2 rfl (by decide) (.slice so O.length cap) O.length (bytesV O) rfl ?hown ⟨wr.heap.size, 0, none⟩ 1 1 [.int .u8 118] rfl rfl ?hcell ?hone ?hmax ?hbyte ?hbase ?hgo)
          case hown => exact World.ownsRow.alloc (unhide hO) _
          case hcell => exact cell_one_new _ _ _
          case hone => simp [Value.oneCell']
          case hmax => unfold maxLen; omega
          case hbyte => omega
          case hbase => simp; omega
          case hgo =>
            intro v' w' h1 h2 _
            have hI0 : Br8 (wr.alloc (.cells #[.int .u8 118] 5)) w.heap.size (.slice so O.length cap) O := World.ownsRow.alloc (unhide hO) _
            obtain ⟨hI1, hB1, g', cap', rfl⟩ := br8_post [118] hI0 h1 h2 (by simp; omega) (by simp)
            have HI1 := hide hI1
            have HB2 := hide (((unhide hB).alloc hbl _).trans hB1)
            clear h1 h2 hI0 hI1 hB1
            go_wp2_with fail
            go_roundw
            case rel => exact ⟨k + 3, O ++ [118], U', by go_num, by omega, by simp; omega, HI1, (by show _ = _; rw [unhide hU]; simp), Hs2, HB2⟩
            case measure => simp [intOf]; omega
        · go_wp2_with (at_builtin; refine wpList_append_own _ rfl (.tmp 11) (.tmp 15) 48 rfl w.heap.size 5 i0 (.int .u8 0) 1 1 Try.underlying48 hi0 hz0 hz1 hz2 rfl (by decide) (.slice so O.length cap) O.length (bytesV O) rfl ?hown ⟨wr.heap.size, 0, none⟩ 1 1 [.int .u8 120] rfl rfl ?hcell ?hone ?hmax ?hbyte ?hbase ?hgo)
          case hown => exact World.ownsRow.alloc (unhide hO) _
          case hcell => exact cell_one_new _ _ _
          case hone => simp [Value.oneCell']
          case hmax => unfold maxLen; omega
          case hbyte => omega
          case hbase => simp; omega
          case hgo =>
            intro v' w' h1 h2 _
            have hI0 : Br8 (wr.alloc (.cells #[.int .u8 120] 5)) w.heap.size (.slice so O.length cap) O := World.ownsRow.alloc (unhide hO) _
            obtain ⟨hI1, hB1, g', cap', rfl⟩ := br8_post [120] hI0 h1 h2 (by simp; omega) (by simp)
            have HI1 := hide hI1
            have HB2 := hide (((unhide hB).alloc hbl _).trans hB1)
            clear h1 h2 hI0 hI1 hB1
            go_wp2_with fail
            go_roundw
            case rel => exact ⟨k + 3, O ++ [120], U', by go_num, by omega, by simp; omega, HI1, (by show _ = _; rw [unhide hU]; simp), Hs2, HB2⟩
            case measure => simp [intOf]; omega
    · have e : k = s.size := by omega
      subst e
      have hn : U = [] := by
        have h0 : (bys s).drop s.size = [] := by rw [List.drop_eq_nil_iff, bys_len]; exact Nat.le_refl _
        have h1 := unhide hsh
        rw [h0] at h1
        exact h1.end_
      have hu : u = O := by have := unhide hU; rw [hn] at this; simpa using this
      subst hu
      have hcv := br8_conv (unhide hO)
      rw [unhide Hstr] at hcv
      clear hn hU hsh
      go_wp2_with fail
      go_ret
      exact ⟨rfl, unhide hB⟩
end Go.Proofs.Ytnkbfdbbcaffmaa
/-
  digit, halved.
-/
namespace Go.Proofs.Ytnkbfdbbcaffmaa
open Go.RowKit

set_option maxHeartbeats 2000000 in
theorem kdigit_any (a : Int) (h0 : 0 ≤ a) (h1 : a < 16) (w : World) :
    Calls Try.prog 26 #[.int .u8 (hxd a)] w fun e w' => e = .returned (.int .i64 a) ∧ w' = w := by
  have : a = 0 ∨ a = 1 ∨ a = 2 ∨ a = 3 ∨ a = 4 ∨ a = 5 ∨ a = 6 ∨ a = 7 ∨ a = 8 ∨ a = 9 ∨ a = 10 ∨ a = 11 ∨ a = 12 ∨ a = 13 ∨ a = 14 ∨ a = 15 := by omega
  clear h0 h1
  rcases this with rfl | rfl | rfl | rfl | rfl | rfl | rfl | rfl | rfl | rfl | rfl | rfl | rfl | rfl | rfl | rfl
  all_goals
    simp only [hxd]
    go_enter Try.func26, Try.ntmps26
    go_wp2_with fail
    go_ret
    exact ⟨rfl, rfl⟩

theorem hex_at (k : Nat) (h : k < 16) : (((({ data := #[48, 49, 50, 51, 52, 53, 54, 55, 56, 57, 97, 98, 99, 100, 101, 102] } : ByteArray)[k]'h).toNat : Nat) : Int) = hxd k := by
  have : ∀ (k : Nat) (h : k < 16), (((({ data := #[48, 49, 50, 51, 52, 53, 54, 55, 56, 57, 97, 98, 99, 100, 101, 102] } : ByteArray)[k]'h).toNat : Nat) : Int) = hxd k := by decide
  exact this k h

theorem Hv.cases_ {l u : List Int} (h : Hv l u) : (l = [] ∧ u = []) ∨ (∃ c t u', l = c :: t ∧ u = c :: u' ∧ c ≠ 109 ∧ Hv t u') ∨ (∃ a b t u', l = 109 :: hxd a :: hxd b :: t ∧ u = 109 :: hxd ((16 * a + b) / 2 / 16) :: hxd ((16 * a + b) / 2 % 16) :: u' ∧ 0 ≤ a ∧ a < 16 ∧ 0 ≤ b ∧ b < 16 ∧ Hv t u') := by
  obtain ⟨k, h⟩ := h
  cases k with
  | zero => exact .inl h
  | succ k =>
    rcases h with ⟨c, t, u', h1, h2, h3, h4⟩ | ⟨a, b, t, u', h1, h2, h3, h4, h5, h6, h7⟩
    · exact .inr (.inl ⟨c, t, u', h1, h2, h3, k, h4⟩)
    · exact .inr (.inr ⟨a, b, t, u', h1, h2, h3, h4, h5, h6, k, h7⟩)
theorem Hv.end_ {u : List Int} (h : Hv [] u) : u = [] := by
  rcases h.cases_ with ⟨_, h1⟩ | ⟨_, _, _, h1, _⟩ | ⟨_, _, _, _, h1, _⟩
  · exact h1
  all_goals cases h1

set_option maxRecDepth 20000 in
set_option maxHeartbeats 4000000 in
theorem halved_any (s : ByteArray) (hs : s.size ≤ 1000000) (u : List Int) (h : Hv (bys s) u) (w : World) :
    Calls Try.prog 15 #[.string s] w fun e w' => e = .returned (.string (strOfNums u)) ∧ Below w.heap.size w w' := by
  obtain ⟨i0, hi0, hz0, hz1, hz2⟩ := info_parts Try.infoByte
  have Hs := hide h
  generalize hstr : strOfNums u = str
  have Hstr := hide hstr
  clear h hstr
  go_enter Try.func15, Try.ntmps15
  go_wp2_with fail
  go_loopw [3, 4] (fun out i wr => ∃ (k : Nat) (O U : List Int), i = .int .i64 k ∧ k ≤ s.size ∧ O.length ≤ k ∧ Hid (Br8 wr w.heap.size out O) ∧ Hid (u = O ++ U) ∧ Hid (Hv ((bys s).drop k) U) ∧ Hid (Below w.heap.size w wr)) (fun _ i _ => s.size - (intOf i).toNat)
  case atStart => exact ⟨0, [], u, rfl, Nat.zero_le _, Nat.le_refl _, World.ownsRow_nil _ _ _ _, rfl, unhide Hs, Below.refl _ _⟩
  case round =>
    clear Hs
    obtain ⟨k, O, U, rfl, hk, hOk, hO, hU, hsh, hB⟩ := hrel
    have hbl := (unhide hB).size
    obtain ⟨so, cap, rfl⟩ := (unhide hO).shape
    by_cases hlt : k < s.size
    · have hlI : (k : Int) < (s.size : Int) := by omega
      rcases (unhide hsh).cases_ with ⟨h0, _⟩ | ⟨c, t, U', hd, rfl, hc1, hs2⟩ | ⟨a, b, t, U', hd, rfl, ha0, ha1, hb0, hb1, hs2⟩
      · exfalso
        have : ((bys s).drop k).length = 0 := by rw [h0]; rfl
        simp [bys_len] at this; omega
      · obtain ⟨hk1, hkc, hd1⟩ := bys_at hd
        rw [← hd1] at hs2
        have b3 : (c == 109) = false := by simpa using hc1
        have Hs2 := hide hs2
        clear hd hc1 hs2 hsh hd1
        go_wp2_with (at_builtin; refine wpList_append_own _ rfl (.tmp 15) (.tmp 19) 48 rfl w.heap.size 5 i0 (.int .u8 0) 1 1 Try.underlying48 hi0 hz0 hz1 hz2 rfl (by decide) (.slice so O.length cap) O.length (bytesV O) rfl ?hown ⟨wr.heap.size, 0, none⟩ 1 1 [.int .u8 c] rfl rfl ?hcell ?hone ?hmax ?hbyte ?hbase ?hgo)
        case hown => exact World.ownsRow.alloc (unhide hO) _
        case hcell => exact cell_one_new _ _ _
        case hone => simp [Value.oneCell']
        case hmax => unfold maxLen; omega
        case hbyte => omega
        case hbase => simp; omega
        case hgo =>
          intro v' w' h1 h2 _
          have hI0 : Br8 (wr.alloc (.cells #[.int .u8 c] 5)) w.heap.size (.slice so O.length cap) O := World.ownsRow.alloc (unhide hO) _
          obtain ⟨hI1, hB1, g', cap', rfl⟩ := br8_post [c] hI0 h1 h2 (by simp; omega) (by simp)
          have HI1 := hide hI1
          have HB2 := hide (((unhide hB).alloc hbl _).trans hB1)
          clear h1 h2 hI0 hI1 hB1
          go_wp2_with fail
          go_roundw
          case rel => exact ⟨k + 1, O ++ [c], U', by go_num, by omega, by simp; omega, HI1, (by show _ = _; rw [unhide hU]; simp), Hs2, HB2⟩
          case measure => simp [intOf]; omega
      · obtain ⟨hk1, hkc, hd1⟩ := bys_at hd
        obtain ⟨hk2, hka, hd2⟩ := bys_at hd1
        obtain ⟨hk3, hkb, hd3⟩ := bys_at hd2
        rw [← hd3] at hs2
        have Hs2 := hide hs2
        have hjI : (k : Int) + 2 < (s.size : Int) := by omega
        have hjJ : (k : Int) + 1 < (s.size : Int) := by omega
        clear hd hs2 hsh hd1 hd2 hd3
        go_wp2_with (at_builtin; refine wpList_append_own _ rfl (.tmp 15) (.tmp 19) 48 rfl w.heap.size 5 i0 (.int .u8 0) 1 1 Try.underlying48 hi0 hz0 hz1 hz2 rfl (by decide) (.slice so O.length cap) O.length (bytesV O) rfl ?hown ⟨wr.heap.size, 0, none⟩ 1 1 [.int .u8 109] rfl rfl ?hcell ?hone ?hmax ?hbyte ?hbase ?hgo)
        case hown => exact World.ownsRow.alloc (unhide hO) _
        case hcell => exact cell_one_new _ _ _
        case hone => simp [Value.oneCell']
        case hmax => unfold maxLen; omega
        case hbyte => omega
        case hbase => simp; omega
        case hgo =>
          intro v' w' h1 h2 _
          have hI0 : Br8 (wr.alloc (.cells #[.int .u8 109] 5)) w.heap.size (.slice so O.length cap) O := World.ownsRow.alloc (unhide hO) _
          obtain ⟨hI1, hB1, g', cap', rfl⟩ := br8_post [109] hI0 h1 h2 (by simp; omega) (by simp)
          have HI1 := hide hI1
          have HB2 := hide (((unhide hB).alloc hbl _).trans hB1)
          clear h1 h2 hI0 hI1 hB1
          have hlen2 : (O ++ [109]).length ≤ k + 1 := by simp; omega
          have HU2 := hide (show u = (O ++ [109]) ++ (hxd ((16 * a + b) / 2 / 16) :: hxd ((16 * a + b) / 2 % 16) :: U') by rw [unhide hU]; simp)
          generalize O ++ [109] = O2 at *
          have hbl2 := (unhide HB2).size
          have hda := hide (fun w0 => kdigit_any a ha0 ha1 w0)
          have hdb := hide (fun w0 => kdigit_any b hb0 hb1 w0)
          clear hU
          go_wp2_with fail
          refine (unhide hda _).mono ?_
          rintro e w3 ⟨rfl, rfl⟩
          go_wp2_with fail
          refine (unhide hdb _).mono ?_
          rintro e w4 ⟨rfl, rfl⟩
          go_wp2_with fail
          obtain ⟨N, hN⟩ : ∃ N : Nat, (16 * a + b) / 2 = (N : Int) := ⟨((16 * a + b) / 2).toNat, by omega⟩
          rw [hN] at HU2 ⊢
          have hN1 : N < 128 := by omega
          obtain ⟨P, hP⟩ : ∃ P : Nat, (N : Int) / 16 = (P : Int) := ⟨N / 16, by omega⟩
          obtain ⟨Q, hQ⟩ : ∃ Q : Nat, (N : Int) % 16 = (Q : Int) := ⟨N % 16, by omega⟩
          rw [hP, hQ] at HU2
          have hP8 : P < 16 := by omega
          have hQ8 : Q < 16 := by omega
          have hPI : (P : Int) < 16 := by omega
          have hQI : (Q : Int) < 16 := by omega
          have hx1 := hex_at P hP8
          have hx2 := hex_at Q hQ8
          have hq1 : Int.tdiv (N : Int) 16 = (P : Int) := by rw [Int.tdiv_eq_ediv_of_nonneg (by omega)]; exact hP
          have hq2 : Int.tmod (N : Int) 16 = (Q : Int) := by rw [Int.tmod_eq_emod_of_nonneg (by omega)]; exact hQ
          have hr1 : IntKind.i64.wrap (P : Int) = (P : Int) := by rw [IntKind.wrap_i64]; omega
          have hr2 : IntKind.i64.wrap (Q : Int) = (Q : Int) := by rw [IntKind.wrap_i64]; omega
          clear hN ha0 ha1 hb0 hb1 hka hkb hda hdb
          have HPost := hide (fun v2 w2 h1 h2 => br8_post (w := (w4.alloc (.cells #[.int .u8 (hxd P), .int .u8 (hxd Q)] 5)).drew) (w' := w2) (v' := v2) [hxd P, hxd Q] (World.ownsRow.alloc (unhide HI1) _) h1 h2 (by simp; omega) (by simp))
          generalize hxd (P : Int) = ca at *
          generalize hxd (Q : Int) = cb at *
          go_region_law (refine step_append_mine rfl (.tmp 53) (.tmp 62) 48 rfl 5 i0 (.int .u8 0) 1 1 Try.underlying48 hi0 hz0 hz1 hz2 rfl (by decide) w.heap.size (.slice (some ⟨g', 0, none⟩) O2.length cap') O2.length (bytesV O2) (by simp [Act.eval]) (by exact World.ownsRow.alloc (unhide HI1) _) ⟨w4.heap.size, 0, none⟩ 2 2 [.int .u8 ca, .int .u8 cb] (by simp [Act.eval]) rfl (by exact cell_two_drew _ _ _ _) (by simp [Value.oneCell']) (by unfold maxLen; omega) (by omega) (by simp; omega) ?_; intro v2 w2 h1 h2; obtain ⟨hI3, hB3, g3, cap3, rfl⟩ := unhide HPost _ _ h1 h2)
          all_goals
            have HI3 := hide hI3
            have HB3 := hide ((((unhide HB2).alloc hbl2 _).drew).trans hB3)
            clear h1 h2 hI3 hB3
            go_wp2_with fail
            go_roundw
            case rel => exact ⟨k + 3, O2 ++ [ca, cb], U', by go_num, by omega, by simp; omega, (by have h := HI3; rw [List.length_append] at h; exact h), (by show _ = _; rw [unhide HU2]; simp), Hs2, HB3⟩
            case measure => simp [intOf]; omega
    · have e : k = s.size := by omega
      subst e
      have hn : U = [] := by
        have h0 : (bys s).drop s.size = [] := by rw [List.drop_eq_nil_iff, bys_len]; exact Nat.le_refl _
        have h1 := unhide hsh
        rw [h0] at h1
        exact h1.end_
      have hu : u = O := by have := unhide hU; rw [hn] at this; simpa using this
      subst hu
      have hcv := br8_conv (unhide hO)
      rw [unhide Hstr] at hcv
      clear hn hU hsh
      go_wp2_with fail
      go_ret
      exact ⟨rfl, unhide hB⟩
end Go.Proofs.Ytnkbfdbbcaffmaa
