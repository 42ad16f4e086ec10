/-
  The document's side: shape, Check.
-/
import Derived.Test.YtfolokhilkffcaaGreatRef3
namespace Go.Proofs.YtfolokhilkffcaaGreat
open Go.RowKit

/-- A text against a form: none: it fits; else how far it fits. -/
def shL (n : Int) : List UInt8 → List UInt8 → Option Nat
  | [], form => if form = [66] ∨ form = [67] then none else some 0
  | c :: t, form => match nxtL c.toNat n form with
    | none => some 0
    | some f => (shL n t f).map (· + 1)

theorem nxtL_len (c n : Int) : ∀ (l l' : List UInt8), nxtL c n l = some l' → l'.length ≤ l.length + 7
  | [], l', h => by simp [nxtL] at h
  | x :: rest, l', h => by
    have ho := opS_len c
    unfold nxtL at h
    split at h
    · split at h
      · simp only [Option.some.injEq] at h
        subst h
        split <;> simp <;> omega
      · split at h
        · cases h
        · have := nxtL_len c n rest l' h
          simp; omega
    · split at h
      · simp only [Option.some.injEq] at h
        subst h
        simp; omega
      · split at h
        · have := nxtL_len c n rest l' h
          simp; omega
        · cases h

theorem fnd_bd (s : ByteArray) (c : Int) : ∀ f i, -1 ≤ fnd s c f i ∧ fnd s c f i ≤ s.size
  | 0, i => by unfold fnd; omega
  | f + 1, i => by
    unfold fnd
    split
    · split
      · omega
      · exact fnd_bd s c f (i + 1)
    · omega

/-- The number of variables, as the document's shape reckons it. -/
def nvar (s : ByteArray) : Int := fnd s 47 s.size 0 - 1

def ansI (r : Option Nat) : Int := match r with
  | none => -1
  | some k => k

theorem toList_data' (s : ByteArray) : s.toList = s.data.toList := ByteArray.toList_eq s

set_option maxHeartbeats 4000000 in
theorem shape_any (s fm : ByteArray) (hs : s.size ≤ 1000) (hf : fm.size ≤ 100) (w : World) :
    Calls Tryz.prog 19 #[.string s, .string fm] w fun e w' => e = .returned (.int .i64 (ansI (shL (nvar s) s.data.toList fm.data.toList))) ∧ w' = w := by
  have hmx : s.size ≤ maxLen := by unfold maxLen; omega
  have hnb := fnd_bd s 47 s.size 0
  have hnv : nvar s = fnd s 47 s.size 0 - 1 := rfl
  generalize hq : fnd s 47 s.size 0 = q at *
  have Hq := hide hq
  generalize hn : nvar s = n at *
  have Hnv := hide hnv
  clear hq hn hnv
  generalize hr : shL n s.data.toList fm.data.toList = r
  have Hr := hide hr
  clear hr
  go_enter Tryz.func19, Tryz.ntmps19
  go_wp2_with fail
  refine (find_any s hmx 47 w).mono ?_
  rintro e w' ⟨rfl, rfl⟩
  rw [unhide Hq]
  go_wp2_with fail
  rw [← unhide Hnv]
  have hnb2 : -2 ≤ n ∧ n ≤ 1000 := by have := unhide Hnv; omega
  go_loop [1, 6] (fun fs i => ∃ (k : Nat) (f : ByteArray), i = .int .i64 k ∧ fs = .string f ∧ k ≤ s.size ∧ f.size ≤ 100 + 7 * k ∧ Hid (r = (shL n (s.data.toList.drop k) f.data.toList).map (· + k))) (fun _ i => s.size - (intOf i).toNat)
  case atStart => exact ⟨0, fm, rfl, rfl, Nat.zero_le _, by omega, by rw [← unhide Hr]; simp [Hid]⟩
  case round =>
    obtain ⟨k, f, rfl, rfl, hk, hfs, HK⟩ := hrel
    by_cases hlt : k < s.size
    · have hx := s[k].toNat_lt
      have hd := drop_at s k hlt
      have hst := unhide HK
      rw [hd, shL] at hst
      have Hst := hide hst
      clear hst hd HK
      generalize hnx : nxtL s[k].toNat n f.data.toList = nx at *
      have Hnx := hide hnx
      clear hnx
      go_wp2_with fail
      refine (next_any f (by omega) _ n (by omega) (by omega) _).mono ?_
      rintro e w'' ⟨⟨t, ok, rfl, ht⟩, rfl⟩
      rw [unhide Hnx] at ht
      cases ok with
      | true =>
        have hl := nxtL_len _ _ _ _ ((unhide Hnx).trans ht)
        have hl2 : t.size ≤ f.size + 7 := by simpa using hl
        rw [if_pos rfl] at ht
        have hfin : r = (shL n (s.data.toList.drop (k + 1)) t.data.toList).map (· + (k + 1)) := by
          have := unhide Hst
          rw [ht] at this
          rw [this]
          simp [Option.map_map]
          congr 1
          funext a
          simp; omega
        have Hfin := hide hfin
        clear hfin ht hl
        go_wp2_with fail
        go_round
        case rel => exact ⟨k + 1, t, by go_num, rfl, by omega, by omega, Hfin⟩
        case measure => simp [intOf]; omega
      | false =>
        rw [if_neg (by simp)] at ht
        have hfin : r = some k := by
          have := unhide Hst
          rw [ht] at this
          rw [this]; simp
        have Hfin := hide hfin
        clear hfin ht
        go_wp2_with fail
        go_ret
        exact ⟨ret_int (by rw [unhide Hfin]; rfl), rfl⟩
    · have hst := unhide HK
      rw [List.drop_of_length_le (by simp; omega), shL] at hst
      have Hst := hide hst
      clear hst HK
      obtain rfl : k = s.size := by omega
      cases b66 : (f.toList == [66]) with
      | true =>
        have hfin : r = none := by
          have e : f.data.toList = [66] := by rw [← toList_data']; exact eq_of_beq b66
          rw [unhide Hst, if_pos (.inl e)]; rfl
        have Hfin := hide hfin
        clear hfin
        go_wp2_with fail
        go_ret
        exact ⟨ret_int (by rw [unhide Hfin]; rfl), rfl⟩
      | false =>
        cases b67 : (f.toList == [67]) with
        | true =>
          have hfin : r = none := by
            have e : f.data.toList = [67] := by rw [← toList_data']; exact eq_of_beq b67
            rw [unhide Hst, if_pos (.inr e)]; rfl
          have Hfin := hide hfin
          clear hfin
          go_wp2_with fail
          go_ret
          exact ⟨ret_int (by rw [unhide Hfin]; rfl), rfl⟩
        | false =>
          have hfin : r = some s.size := by
            have e1 : f.data.toList ≠ [66] := by rw [← toList_data']; exact ne_of_beq_false b66
            have e2 : f.data.toList ≠ [67] := by rw [← toList_data']; exact ne_of_beq_false b67
            rw [unhide Hst, if_neg (by rintro (e | e); exact e1 e; exact e2 e)]; simp
          have Hfin := hide hfin
          clear hfin
          go_wp2_with fail
          go_ret
          exact ⟨ret_int (by rw [unhide Hfin]; rfl), rfl⟩

/-- The form of kernels. -/
def kernF : List UInt8 := [87, 107, 75, 75, 75, 75, 75, 75, 75, 47, 75, 75, 75, 75, 75, 75, 75, 75, 75, 75, 75, 75, 75, 75, 75, 75, 58, 66]

/-- What the document's Check answers. -/
def rchk (s : ByteArray) : Int × Int := if 300 < s.size then (1, 0) else match shL (nvar s) s.data.toList kernF with
  | none => (0, 0)
  | some k => (2, k)

set_option maxHeartbeats 1000000 in
theorem refCheck_any (s : ByteArray) (hmx : s.size ≤ maxLen) (w : World) :
    Calls Tryz.prog 9 #[.string s] w fun e w' => e = .returned (.tuple #[.int .i64 (rchk s).1, .int .i64 (rchk s).2]) ∧ w' = w := by
  unfold maxLen at hmx
  generalize hr : rchk s = r
  have Hr := hide hr
  clear hr
  by_cases hbig : 300 < s.size
  · have hfin : r = (1, 0) := by rw [← unhide Hr, rchk, if_pos hbig]
    have Hfin := hide hfin
    clear hfin
    go_enter Tryz.func9, Tryz.ntmps9
    go_wp2_with fail
    go_ret2
    exact ⟨by rw [unhide Hfin]; rfl, rfl⟩
  · have hsm : s.size ≤ 1000 := by omega
    have hfin : r = match shL (nvar s) s.data.toList kernF with | none => ((0 : Int), (0 : Int)) | some k => (2, (k : Int)) := by rw [← unhide Hr, rchk, if_neg hbig]
    have Hfin := hide hfin
    clear hfin Hr
    generalize hq : shL (nvar s) s.data.toList kernF = q at *
    have Hq := hide hq
    clear hq
    cases q with
    | none =>
      go_enter Tryz.func9, Tryz.ntmps9
      go_wp2_with fail
      refine (shape_any s ⟨kernF.toArray⟩ hsm (by decide) w).mono ?_
      rintro e w' ⟨rfl, rfl⟩
      rw [show shL (nvar s) s.data.toList (ByteArray.data ⟨kernF.toArray⟩).toList = none from unhide Hq]
      rw [show ansI none = -1 from rfl]
      go_wp2_with fail
      go_ret2
      exact ⟨by rw [unhide Hfin]; rfl, rfl⟩
    | some k =>
      go_enter Tryz.func9, Tryz.ntmps9
      go_wp2_with fail
      refine (shape_any s ⟨kernF.toArray⟩ hsm (by decide) w).mono ?_
      rintro e w' ⟨rfl, rfl⟩
      rw [show shL (nvar s) s.data.toList (ByteArray.data ⟨kernF.toArray⟩).toList = some k from unhide Hq]
      rw [show ansI (some k) = (k : Int) from rfl]
      go_wp2_with fail
      go_ret2
      exact ⟨by rw [unhide Hfin]; rfl, rfl⟩
end Go.Proofs.YtfolokhilkffcaaGreat
