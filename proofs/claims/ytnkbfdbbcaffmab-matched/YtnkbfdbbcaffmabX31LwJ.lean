import Derived.Test.YtnkbfdbbcaffmabX30LwF
/-
  What Lower tells is a code with the kernel's head, whose lines are the kernel's commands. (No walk here.)
-/
namespace Go.Proofs.Ytnkbfdbbcaffmab
open Go.RowKit

section
variable {s t : ByteArray}
theorem tk_congr {p : Nat} {a : Bool} {c : Int} (hk : pk t p false = pk s p false) (hs : p < s.size) (ht : p < t.size) : tk t p a c = tk s p a c := by
  unfold tk
  rw [hk]
  simp only [hs, ht]
theorem pk_congr {p : Nat} {a : Bool} (hk : pk t p false = pk s p false) : pk t p a = pk s p a := by
  cases a with
  | true => rw [pk_bad, pk_bad]
  | false => exact hk
theorem tb_congr {p : Nat} {a : Bool} {lo hi : Int} (hk : pk t p false = pk s p false) (hs : p < s.size) (ht : p < t.size) : tb t p a lo hi = tb s p a lo hi := by
  unfold tb
  rw [pk_congr hk, tk_congr hk hs ht]
theorem cnt_congr : ∀ (f p : Nat), (∀ j, j ≤ cnt s false f p → pk t (p + j) false = pk s (p + j) false) → cnt t false f p = cnt s false f p
  | 0, p, _ => rfl
  | f + 1, p, h => by
    have h0 := h 0 (Nat.zero_le _)
    rw [Nat.add_zero] at h0
    unfold cnt at h ⊢
    rw [h0]
    by_cases hl : pk s p false = 112 ∨ pk s p false = 115
    · rw [if_pos hl] at h ⊢
      rw [if_pos hl, cnt_congr f (p + 1) (fun j hj => by
        have := h (j + 1) (by omega)
        rw [show p + (j + 1) = p + 1 + j from by omega] at this
        exact this)]
    · rw [if_neg hl, if_neg hl]

/-- A head is read alike where it stands alike. -/
theorem hdr_congr (h : (hdr s).2.1 = false) (hk : ∀ j, j < (hdr s).1 → pk t j false = pk s j false) (ht : (hdr s).1 ≤ t.size) : hdr t = hdr s := by
  have hle := hdr_le s
  unfold hdr at h hk ht hle ⊢
  dsimp only at *
  obtain ⟨h1, g1, g2, g3⟩ := tk_good h
  obtain ⟨h2, h3, h4, g4⟩ := tk_good h1
  simp only [Bool.or_eq_false_iff] at h2
  obtain ⟨h5, h6⟩ := h2
  have ht0 : (tb s 0 false 49 56).1 = 1 ∧ 0 < s.size := by
    unfold tb at h5 ⊢
    by_cases hr : 49 ≤ pk s 0 false ∧ pk s 0 false ≤ 56
    · rw [if_pos hr] at h5 ⊢
      dsimp only at *
      have := tk_good h5
      exact ⟨this.2.2.2, this.2.1⟩
    · rw [if_neg hr] at h5
      cases h5
  obtain ⟨q1, q2⟩ := ht0
  have e0 : 0 < t.size → pk t 0 false = pk s 0 false → tb t 0 false 49 56 = tb s 0 false 49 56 := fun a b => tb_congr b q2 a
  generalize tb s 0 false 49 56 = T0 at *
  obtain ⟨p0, b0, z0⟩ := T0
  dsimp only at *
  subst h5 q1
  generalize hn : cnt s false 8 1 = N at *
  generalize hu : tk s (1 + N) (false || N == 0) 47 = U at *
  obtain ⟨u, bu⟩ := U
  dsimp only at *
  subst h1 g4
  generalize hm : cnt s false 16 (1 + N + 1) = M at *
  rw [g3] at hk ht
  have k0 := e0 (by omega) (hk 0 (by omega))
  rw [k0]
  dsimp only
  have e1 : cnt t false 8 1 = N := (cnt_congr (s := s) (t := t) 8 1 (fun j hj => hk (1 + j) (by rw [hn] at hj; omega))).trans hn
  rw [e1]
  have e2 : tk t (1 + N) (false || N == 0) 47 = (1 + N + 1, false) := (tk_congr (hk _ (by omega)) h3 (by omega)).trans hu
  rw [e2]
  dsimp only
  have e3 : cnt t false 16 (1 + N + 1) = M := (cnt_congr (s := s) (t := t) 16 (1 + N + 1) (fun j hj => hk (1 + N + 1 + j) (by rw [hm] at hj; omega))).trans hm
  rw [e3]
  have e4 : tk t (1 + N + 1 + M) false 58 = tk s (1 + N + 1 + M) false 58 := tk_congr (hk _ (by omega)) g1 (by omega)
  rw [e4]
end

/-- The lines of a command, as they are written, with their texts. -/
def u8 (z : Int) : UInt8 := UInt8.ofNat z.toNat
def lnC (ns : List Int) (c : Cm) : Cm :=
  if c.kind = 61 then ⟨61, c.var, c.xn, c.xv, c.op, c.yn, c.yv, 0, 0, 0, 0⟩ else if c.kind = 108 then ⟨108, c.var, c.xn, c.xv, 0, false, 0, 0, 0, 0, 0⟩
  else if c.kind = 115 then ⟨115, 0, c.xn, c.xv, 0, c.yn, c.yv, 0, 0, 0, 0⟩ else ⟨122, 0, c.xn, c.xv, 0, false, 0, 0, ns.getD c.no.toNat 0, 0, 0⟩
def jmC (ns : List Int) (c : Cm) : Cm := ⟨106, 0, false, 0, 0, false, 0, ns.getD c.yes.toNat 0, 0, 0, 0⟩
def prs (ns : List Int) : List Cm → Nat → List (List UInt8 × Cm)
  | [], _ => []
  | c :: r, i => ((lnB ns c).map u8, lnC ns c) :: ((if jmp c i = true then [((jmB ns c i).map u8, jmC ns c)] else []) ++ prs ns r (i + 1))

theorem prs_text (ns : List Int) : ∀ (cs : List Cm) (i : Nat), ((prs ns cs i).map (·.1)).flatten = (codT ns cs i).map u8
  | [], i => rfl
  | c :: r, i => by
    have := prs_text ns r (i + 1)
    unfold prs codT
    by_cases hj : jmp c i = true
    · rw [if_pos hj]
      simp only [List.map_cons, List.flatten_cons, List.cons_append, List.nil_append, List.map_append, this, List.append_assoc]
    · rw [if_neg hj]
      have e : jmB ns c i = [] := by unfold jmB; rw [if_neg hj]
      rw [e]
      simp only [List.map_cons, List.flatten_cons, List.nil_append, List.map_append, this, List.append_nil]

theorem u8_nat {z : Int} (h0 : 0 ≤ z) (h1 : z ≤ 255) : ((u8 z).toNat : Int) = z := by
  unfold u8
  rw [UInt8.toNat_ofNat']
  omega

theorem hxd_hx {z : Int} (h0 : 0 ≤ z) (h1 : z ≤ 15) : IsHx (u8 (hxd z)) z := by
  unfold hxd
  by_cases h : z < 10
  · rw [if_pos h]
    have := u8_nat (z := 48 + z) (by omega) (by omega)
    exact .inl ⟨by omega, by omega, by omega⟩
  · rw [if_neg h]
    have e : (87 + z : Int) = 97 + (z - 10) := by omega
    have := u8_nat (z := 87 + z) (by omega) (by omega)
    exact .inr ⟨by omega, by omega, by omega⟩

theorem opW_rel {V : Int} {n : Nat} {x : UInt8} {nm : Bool} {v : Int} (h : OpRel V n x nm v) (hV : 1 ≤ V) (hn : n ≤ 8) : OpRel V n (u8 (opW nm v)) nm v := by
  have hs := h.small hV hn
  rcases h with ⟨rfl, h1, h2, h3⟩ | ⟨rfl, h1, h2, h3⟩
  · have e : opW true v = 97 + v := rfl
    rw [e]
    exact .inl ⟨rfl, u8_nat (by omega) (by omega), h2, h3⟩
  · have e : opW false v = 48 + v := by
      show hxd v = 48 + v
      unfold hxd; rw [if_pos (by omega)]
    rw [e]
    have := u8_nat (z := 48 + v) (by omega) (by omega)
    refine .inr ⟨rfl, by omega, by omega, ?_⟩
    rw [this, show 48 + v - 48 = v from by omega, Int.emod_eq_of_lt hs.1 (hs.2.2 rfl)]

/-- Commands whose lines can be read back. -/
structure BackOK (V : Int) (n : Nat) (ns : List Int) (c : Cm) : Prop where
  kind : isCmd c.kind = true
  v : c.kind = 61 ∨ c.kind = 108 → 0 ≤ c.var ∧ c.var < n
  x : ∃ x, OpRel V n x c.xn c.xv
  y : c.kind = 61 ∨ c.kind = 115 → ∃ y, OpRel V n y c.yn c.yv
  op : c.kind = 61 → isOp c.op = true
  yes : 0 ≤ ns.getD c.yes.toNat 0 ∧ ns.getD c.yes.toNat 0 ≤ 255
  no : 0 ≤ ns.getD c.no.toNat 0 ∧ ns.getD c.no.toNat 0 ≤ 255

theorem lnC_raw {V : Int} {n : Nat} {ns : List Int} {c : Cm} (h : BackOK V n ns c) (hV : 1 ≤ V) (hn : n ≤ 8) : RawL V n (lnC ns c) ((lnB ns c).map u8) := by
  obtain ⟨kd, hv, ⟨x, hx⟩, hy, hop, _, ⟨z0, z1⟩⟩ := h
  have hx' := opW_rel hx hV hn
  simp [isCmd] at kd
  unfold lnC lnB
  by_cases k1 : c.kind = 61
  · rw [if_pos k1, if_pos k1]
    obtain ⟨y, hy1⟩ := hy (.inl k1)
    have hv1 := hv (.inl k1)
    have ho := hop k1
    have hob : 0 ≤ c.op ∧ c.op ≤ 255 := by simp [isOp] at ho; omega
    exact .inl ⟨u8 (97 + c.var), u8 (opW c.xn c.xv), u8 c.op, u8 (opW c.yn c.yv), rfl, rfl, u8_nat (by omega) (by omega), hv1.1, hv1.2, hx', u8_nat hob.1 hob.2, ho, opW_rel hy1 hV hn⟩
  · rw [if_neg k1, if_neg k1]
    by_cases k2 : c.kind = 108
    · rw [if_pos k2, if_pos k2]
      have hv1 := hv (.inr k2)
      exact .inr (.inl ⟨u8 (97 + c.var), u8 (opW c.xn c.xv), rfl, rfl, u8_nat (by omega) (by omega), hv1.1, hv1.2, hx'⟩)
    · rw [if_neg k2, if_neg k2]
      by_cases k3 : c.kind = 115
      · rw [if_pos k3, if_pos k3]
        obtain ⟨y, hy1⟩ := hy (.inr k3)
        exact .inr (.inr (.inl ⟨u8 (opW c.xn c.xv), u8 (opW c.yn c.yv), rfl, rfl, hx', opW_rel hy1 hV hn⟩))
      · rw [if_neg k3, if_neg k3]
        refine .inr (.inr (.inr (.inl ⟨u8 (opW c.xn c.xv), u8 (hxd (ns.getD c.no.toNat 0 / 16)), u8 (hxd (ns.getD c.no.toNat 0 % 16)), ns.getD c.no.toNat 0 / 16, ns.getD c.no.toNat 0 % 16, rfl, ?_, hx', hxd_hx (by omega) (by omega), hxd_hx (by omega) (by omega)⟩)))
        rw [show ns.getD c.no.toNat 0 / 16 * 16 + ns.getD c.no.toNat 0 % 16 = ns.getD c.no.toNat 0 from by omega]
theorem jmC_raw {V : Int} {n : Nat} {ns : List Int} {c : Cm} {i : Nat} (h : BackOK V n ns c) (hj : jmp c i = true) : RawL V n (jmC ns c) ((jmB ns c i).map u8) := by
  obtain ⟨_, _, _, _, _, ⟨z0, z1⟩, _⟩ := h
  unfold jmC jmB
  rw [if_pos hj]
  refine .inr (.inr (.inr (.inr (.inl ⟨u8 (hxd (ns.getD c.yes.toNat 0 / 16)), u8 (hxd (ns.getD c.yes.toNat 0 % 16)), ns.getD c.yes.toNat 0 / 16, ns.getD c.yes.toNat 0 % 16, rfl, ?_, hxd_hx (by omega) (by omega), hxd_hx (by omega) (by omega)⟩))))
  rw [show ns.getD c.yes.toNat 0 / 16 * 16 + ns.getD c.yes.toNat 0 % 16 = ns.getD c.yes.toNat 0 from by omega]

theorem prs_raw {V : Int} {n : Nat} {ns : List Int} (hV : 1 ≤ V) (hn : n ≤ 8) : ∀ (cs : List Cm) (i : Nat), (∀ c ∈ cs, BackOK V n ns c) → ∀ q ∈ prs ns cs i, RawL V n q.2 q.1
  | [], i, _, q, hq => by simp [prs] at hq
  | c :: r, i, h, q, hq => by
    unfold prs at hq
    rcases List.mem_cons.1 hq with rfl | hq
    · exact lnC_raw (h c (List.mem_cons_self ..)) hV hn
    · rcases List.mem_append.1 hq with hq | hq
      · by_cases hj : jmp c i = true
        · rw [if_pos hj] at hq
          simp at hq
          subst hq
          exact jmC_raw (h c (List.mem_cons_self ..)) hj
        · rw [if_neg hj] at hq; simp at hq
      · exact prs_raw hV hn r (i + 1) (fun c hc => h c (List.mem_cons_of_mem _ hc)) q hq

/-- Where the lines of a command stand. -/
theorem prs_at {ns : List Int} : ∀ (cs : List Cm) (i nx j : Nat) (c : Cm), cs[j]? = some c → ∃ z : Nat, (lno cs i nx)[j]? = some (z : Int) ∧ nx ≤ z ∧ ((prs ns cs i).map (·.2))[z - nx]? = some (lnC ns c) ∧ (jmp c (i + j) = true → ((prs ns cs i).map (·.2))[z - nx + 1]? = some (jmC ns c)) ∧
    (lno cs i nx)[j + 1]? = some ((z + (if jmp c (i + j) = true then 2 else 1) : Nat) : Int)
  | [], i, nx, j, c, h => by simp at h
  | d :: r, i, nx, 0, c, h => by
    simp at h
    subst h
    refine ⟨nx, rfl, Nat.le_refl _, by simp [prs], fun hj => ?_, ?_⟩
    · rw [Nat.add_zero] at hj
      unfold prs
      rw [if_pos hj]
      simp
    · rw [Nat.add_zero]
      simp only [lno, List.getElem?_cons_succ]
      cases r <;> simp [lno]
  | d :: r, i, nx, j + 1, c, h => by
    obtain ⟨z, e1, e2, e3, e4, e5⟩ := prs_at (ns := ns) r (i + 1) (nx + (if jmp d i = true then 2 else 1)) j c (by simpa using h)
    rw [show i + 1 + j = i + (j + 1) from by omega] at e4 e5
    unfold prs
    by_cases hj : jmp d i = true
    · rw [if_pos hj] at e1 e2 e3 e4 e5
      refine ⟨z, by simpa [lno, hj] using e1, by omega, ?_, fun h' => ?_, by simpa [lno, hj] using e5⟩
      · rw [if_pos hj]
        simp only [List.map_cons, List.cons_append, List.nil_append]
        rw [show z - nx = (z - (nx + 2)) + 1 + 1 from by omega, List.getElem?_cons_succ, List.getElem?_cons_succ]
        exact e3
      · rw [if_pos hj]
        simp only [List.map_cons, List.cons_append, List.nil_append]
        rw [show z - nx + 1 = (z - (nx + 2) + 1) + 1 + 1 from by omega, List.getElem?_cons_succ, List.getElem?_cons_succ]
        exact e4 h'
    · rw [if_neg hj] at e1 e2 e3 e4 e5
      refine ⟨z, by simpa [lno, hj] using e1, by omega, ?_, fun h' => ?_, by simpa [lno, hj] using e5⟩
      · rw [if_neg hj]
        simp only [List.map_cons, List.nil_append]
        rw [show z - nx = (z - (nx + 1)) + 1 from by omega, List.getElem?_cons_succ]
        exact e3
      · rw [if_neg hj]
        simp only [List.map_cons, List.nil_append]
        rw [show z - nx + 1 = (z - (nx + 1) + 1) + 1 from by omega, List.getElem?_cons_succ]
        exact e4 h'

theorem prs_cons (ns : List Int) (c : Cm) (r : List Cm) (i : Nat) : prs ns (c :: r) i = ((lnB ns c).map u8, lnC ns c) :: ((if jmp c i = true then [((jmB ns c i).map u8, jmC ns c)] else []) ++ prs ns r (i + 1)) := rfl
theorem prs_len {ns : List Int} : ∀ (cs : List Cm) (i nx : Nat), (lno cs i nx)[cs.length]? = some ((nx + (prs ns cs i).length : Nat) : Int)
  | [], i, nx => by simp [lno, prs]
  | c :: r, i, nx => by
    have := prs_len (ns := ns) r (i + 1) (nx + (if jmp c i = true then 2 else 1))
    simp only [List.length_cons, lno, List.getElem?_cons_succ, this]
    rw [prs_cons]
    by_cases hj : jmp c i = true
    · simp [hj]; omega
    · simp [hj]; omega
end Go.Proofs.Ytnkbfdbbcaffmab
/-
  CheckCode, Exec, Path.
-/
namespace Go.Proofs.Ytnkbfdbbcaffmab
open Go.RowKit

set_option maxHeartbeats 1000000 in
theorem leakExec_any (s : ByteArray) (hmx : s.size ≤ maxLen) (view fuel : Int) (ab ao cin : Nat) (zs : List Int) (hl : zs.length ≤ 9223372036854775807) (w : World) (hL : Lies w ⟨ab, ao, none⟩ zs) (hab : ab < w.heap.size) :
    Calls Try.prog 10 #[.string s, .int .i64 view, .slice (some ⟨ab, ao, none⟩) zs.length cin, .int .i64 fuel] w fun e w' => ∃ st, e = .returned (.tuple #[.agg #[.int .i64 ((codP s).run view zs fuel).2.tag, .int .i64 ((codP s).run view zs fuel).2.steps, .string (strOfNums ((codP s).run view zs fuel).2.sn), st], .int .i64 ((codP s).run view zs fuel).1]) ∧ StV w' w.heap.size st ((codP s).run view zs fuel).2.σ ∧ Below w.heap.size w w' := by
  have hrk := readCode_pg s hmx
  have hok : (codP s).e = 0 → (codP s).OK := codP_ok
  generalize codP s = q at *
  have HL := hide hL
  have Hok := hide hok
  have Hrk := hide hrk
  have hsz : ∀ w1 : World, Below w.heap.size w w1 → Lies w1 ⟨ab, ao, none⟩ zs := fun w1 hB => (unhide HL).below hB hab
  have Hsz := hide hsz
  clear hrk hok hL hsz
  generalize hP : q.run view zs fuel = P
  have HP := hide hP
  clear hP
  go_enter Try.func10, Try.ntmps10
  go_wp2_with fail
  refine (unhide Hrk _).mono ?_
  rintro e w1 ⟨ao', cap', rfl, hB1, hO1⟩
  have hA1 : At w1 w.heap.size 32 #[.int .i64 0, .int .i64 0, .string ⟨#[]⟩, .slice none 0 0] := (At.new w 32 #[.int .i64 0, .int .i64 0, .string ⟨#[]⟩, .slice none 0 0]).below hB1 (by simp)
  have hBa := ((Below.refl w.heap.size w).alloc (Nat.le_refl _) (.cells #[.int .i64 0, .int .i64 0, .string ⟨#[]⟩, .slice none 0 0] 32)).trans (hB1.mono (by simp))
  have hcall := run_gen q (unhide Hok) ao' cap' _ view fuel ab ao cin zs hl w1 hO1 (unhide Hsz w1 hBa)
  rw [unhide HP] at hcall
  have Hcall := hide hcall
  have HA1 := hide hA1
  clear hcall hA1 hO1 Hsz Hok Hrk
  go_wp2_with fail
  refine (unhide Hcall).mono ?_
  rintro e w2 ⟨st, rfl, hst, hB2⟩
  have hA2 := (unhide HA1).below hB2 (unhide HA1).lt
  have hBB := hBa.trans (hB2.mono hBa.size)
  have r0 := hA2.cell 0
  have r1 := hA2.cell 1
  have r2 := hA2.cell 2
  have r3 := hA2.cell 3
  have rf := fun j => hA2.frozen j
  simp at r0 r1 r2 r3
  have hlt := (unhide HA1).lt
  obtain ⟨a1, l1, c1, rfl⟩ : ∃ a1 l1 c1, st = .slice a1 l1 c1 := by
    rcases hst with ⟨_, h⟩ | ⟨gs, h, _⟩
    · exact ⟨_, _, _, h⟩
    · exact ⟨_, _, _, h⟩
  have hst2 : ∀ v0 v1 v2 v3, StV ((((w2.setCell ⟨w.heap.size, 0, none⟩ v0).setCell ⟨w.heap.size, 1, none⟩ v1).setCell ⟨w.heap.size, 2, none⟩ v2).setCell ⟨w.heap.size, 3, none⟩ v3) w.heap.size (.slice a1 l1 c1) P.2.σ := fun v0 v1 v2 v3 => by
    rcases hst with h | ⟨gs, h, hA, hgs⟩
    · exact .inl h
    · exact .inr ⟨gs, h, (((hA.other _ (by show w.heap.size ≠ gs; omega)).other _ (by show w.heap.size ≠ gs; omega)).other _ (by show w.heap.size ≠ gs; omega)).other _ (by show w.heap.size ≠ gs; omega), by omega⟩
  have Hst2 := hide hst2
  clear hst hst2 Hcall HA1
  go_wp2_with fail
  refine bodyPost_ret (v := .tuple #[.agg #[.int .i64 P.2.tag, .int .i64 P.2.steps, .string (strOfNums P.2.sn), .slice a1 l1 c1], .int .i64 P.1]) (by simp [results, Try.results10, go_sem, r0, r1, r2, r3]) rfl ⟨.slice a1 l1 c1, rfl, unhide Hst2 _ _ _ _, ?_⟩
  exact (((hBB.setCell (Nat.le_refl _) _).setCell (Nat.le_refl _) _).setCell (Nat.le_refl _) _).setCell (Nat.le_refl _) _

/-- What Path answers: the error, the lines. -/
def pPath (s : ByteArray) (zs : List Int) (fuel : Int) : Int × List Int :=
  if (codP s).e ≠ 0 then ((codP s).e, [])
  else if rfs (codP s).V ((codP s).n + (codP s).m) 0 zs fuel ≠ 0 then (rfs (codP s).V ((codP s).n + (codP s).m) 0 zs fuel, [])
  else (0, pathP (codP s).V 0 (codP s).n (codP s).m fuel.toNat (codP s).cs (fuel.toNat + 1) 0 zs 0)

/-- A list that came out: none, or in a row of its own in new memory. -/
def PtV (w : World) (B : Nat) (pv : Value) (ps : List Int) : Prop := ∃ b, B ≤ b ∧ Pt w b pv ps

end Go.Proofs.Ytnkbfdbbcaffmab
