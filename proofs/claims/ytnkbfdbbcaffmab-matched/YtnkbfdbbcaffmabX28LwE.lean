import Derived.Test.YtnkbfdbbcaffmabX27LwC
import Derived.Test.YtnkbfdbbcaffmabX13Flow
import Derived.Test.YtnkbfdbbcaffmabX20RunM
import Derived.Test.YtnkbfdbbcaffmabX11Kern
/-
  leak.Lower.
-/
namespace Go.Proofs.Ytnkbfdbbcaffmab
open Go.RowKit

/-- A command takes three bytes. -/
def Thr (st st' : PS) : Prop := st'.bad = false → 3 * st.cs.length ≤ st.p → 3 * st'.cs.length ≤ st'.p

section
variable {s : ByteArray} {V : Int} {n : Nat}
theorem tk_next {p : Nat} {a : Bool} {c : Int} (h : (tk s p a c).2 = false) : a = false ∧ (tk s p a c).1 = p + 1 := by
  have := tk_eat h
  exact ⟨this.1, this.2.1⟩

theorem tcmd_place {p : Nat} {k : Int} (hb : (tcmd s p V n k).2.1 = false) : (k = 61 → (tcmd s p V n k).1 = p + 5) ∧ (k = 108 → (tcmd s p V n k).1 = p + 3) ∧ (k = 115 → (tcmd s p V n k).1 = p + 3) ∧ (k ≠ 61 → k ≠ 108 → k ≠ 115 → (tcmd s p V n k).1 = p + 2) := by
  unfold tcmd at *
  by_cases k1 : k = 61
  · rw [if_pos k1] at hb ⊢
    unfold cmSet at hb ⊢
    dsimp only at *
    obtain ⟨a4, b4, _⟩ := opnd_eat hb
    obtain ⟨a3, b3, _⟩ := opn_eat a4
    obtain ⟨a2, b2, _⟩ := opnd_eat a3
    obtain ⟨a1, b1, _⟩ := tb_eat a2
    exact ⟨fun _ => by omega, fun e => by omega, fun e => by omega, fun e => absurd k1 e⟩
  · rw [if_neg k1] at hb ⊢
    by_cases k2 : k = 108
    · rw [if_pos k2] at hb ⊢
      unfold cmLoad at hb ⊢
      dsimp only at *
      obtain ⟨a2, b2, _⟩ := opnd_eat hb
      obtain ⟨a1, b1, _⟩ := tb_eat a2
      exact ⟨fun e => absurd e k1, fun _ => by omega, fun e => by omega, fun _ e => absurd k2 e⟩
    · rw [if_neg k2] at hb ⊢
      by_cases k3 : k = 115
      · rw [if_pos k3] at hb ⊢
        unfold cmStore at hb ⊢
        dsimp only at *
        obtain ⟨a2, b2, _⟩ := opnd_eat hb
        obtain ⟨a1, b1, _⟩ := opnd_eat a2
        exact ⟨fun e => absurd e k1, fun e => absurd e k2, fun _ => by omega, fun _ _ e => absurd k3 e⟩
      · rw [if_neg k3] at hb ⊢
        unfold cmTest at hb ⊢
        dsimp only at *
        obtain ⟨a1, b1, _⟩ := opnd_eat hb
        exact ⟨fun e => absurd e k1, fun e => absurd e k2, fun e => absurd e k3, fun _ _ _ => by omega⟩

theorem blk_thr {rdb : PS → PS} {N : Nat} (hn : ∀ st, Inv s st → lft s st ≤ N → Nxt s st (rdb st)) (hg : ∀ st, Inv s st → lft s st ≤ N → Thr st (rdb st)) {st : PS} (h : Inv s st) (hl : lft s st ≤ N) :
    (blk rdb s st).bad = false → 3 * st.cs.length ≤ st.p + 1 → 3 * (blk rdb s st).cs.length ≤ (blk rdb s st).p := by
  unfold blk
  have h1 := nxt_tk h 40
  have h2 := hn _ h1.2.2 (Nat.le_trans h1.lft hl)
  intro hb hc
  dsimp only at hb ⊢
  obtain ⟨e1, e2⟩ := tk_next hb
  have e3 := h2.1.back e1
  obtain ⟨_, e4⟩ := tk_next e3
  have := hg _ h1.2.2 (Nat.le_trans h1.lft hl) e1 (by dsimp only; omega)
  omega

theorem step_thr {rdb : PS → PS} {N : Nat} (hn : ∀ st, Inv s st → lft s st ≤ N → Nxt s st (rdb st)) (hg : ∀ st, Inv s st → lft s st ≤ N → Thr st (rdb st)) {st : PS} (h : Inv s st) (hl : lft s st ≤ N + 1) (hc : isCmd (pk s st.p st.bad) = true) : Thr st (cmdStep rdb s V n st) := by
  obtain ⟨i1, _, l0, l1⟩ := ps1_nxt (hv := V) (hn := (n : Int)) h hc
  have hp1 : (ps1 s V n st).p = (tcmd s st.p V n (pk s st.p st.bad)).1 := rfl
  have hb1 : (ps1 s V n st).bad = (tcmd s st.p V n (pk s st.p st.bad)).2.1 := rfl
  unfold cmdStep
  split
  · rename_i k63
    have a := blk_nxt hn i1 (by omega)
    have c := blk_nxt hn a.2.2 (by have := a.lft; omega)
    intro hb h3
    have hb2 : (blk rdb s (blk rdb s (ps1 s V n st))).bad = false := hb
    have hba := c.1.back hb2
    have hb0 := a.1.back hba
    have ta := blk_thr hn hg i1 (by omega) hba
    have tc := blk_thr hn hg a.2.2 (by have := a.lft; omega) hb2
    have tp := (tcmd_place (V := V) (n := n) (hb1.symm.trans hb0)).2.2.2 (by omega) (by omega) (by omega)
    have hlen : (brn st.cs.length (blk rdb s (ps1 s V n st)) (blk rdb s (blk rdb s (ps1 s V n st)))).cs.length = (blk rdb s (blk rdb s (ps1 s V n st))).cs.length := by simp [brn, setBr_length, rdr_length]
    have hpp : (brn st.cs.length (blk rdb s (ps1 s V n st)) (blk rdb s (blk rdb s (ps1 s V n st)))).p = (blk rdb s (blk rdb s (ps1 s V n st))).p := rfl
    rw [hlen, hpp]
    omega
  · rename_i k63
    split
    · rename_i k33
      have a := blk_nxt hn i1 (by omega)
      intro hb h3
      have hba : (blk rdb s (ps1 s V n st)).bad = false := hb
      have hb0 := a.1.back hba
      have ta := blk_thr hn hg i1 (by omega) hba
      have tp := (tcmd_place (V := V) (n := n) (hb1.symm.trans hb0)).2.2.2 (by omega) (by omega) (by omega)
      have hlen : (lop st.cs.length (blk rdb s (ps1 s V n st))).cs.length = (blk rdb s (ps1 s V n st)).cs.length := by simp [lop, setNo_length, rdr_length]
      have hpp : (lop st.cs.length (blk rdb s (ps1 s V n st))).p = (blk rdb s (ps1 s V n st)).p := rfl
      rw [hlen, hpp]
      omega
    · rename_i k33
      intro hb h3
      obtain ⟨t1, t2, t3, _⟩ := tcmd_place (V := V) (n := n) (hb1.symm.trans hb)
      simp [isCmd] at hc
      rw [l0, hp1]
      by_cases e1 : pk s st.p st.bad = 61
      · have := t1 e1; omega
      · by_cases e2 : pk s st.p st.bad = 108
        · have := t2 e2; omega
        · have := t3 (by omega); omega

theorem rdB_thr : ∀ (f : Nat) (st : PS), Inv s st → lft s st ≤ f → Thr st (rdB s V n f st)
  | 0, st, _, _ => fun _ h => h
  | f + 1, st, h, hl => by
    unfold rdB
    split
    · rename_i hc
      have hrn : ∀ st, Inv s st → lft s st ≤ f → Nxt s st (rdB s V n f st) := rdB_nxt s V n f
      have hrg : ∀ st, Inv s st → lft s st ≤ f → Thr st (rdB s V n f st) := rdB_thr f
      obtain ⟨nx, lx⟩ := step_nxt (hv := V) (hn := (n : Int)) hrn h hl hc
      have gs := step_thr (V := V) (n := n) hrn hrg h hl hc
      have n2 := hrn _ nx.2.2 (by omega)
      intro hb hcs
      exact hrg _ nx.2.2 (by omega) hb (gs (n2.1.back hb) hcs)
    · exact fun _ h => h
end

theorem krn_three (s : ByteArray) (h : krnBad s = false) : 3 * (krn s).cs.length ≤ s.size := by
  have hle := krn_le s
  simp [krnBad] at h
  have := rdB_thr (s := s) (V := pw (hdr s).2.2.1) (n := (hdr s).2.2.2.1) s.size ⟨(hdr s).1, (hdr s).2.1, []⟩ ⟨Nat.zero_le _, hdr_le s⟩ (by unfold lft; split <;> simp) h.1 (by simp)
  exact Nat.le_trans this hle

theorem lno_get : ∀ (cs : List Cm) (i nx j : Nat), j ≤ cs.length → ∃ z : Nat, (lno cs i nx)[j]? = some (z : Int) ∧ nx ≤ z ∧ z ≤ nx + 2 * j
  | [], i, nx, j, h => by
    have : j = 0 := by simpa using h
    subst this
    exact ⟨nx, rfl, Nat.le_refl _, by omega⟩
  | c :: r, i, nx, 0, _ => ⟨nx, rfl, Nat.le_refl _, by omega⟩
  | c :: r, i, nx, j + 1, h => by
    obtain ⟨z, e1, e2, e3⟩ := lno_get r (i + 1) (nx + (if jmp c i = true then 2 else 1)) j (by simpa using h)
    refine ⟨z, by simpa [lno] using e1, ?_, ?_⟩
    · split at e2 <;> omega
    · split at e3 <;> omega

theorem OpRel.small {V : Int} {n : Nat} {c : UInt8} {nm : Bool} {v : Int} (h : OpRel V n c nm v) (hV : 1 ≤ V) (hn : n ≤ 8) : 0 ≤ v ∧ v ≤ 9 ∧ (nm = false → v < V) := by
  rcases h with ⟨rfl, h1, h2, h3⟩ | ⟨rfl, h1, h2, h3⟩
  · exact ⟨h2, by omega, fun e => by cases e⟩
  · have a := Int.emod_nonneg ((c.toNat : Int) - 48) (b := V) (by omega)
    have b := Int.emod_lt_of_pos ((c.toNat : Int) - 48) (b := V) (by omega)
    have d : ((c.toNat : Int) - 48) % V ≤ (c.toNat : Int) - 48 := by
      rw [Int.emod_def]
      have := Int.mul_nonneg (show 0 ≤ V by omega) (Int.ediv_nonneg (show 0 ≤ (c.toNat : Int) - 48 by omega) (show 0 ≤ V by omega))
      omega
    exact ⟨by omega, by omega, fun _ => by omega⟩

/-- What a kernel's command is: its operands' bytes, where it leads. -/
theorem ker_cmds {s : ByteArray} (h : krnBad s = false) (hs : s.size ≤ 300) : ∀ (i : Nat) (c : Cm), (krn s).cs[i]? = some c →
    isCmd c.kind = true ∧ (c.kind = 61 ∨ c.kind = 108 → 0 ≤ c.var ∧ c.var < (hdr s).2.2.2.1) ∧ (∃ x, OpRel (pw (hdr s).2.2.1) (hdr s).2.2.2.1 x c.xn c.xv) ∧ (c.kind = 61 ∨ c.kind = 115 → ∃ y, OpRel (pw (hdr s).2.2.1) (hdr s).2.2.2.1 y c.yn c.yv) ∧ (c.kind = 61 → isOp c.op = true) ∧
    (∃ y : Nat, c.yes = y ∧ y ≤ (krn s).cs.length) ∧ (∃ o : Nat, c.no = o ∧ o ≤ (krn s).cs.length) := by
  intro i c hc
  have hi : i < (krn s).cs.length := (List.getElem?_eq_some_iff.1 hc).1
  obtain ⟨κ, _, _, hfl, _⟩ := krn_flow s hs h
  obtain ⟨c', y, o, e1, e2, e3, _, e5, _, e7, e8⟩ := hfl i (Nat.zero_le _) hi
  rw [hc] at e1
  obtain rfl := Option.some.inj e1
  have hok := (krn_ok s h c (List.mem_of_getElem? hc)).1
  have hv := hok.v0
  have hvar : c.kind = 61 ∨ c.kind = 108 → 0 ≤ c.var ∧ c.var < (hdr s).2.2.2.1 := fun e => ⟨hv, by have := hok.var e; omega⟩
  refine ⟨?_, hvar, ?_, ?_, hok.op, ⟨y, e2, e5⟩, ⟨o, e3, e7⟩⟩
  · rcases e8 with ⟨_, _, _, _, _, _, _, hk, _⟩ | ⟨_, _, _, _, _, hk, _⟩ | ⟨_, _, _, _, _, hk, _⟩ | ⟨_, _, _, _, _, _, _, hk, _⟩ | ⟨_, _, _, _, _, _, hk, _⟩ <;> (rw [hk]; rfl)
  · rcases e8 with ⟨_, x, _, _, _, _, _, _, _, hx, _⟩ | ⟨_, x, _, _, _, _, _, hx⟩ | ⟨x, _, _, _, _, _, hx, _⟩ | ⟨x, _, _, _, _, _, _, _, hx, _⟩ | ⟨x, _, _, _, _, _, _, hx, _⟩ <;> exact ⟨x, hx⟩
  · intro hk
    rcases e8 with ⟨_, _, _, y, _, _, _, _, _, _, _, hy⟩ | ⟨_, _, _, _, _, hk', _⟩ | ⟨_, y, _, _, _, _, _, hy⟩ | ⟨_, _, _, _, _, _, _, hk', _⟩ | ⟨_, _, _, _, _, _, hk', _⟩
    · exact ⟨y, hy⟩
    · omega
    · exact ⟨y, hy⟩
    · omega
    · omega

theorem ker_lwok {s : ByteArray} (h : krnBad s = false) (hs : s.size ≤ 300) : ∀ c ∈ (krn s).cs, LwOK (lnsO (krn s).cs) c := by
  intro c hc
  obtain ⟨i, hi⟩ := List.mem_iff_getElem?.1 hc
  obtain ⟨a1, a2, ⟨x, a3⟩, a4, _, ⟨y, e1, e2⟩, ⟨o, e3, e4⟩⟩ := ker_cmds h hs i c hi
  have h3 := krn_three s h
  have hn := hdr_vars s
  have hV := (pw_bd _ (hdr_wid s).2).1
  obtain ⟨z, z1, _, z3⟩ := lno_get (krn s).cs 0 0 y e2
  obtain ⟨z', z1', _, z3'⟩ := lno_get (krn s).cs 0 0 o e4
  have hx := a3.small hV hn
  refine ⟨a1, fun e => ⟨(a2 e).1, by have := (a2 e).2; omega⟩, hx.1, by omega, fun e => ?_, ⟨y, z, e1, z1, by omega, by omega⟩, ⟨o, z', e3, z1', by omega, by omega⟩⟩
  obtain ⟨y', hy⟩ := a4 e
  have := hy.small hV hn
  omega

/-- What Lower tells. -/
def lowS (s : ByteArray) : ByteArray := if (kerP s).e ≠ 0 then ⟨#[]⟩ else strOfNums ((s.extract 0 (hdr s).1).data.toList.map (fun c => (c.toNat : Int)) ++ codT (lnsO (krn s).cs) (krn s).cs 0 ++ [104])

set_option maxHeartbeats 1000000 in
theorem leakLower_any (s : ByteArray) (hmx : s.size ≤ maxLen) (w : World) :
    Calls Try.prog 8 #[.string s] w fun e w' => e = .returned (.tuple #[.string (lowS s), .int .i64 (kerP s).e]) ∧ Below w.heap.size w w' := by
  have hrk := hide (readKernel_pg s hmx w)
  have hld : lowS s = if (kerP s).e ≠ 0 then ⟨#[]⟩ else strOfNums ((s.extract 0 (hdr s).1).data.toList.map (fun c => (c.toNat : Int)) ++ codT (lnsO (krn s).cs) (krn s).cs 0 ++ [104]) := rfl
  generalize lowS s = L at *
  by_cases he : (kerP s).e = 0
  · rw [if_neg (fun k => k he)] at hld
    have he' := he
    rw [kerP_e] at he'
    obtain ⟨hbig, hbad⟩ := chk_ok he'
    have hlw := ker_lwok hbad (by omega)
    have h3 := krn_three s hbad
    have hcode := fun ao cap kb w0 hO => code_any (s.extract 0 (hdr s).1) (by rw [ByteArray.size_extract]; have := hdr_le s; omega) (hdr s).2.2.1 (pw (hdr s).2.2.1) (hdr s).2.2.2.1 (hdr s).2.2.2.2 ao cap kb (krn s).cs (by omega) hlw w0 hO
    rw [← hld] at hcode
    rw [he]
    rw [kerP_good he'] at hrk
    unfold Pg.val at hrk
    dsimp only at hrk
    have HC := hide hcode
    generalize s.extract 0 (hdr s).1 = tx at *
    generalize (hdr s).2.2.1 = W at *
    generalize (hdr s).2.2.2.1 = n at *
    generalize (hdr s).2.2.2.2 = m at *
    generalize (krn s).cs = cs at *
    generalize pw W = V at *
    clear hcode hld hlw h3 hbad he'
    go_enter Try.func8, Try.ntmps8
    go_wp2_with fail
    refine (unhide hrk).mono ?_
    rintro e w1 ⟨ao', cap', rfl, hB1, hO1⟩
    have hO2 := World.ownsRow.alloc hO1 (.cells #[.int .i64 0, .int .i64 0, .string tx, .int .i64 W, .int .i64 V, .int .i64 n, .int .i64 m, .slice ao' cs.length cap'] 56)
    have hB2 := hB1.alloc hB1.size (.cells #[.int .i64 0, .int .i64 0, .string tx, .int .i64 W, .int .i64 V, .int .i64 n, .int .i64 m, .slice ao' cs.length cap'] 56)
    have HO2 := hide hO2
    clear hO2 hO1
    go_wp2_with fail
    refine (unhide HC _ _ _ _ (unhide HO2)).mono ?_
    rintro e w2 ⟨rfl, hB3⟩
    go_wp2_with fail
    go_ret2
    exact ⟨rfl, hB2.trans (hB3.mono hB2.size)⟩
  · rw [if_pos he] at hld
    have hb : ((kerP s).e != 0) = true := by simpa using he
    subst hld
    clear he
    generalize kerP s = q at *
    obtain ⟨qe, z1, tx, W, V, n, m, cs⟩ := q
    unfold Pg.val at hrk
    dsimp only at *
    go_enter Try.func8, Try.ntmps8
    go_wp2_with fail
    refine (unhide hrk).mono ?_
    rintro e w1 ⟨ao', cap', rfl, hB1, _⟩
    go_wp2_with fail
    go_quiet (fail)
    go_wp2_with fail
    go_ret2
    exact ⟨rfl, below_drewN (hB1.alloc hB1.size _) _⟩
end Go.Proofs.Ytnkbfdbbcaffmab
/-
  A kernel's run and its code's: step by step. (No walk here.)
-/
namespace Go.Proofs.Ytnkbfdbbcaffmab
open Go.RowKit

/-- A run, by the fuel that is left. -/
def rn (V view : Int) (n m : Nat) (cs : List Cm) : Nat → Int → List Int → Res
  | 0, i, σ => match cs[i.toNat]? with
    | none => ⟨1, 0, [], σ⟩
    | some _ => ⟨3, 0, [], σ⟩
  | r + 1, i, σ => match cs[i.toNat]? with
    | none => ⟨1, 0, [], σ⟩
    | some c =>
      if (act V view n m σ c).2.2.1 = true then ⟨2, 1, (act V view n m σ c).2.1, (act V view n m σ c).1⟩
      else ⟨(rn V view n m cs r (act V view n m σ c).2.2.2 (act V view n m σ c).1).tag, (rn V view n m cs r (act V view n m σ c).2.2.2 (act V view n m σ c).1).steps + 1, (act V view n m σ c).2.1 ++ (rn V view n m cs r (act V view n m σ c).2.2.2 (act V view n m σ c).1).sn, (rn V view n m cs r (act V view n m σ c).2.2.2 (act V view n m σ c).1).σ⟩

theorem runP_rn (V view : Int) (n m fuel : Nat) (cs : List Cm) : ∀ (g : Nat) (i : Int) (σ sn : List Int) (steps : Nat), g + steps = fuel + 1 → steps ≤ fuel →
    runP V view n m fuel cs g i σ sn steps = ⟨(rn V view n m cs (fuel - steps) i σ).tag, steps + (rn V view n m cs (fuel - steps) i σ).steps, sn ++ (rn V view n m cs (fuel - steps) i σ).sn, (rn V view n m cs (fuel - steps) i σ).σ⟩
  | 0, i, σ, sn, steps, h1, h2 => by omega
  | g + 1, i, σ, sn, steps, h1, h2 => by
    rw [runP]
    cases hc : cs[i.toNat]? with
    | none =>
      cases hr : fuel - steps with
      | zero => simp [rn, hc]
      | succ r => simp [rn, hc]
    | some c =>
      dsimp only
      by_cases hf : fuel ≤ steps
      · rw [if_pos hf, show fuel - steps = 0 from by omega]
        simp [rn, hc]
      · rw [if_neg hf]
        obtain ⟨r, hr⟩ : ∃ r, fuel - steps = r + 1 := ⟨fuel - steps - 1, by omega⟩
        have hr2 : fuel - (steps + 1) = r := by omega
        rw [hr]
        by_cases ht : (act V view n m σ c).2.2.1 = true
        · simp [rn, hc, ht]
        · rw [if_neg ht, runP_rn V view n m fuel cs g _ _ _ (steps + 1) (by omega) (by omega), hr2]
          simp [rn, hc, ht]
          omega

theorem run_rn (V view : Int) (n m fuel : Nat) (cs : List Cm) (σ : List Int) : runP V view n m fuel cs (fuel + 1) 0 σ [] 0 = rn V view n m cs fuel 0 σ := by
  rw [runP_rn V view n m fuel cs (fuel + 1) 0 σ [] 0 rfl (Nat.zero_le _)]
  simp

/-- What P7 asks of two runs by the fuels a and b. -/
def Agr (a b : Nat) (R E : Res) : Prop :=
  (R.tag ≠ 3 → 2 * R.steps + 2 ≤ b → E.tag = R.tag ∧ E.σ = R.σ ∧ E.sn = R.sn) ∧
  (E.tag ≠ 3 → E.steps ≤ a → E.tag = R.tag ∧ E.σ = R.σ ∧ E.sn = R.sn) ∧
  (E.sn <+: R.sn ∨ R.sn <+: E.sn) ∧ (b ≤ a → E.sn <+: R.sn) ∧ (2 * a + 2 ≤ b → R.sn <+: E.sn)

/-- A kernel's commands and the code's lines: which line is which. -/
structure Trs (cs ds : List Cm) (L : Nat → Nat) : Prop where
  mono : ∀ i, i < cs.length → L (i + 1) = L i + (match cs[i]? with | some c => if jmp c i = true then 2 else 1 | none => 1)
  line : ∀ (i : Nat) (c : Cm), cs[i]? = some c → ∃ d : Cm, ds[L i]? = some d ∧ d.xn = c.xn ∧ d.xv = c.xv ∧ (c.kind = 61 ∨ c.kind = 108 → d.var = c.var) ∧ (c.kind = 61 → d.op = c.op) ∧ (c.kind = 61 ∨ c.kind = 115 → d.yn = c.yn ∧ d.yv = c.yv) ∧ d.yes = ((L i + 1 : Nat) : Int) ∧
    ((c.kind = 61 ∨ c.kind = 108 ∨ c.kind = 115) ∧ d.kind = c.kind ∨ (c.kind = 63 ∨ c.kind = 33) ∧ d.kind = 122 ∧ ∃ o : Nat, c.no = o ∧ d.no = ((L o : Nat) : Int))
  jump : ∀ (i : Nat) (c : Cm), cs[i]? = some c → jmp c i = true → ∃ (d : Cm) (y : Nat), ds[L i + 1]? = some d ∧ d.kind = 106 ∧ c.yes = y ∧ d.yes = ((L y : Nat) : Int)
  last : ∃ d : Cm, ds[L cs.length]? = some d ∧ d.kind = 104 ∧ d.yes = ((L cs.length + 1 : Nat) : Int) ∧ ds.length = L cs.length + 1
  goes : ∀ (i : Nat) (c : Cm), cs[i]? = some c → (∃ y : Nat, c.yes = y ∧ y ≤ cs.length) ∧ (∃ o : Nat, c.no = o ∧ o ≤ cs.length)

theorem jmp_false {c : Cm} {i : Nat} (h : jmp c i = false) : c.yes = ((i + 1 : Nat) : Int) := by
  unfold jmp at h
  simp at h
  omega

theorem cons_pre {l a b : List Int} (h : a <+: b) : l ++ a <+: l ++ b := by
  obtain ⟨t, rfl⟩ := h
  exact ⟨t, by simp⟩

theorem sim {V view : Int} {n m : Nat} {cs ds : List Cm} {L : Nat → Nat} (hT : Trs cs ds L) : ∀ (a b i : Nat) (σ : List Int), i ≤ cs.length → Agr a b (rn V view n m cs a i σ) (rn V view n m ds b (L i) σ) := by
  intro a
  induction a with
  | zero =>
    intro b i σ hi
    by_cases hlt : i < cs.length
    · obtain ⟨c, hc⟩ : ∃ c, cs[i]? = some c := ⟨_, List.getElem?_eq_getElem hlt⟩
      obtain ⟨d, hd, _⟩ := hT.line i c hc
      have hR : rn V view n m cs 0 i σ = ⟨3, 0, [], σ⟩ := by simp [rn, hc]
      rw [hR]
      refine ⟨fun h => absurd rfl h, ?_, .inr (List.nil_prefix), ?_, fun _ => List.nil_prefix⟩
      · intro h1 h2
        cases b with
        | zero => simp [rn, hd] at h1
        | succ b =>
          exfalso
          simp only [rn, Int.toNat_natCast, hd] at h1 h2
          split at h2
          · simp at h2
          · simp at h2
      · intro hb
        have : b = 0 := by omega
        subst this
        simp [rn, hd]
    · have hie : i = cs.length := by omega
      subst hie
      obtain ⟨d, hd, hk, hy, hl⟩ := hT.last
      have hR : rn V view n m cs 0 cs.length σ = ⟨1, 0, [], σ⟩ := by simp [rn]
      have hact : act V view n m σ d = (σ, [], false, d.yes) := by
        unfold act; rw [if_neg (by omega), if_neg (by omega), if_neg (by omega), if_pos (.inr hk)]
      rw [hR]
      cases b with
      | zero =>
        have hE : rn V view n m ds 0 (L cs.length) σ = ⟨3, 0, [], σ⟩ := by simp [rn, hd]
        rw [hE]
        exact ⟨fun _ h => by simp at h, fun h => absurd rfl h, .inl (List.prefix_refl _), fun _ => List.prefix_refl _, fun _ => List.prefix_refl _⟩
      | succ b =>
        have hE : rn V view n m ds (b + 1) (L cs.length) σ = ⟨1, 1, [], σ⟩ := by
          have hn : ds[L cs.length + 1]? = none := List.getElem?_eq_none (by omega)
          cases b with
          | zero => simp [rn, hd, hact, hy, hn]
          | succ b => simp [rn, hd, hact, hy, hn]
        rw [hE]
        exact ⟨fun _ _ => ⟨rfl, rfl, rfl⟩, fun _ _ => ⟨rfl, rfl, rfl⟩, .inl (List.prefix_refl _), fun _ => List.prefix_refl _, fun _ => List.prefix_refl _⟩
  | succ a ih =>
    intro b i σ hi
    by_cases hlt : i < cs.length
    · obtain ⟨c, hc⟩ : ∃ c, cs[i]? = some c := ⟨_, List.getElem?_eq_getElem hlt⟩
      obtain ⟨d, hd, e2, e3, e1, e4, e5, e7, e8⟩ := hT.line i c hc
      obtain ⟨⟨y, hy, hyl⟩, ⟨o, ho, hol⟩⟩ := hT.goes i c hc
      have hmono := hT.mono i hlt
      rw [hc] at hmono
      dsimp only at hmono
      cases b with
      | zero =>
        have hE : rn V view n m ds 0 (L i) σ = ⟨3, 0, [], σ⟩ := by simp [rn, hd]
        rw [hE]
        exact ⟨fun _ h => by simp at h, fun h => absurd rfl h, .inl List.nil_prefix, fun _ => List.nil_prefix, fun h => by omega⟩
      | succ b =>
        -- what the line does is what the command does
        have hsame : (act V view n m σ d).1 = (act V view n m σ c).1 ∧ (act V view n m σ d).2.1 = (act V view n m σ c).2.1 ∧ (act V view n m σ d).2.2.1 = (act V view n m σ c).2.2.1 ∧
            (((act V view n m σ c).2.2.2 = (y : Int) ∧ (act V view n m σ d).2.2.2 = ((L i + 1 : Nat) : Int)) ∨ ((act V view n m σ c).2.2.2 = (o : Int) ∧ (act V view n m σ d).2.2.2 = ((L o : Nat) : Int))) := by
          rcases e8 with ⟨hk3, hk⟩ | ⟨hk2, hk, o', ho', hd'⟩
          · unfold act
            rw [hk, e2, e3, e7, hy]
            by_cases k1 : c.kind = 61
            · rw [e1 (.inl k1), e4 k1, (e5 (.inl k1)).1, (e5 (.inl k1)).2]
              simp only [if_pos k1]; exact ⟨trivial, trivial, trivial, .inl ⟨trivial, trivial⟩⟩
            · simp only [if_neg k1]
              by_cases k2 : c.kind = 108
              · rw [e1 (.inr k2)]
                simp only [if_pos k2]
                by_cases hm : (m : Int) ≤ vl σ c.xn c.xv.toNat
                · simp only [if_pos hm]; exact ⟨trivial, trivial, trivial, .inl ⟨trivial, trivial⟩⟩
                · simp only [if_neg hm]; exact ⟨trivial, trivial, trivial, .inl ⟨trivial, trivial⟩⟩
              · have k3 : c.kind = 115 := by omega
                rw [(e5 (.inr k3)).1, (e5 (.inr k3)).2]
                simp only [if_neg k2, if_pos k3]
                by_cases hm : (m : Int) ≤ vl σ c.xn c.xv.toNat
                · simp only [if_pos hm]; exact ⟨trivial, trivial, trivial, .inl ⟨trivial, trivial⟩⟩
                · simp only [if_neg hm]; exact ⟨trivial, trivial, trivial, .inl ⟨trivial, trivial⟩⟩
          · have hoo : o' = o := by omega
            subst hoo
            have hac : act V view n m σ c = (σ, [if vl σ c.xn c.xv.toNat = 0 then 102 else 116], false, if vl σ c.xn c.xv.toNat = 0 then c.no else c.yes) := by
              unfold act; rw [if_neg (by omega), if_neg (by omega), if_neg (by omega), if_neg (by omega)]
            have had : act V view n m σ d = (σ, [if vl σ c.xn c.xv.toNat = 0 then 102 else 116], false, if vl σ c.xn c.xv.toNat = 0 then d.no else d.yes) := by
              unfold act; rw [if_neg (by omega), if_neg (by omega), if_neg (by omega), if_neg (by omega), e2, e3]
            rw [hac, had]
            dsimp only
            by_cases hz : vl σ c.xn c.xv.toNat = 0
            · simp only [if_pos hz]; exact ⟨trivial, trivial, trivial, .inr ⟨ho, hd'⟩⟩
            · simp only [if_neg hz]; exact ⟨trivial, trivial, trivial, .inl ⟨hy, e7⟩⟩
        obtain ⟨s1, s2, s3, s4⟩ := hsame
        by_cases ht : (act V view n m σ c).2.2.1 = true
        · have hR : rn V view n m cs (a + 1) i σ = ⟨2, 1, (act V view n m σ c).2.1, (act V view n m σ c).1⟩ := by simp [rn, hc, ht]
          have hE : rn V view n m ds (b + 1) (L i) σ = ⟨2, 1, (act V view n m σ c).2.1, (act V view n m σ c).1⟩ := by
            have ht' := ht
            rw [← s3] at ht'
            simp [rn, hd, ht', s1, s2]
          rw [hR, hE]
          exact ⟨fun _ _ => ⟨rfl, rfl, rfl⟩, fun _ _ => ⟨rfl, rfl, rfl⟩, .inl (List.prefix_refl _), fun _ => List.prefix_refl _, fun _ => List.prefix_refl _⟩
        · have ht' : ¬ (act V view n m σ d).2.2.1 = true := by rw [s3]; exact ht
          -- the case where one step of the code is enough
          have one : ∀ z : Nat, z ≤ cs.length → (act V view n m σ c).2.2.2 = (z : Int) → (act V view n m σ d).2.2.2 = ((L z : Nat) : Int) → Agr (a + 1) (b + 1) (rn V view n m cs (a + 1) i σ) (rn V view n m ds (b + 1) (L i) σ) := by
            intro z hz h1 h2
            have hR : rn V view n m cs (a + 1) i σ = ⟨(rn V view n m cs a z (act V view n m σ c).1).tag, (rn V view n m cs a z (act V view n m σ c).1).steps + 1, (act V view n m σ c).2.1 ++ (rn V view n m cs a z (act V view n m σ c).1).sn, (rn V view n m cs a z (act V view n m σ c).1).σ⟩ := by
              simp [rn, hc, ht, h1]
            have hE : rn V view n m ds (b + 1) (L i) σ = ⟨(rn V view n m ds b (L z) (act V view n m σ c).1).tag, (rn V view n m ds b (L z) (act V view n m σ c).1).steps + 1, (act V view n m σ c).2.1 ++ (rn V view n m ds b (L z) (act V view n m σ c).1).sn, (rn V view n m ds b (L z) (act V view n m σ c).1).σ⟩ := by
              simp [rn, hd, ht', h2, s1, s2]
            obtain ⟨p1, p2, p3, p4, p5⟩ := ih b z (act V view n m σ c).1 hz
            rw [hR, hE]
            refine ⟨fun h3 h4 => ?_, fun h3 h4 => ?_, ?_, fun h3 => cons_pre (p4 (by omega)), fun h3 => cons_pre (p5 (by omega))⟩
            · dsimp only at h3 h4 ⊢
              obtain ⟨q1, q2, q3⟩ := p1 h3 (by omega)
              exact ⟨q1, q2, by rw [q3]⟩
            · dsimp only at h3 h4 ⊢
              obtain ⟨q1, q2, q3⟩ := p2 h3 (by omega)
              exact ⟨q1, q2, by rw [q3]⟩
            · rcases p3 with p3 | p3
              · exact .inl (cons_pre p3)
              · exact .inr (cons_pre p3)
          rcases s4 with ⟨h1, h2⟩ | ⟨h1, h2⟩
          · cases hj : jmp c i with
            | false =>
              have hye := jmp_false hj
              rw [hj, if_neg (by simp)] at hmono
              have hyy : y = i + 1 := by omega
              subst hyy
              exact one (i + 1) hyl h1 (by rw [h2, hmono])
            | true =>
              obtain ⟨d2, y2, hd2, hk2, hy2, hyd⟩ := hT.jump i c hc hj
              have hyy : y2 = y := by omega
              subst hyy
              have hact2 : ∀ τ, act V view n m τ d2 = (τ, [], false, d2.yes) := fun τ => by
                unfold act; rw [if_neg (by omega), if_neg (by omega), if_neg (by omega), if_pos (.inl hk2)]
              have hR : rn V view n m cs (a + 1) i σ = ⟨(rn V view n m cs a y2 (act V view n m σ c).1).tag, (rn V view n m cs a y2 (act V view n m σ c).1).steps + 1, (act V view n m σ c).2.1 ++ (rn V view n m cs a y2 (act V view n m σ c).1).sn, (rn V view n m cs a y2 (act V view n m σ c).1).σ⟩ := by
                simp [rn, hc, ht, h1]
              rw [hR]
              cases b with
              | zero =>
                have hE : rn V view n m ds (0 + 1) (L i) σ = ⟨3, 1, (act V view n m σ c).2.1, (act V view n m σ c).1⟩ := by
                  have h2' : (act V view n m σ d).2.2.2.toNat = L i + 1 := by rw [h2]; omega
                  simp [rn, hd, ht', h2', hd2, s1, s2]
                rw [hE]
                exact ⟨fun _ h => by dsimp only at h; omega, fun h => absurd rfl h, .inl ⟨_, rfl⟩, fun _ => ⟨_, rfl⟩, fun h => by omega⟩
              | succ b =>
                have hE : rn V view n m ds (b + 1 + 1) (L i) σ = ⟨(rn V view n m ds b (L y2) (act V view n m σ c).1).tag, (rn V view n m ds b (L y2) (act V view n m σ c).1).steps + 2, (act V view n m σ c).2.1 ++ (rn V view n m ds b (L y2) (act V view n m σ c).1).sn, (rn V view n m ds b (L y2) (act V view n m σ c).1).σ⟩ := by
                  have h2' : (act V view n m σ d).2.2.2.toNat = L i + 1 := by rw [h2]; omega
                  rw [rn]
                  simp only [Int.toNat_natCast, hd]
                  rw [if_neg ht', rn, h2']
                  simp only [hd2, hact2, hyd]
                  simp [s1, s2]
                obtain ⟨p1, p2, p3, p4, p5⟩ := ih b y2 (act V view n m σ c).1 hyl
                rw [hE]
                refine ⟨fun h3 h4 => ?_, fun h3 h4 => ?_, ?_, fun h3 => cons_pre (p4 (by omega)), fun h3 => cons_pre (p5 (by omega))⟩
                · dsimp only at h3 h4 ⊢
                  obtain ⟨q1, q2, q3⟩ := p1 h3 (by omega)
                  exact ⟨q1, q2, by rw [q3]⟩
                · dsimp only at h3 h4 ⊢
                  obtain ⟨q1, q2, q3⟩ := p2 h3 (by omega)
                  exact ⟨q1, q2, by rw [q3]⟩
                · rcases p3 with p3 | p3
                  · exact .inl (cons_pre p3)
                  · exact .inr (cons_pre p3)
          · exact one o hol h1 h2
    · have hie : i = cs.length := by omega
      subst hie
      obtain ⟨d, hd, hk, hy, hl⟩ := hT.last
      have hR : rn V view n m cs (a + 1) cs.length σ = ⟨1, 0, [], σ⟩ := by simp [rn]
      have hact : act V view n m σ d = (σ, [], false, d.yes) := by
        unfold act; rw [if_neg (by omega), if_neg (by omega), if_neg (by omega), if_pos (.inr hk)]
      rw [hR]
      cases b with
      | zero =>
        have hE : rn V view n m ds 0 (L cs.length) σ = ⟨3, 0, [], σ⟩ := by simp [rn, hd]
        rw [hE]
        exact ⟨fun _ h => by simp at h, fun h => absurd rfl h, .inl (List.prefix_refl _), fun _ => List.prefix_refl _, fun _ => List.prefix_refl _⟩
      | succ b =>
        have hE : rn V view n m ds (b + 1) (L cs.length) σ = ⟨1, 1, [], σ⟩ := by
          have hn : ds[L cs.length + 1]? = none := List.getElem?_eq_none (by omega)
          cases b with
          | zero => simp [rn, hd, hact, hy, hn]
          | succ b => simp [rn, hd, hact, hy, hn]
        rw [hE]
        exact ⟨fun _ _ => ⟨rfl, rfl, rfl⟩, fun _ _ => ⟨rfl, rfl, rfl⟩, .inl (List.prefix_refl _), fun _ => List.prefix_refl _, fun _ => List.prefix_refl _⟩
end Go.Proofs.Ytnkbfdbbcaffmab
