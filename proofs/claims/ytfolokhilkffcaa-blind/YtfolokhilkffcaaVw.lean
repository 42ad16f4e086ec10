/-
  Runs of commands: with more fuel, in other views.
-/
import Derived.Test.YtfolokhilkffcaaMk
import Derived.Test.YtfolokhilkffcaaRunM
namespace Go.Proofs.Ytfolokhilkffcaa
open Go.RowKit

section
variable (V view : Int) (n m : Nat) (cs : List Cm)

theorem runP_none {f g : Nat} {i : Int} {σ sn : List Int} {st : Nat} (h : cs[i.toNat]? = none) : runP V view n m f cs (g + 1) i σ sn st = ⟨1, st, sn, σ⟩ := by
  rw [runP, h]
theorem runP_dry {f g : Nat} {i : Int} {σ sn : List Int} {st : Nat} {c : Cm} (h : cs[i.toNat]? = some c) (hf : f ≤ st) : runP V view n m f cs (g + 1) i σ sn st = ⟨3, st, sn, σ⟩ := by
  rw [runP, h]
  dsimp only
  rw [if_pos hf]
theorem runP_trap {f g : Nat} {i : Int} {σ sn : List Int} {st : Nat} {c : Cm} (h : cs[i.toNat]? = some c) (hf : ¬ f ≤ st) (ht : (act V view n m σ c).2.2.1 = true) : runP V view n m f cs (g + 1) i σ sn st = ⟨2, st + 1, sn ++ (act V view n m σ c).2.1, (act V view n m σ c).1⟩ := by
  rw [runP, h]
  dsimp only
  rw [if_neg hf, if_pos ht]
theorem runP_step {f g : Nat} {i : Int} {σ sn : List Int} {st : Nat} {c : Cm} (h : cs[i.toNat]? = some c) (hf : ¬ f ≤ st) (ht : ¬ (act V view n m σ c).2.2.1 = true) : runP V view n m f cs (g + 1) i σ sn st = runP V view n m f cs g (act V view n m σ c).2.2.2 (act V view n m σ c).1 (sn ++ (act V view n m σ c).2.1) (st + 1) := by
  rw [runP, h]
  dsimp only
  rw [if_neg hf, if_neg ht]

theorem runP_mono (f : Nat) : ∀ g i σ sn st, st ≤ (runP V view n m f cs g i σ sn st).steps ∧ ∃ t, (runP V view n m f cs g i σ sn st).sn = sn ++ t
  | 0, i, σ, sn, st => ⟨Nat.le_refl _, [], by simp [runP]⟩
  | g + 1, i, σ, sn, st => by
    cases hc : cs[i.toNat]? with
    | none => rw [runP_none V view n m cs hc]; exact ⟨Nat.le_refl _, [], by simp⟩
    | some c =>
      by_cases hf : f ≤ st
      · rw [runP_dry V view n m cs hc hf]; exact ⟨Nat.le_refl _, [], by simp⟩
      · by_cases ht : (act V view n m σ c).2.2.1 = true
        · rw [runP_trap V view n m cs hc hf ht]; exact ⟨Nat.le_succ _, _, rfl⟩
        · rw [runP_step V view n m cs hc hf ht]
          obtain ⟨h1, t, h2⟩ := runP_mono f g (act V view n m σ c).2.2.2 (act V view n m σ c).1 (sn ++ (act V view n m σ c).2.1) (st + 1)
          exact ⟨by omega, _, by rw [h2, List.append_assoc]⟩

theorem runP_tag (f : Nat) : ∀ g i σ sn st, (runP V view n m f cs g i σ sn st).tag = 1 ∨ (runP V view n m f cs g i σ sn st).tag = 2 ∨ (runP V view n m f cs g i σ sn st).tag = 3
  | 0, i, σ, sn, st => .inr (.inr rfl)
  | g + 1, i, σ, sn, st => by
    cases hc : cs[i.toNat]? with
    | none => rw [runP_none V view n m cs hc]; exact .inl rfl
    | some c =>
      by_cases hf : f ≤ st
      · rw [runP_dry V view n m cs hc hf]; exact .inr (.inr rfl)
      · by_cases ht : (act V view n m σ c).2.2.1 = true
        · rw [runP_trap V view n m cs hc hf ht]; exact .inr (.inl rfl)
        · rw [runP_step V view n m cs hc hf ht]
          exact runP_tag f g _ _ _ _

/-- With more fuel. -/
theorem runP_more (f f' : Nat) (hff : f ≤ f') : ∀ g i σ sn st, st ≤ f → g + st = f + 1 →
    (runP V view n m f cs g i σ sn st).steps ≤ f ∧
    ((runP V view n m f cs g i σ sn st).tag ≠ 3 → runP V view n m f' cs (g + (f' - f)) i σ sn st = runP V view n m f cs g i σ sn st) ∧
    ((runP V view n m f cs g i σ sn st).tag = 3 → (runP V view n m f cs g i σ sn st).steps = f ∧ f ≤ (runP V view n m f' cs (g + (f' - f)) i σ sn st).steps ∧ ∃ t, (runP V view n m f' cs (g + (f' - f)) i σ sn st).sn = (runP V view n m f cs g i σ sn st).sn ++ t)
  | 0, i, σ, sn, st, h1, h2 => by omega
  | g + 1, i, σ, sn, st, h1, h2 => by
    have e : g + 1 + (f' - f) = (g + (f' - f)) + 1 := by omega
    rw [e]
    cases hc : cs[i.toNat]? with
    | none =>
      rw [runP_none V view n m cs hc, runP_none V view n m cs hc]
      exact ⟨h1, fun _ => rfl, fun h => by cases h⟩
    | some c =>
      by_cases hf : f ≤ st
      · rw [runP_dry V view n m cs hc hf]
        have hm := runP_mono V view n m cs f' (g + (f' - f) + 1) i σ sn st
        have est : st = f := by omega
        exact ⟨h1, fun h => absurd rfl h, fun _ => ⟨est, by have := hm.1; omega, hm.2⟩⟩
      · have hf' : ¬ f' ≤ st := by omega
        by_cases ht : (act V view n m σ c).2.2.1 = true
        · rw [runP_trap V view n m cs hc hf ht, runP_trap V view n m cs hc hf' ht]
          exact ⟨by show st + 1 ≤ f; omega, fun _ => rfl, fun h => by cases h⟩
        · rw [runP_step V view n m cs hc hf ht, runP_step V view n m cs hc hf' ht]
          exact runP_more f f' hff g _ _ _ _ (by omega) (by omega)
end

/-- What happens at a command, whatever the view shows of it: a test; a word is touched; a division. -/
abbrev Ev : Type := Bool ⊕ (Int × Bool) ⊕ (Int × Int)
def Ev.tf (b : Bool) : Ev := .inl b
def Ev.md (x : Int) (o : Bool) : Ev := .inr (.inl (x, o))
def Ev.dv (x y : Int) : Ev := .inr (.inr (x, y))

def evB (view : Int) : Ev → List Int
  | .inl b => [if b = true then 116 else 102]
  | .inr (.inl (x, o)) => 109 :: hxd (shn view x / 16) :: hxd (shn view x % 16) :: (if o = true then [111] else [])
  | .inr (.inr (x, y)) => (if y = 0 then 120 else 118) :: (if view = 1 then [hxd (btc 8 x), hxd (btc 8 y)] else [])
def Ev.trap : Ev → Bool
  | .inl _ => false
  | .inr (.inl (_, o)) => o
  | .inr (.inr (_, y)) => decide (y = 0)
def Ev.ok : Ev → Prop
  | .inl _ => True
  | .inr (.inl (x, _)) => 0 ≤ x ∧ x ≤ 255
  | .inr (.inr _) => True
def flatE (view : Int) (es : List Ev) : List Int := es.flatMap (evB view)
theorem flatE_append (view : Int) (a b : List Ev) : flatE view (a ++ b) = flatE view a ++ flatE view b := by simp [flatE]
theorem flatE_cons (view : Int) (a : Ev) (b : List Ev) : flatE view (a :: b) = evB view a ++ flatE view b := by simp [flatE]

def evOf (σ : List Int) (m : Nat) (c : Cm) : List Ev :=
  if c.kind = 61 then (if isDiv c.op = true then [Ev.dv (vl σ c.xn c.xv.toNat) (vl σ c.yn c.yv.toNat)] else [])
  else if c.kind = 108 ∨ c.kind = 115 then [Ev.md (vl σ c.xn c.xv.toNat) (decide ((m : Int) ≤ vl σ c.xn c.xv.toNat))]
  else [Ev.tf (decide (vl σ c.xn c.xv.toNat ≠ 0))]

theorem evOf_mem {σ : List Int} {m : Nat} {c : Cm} (h : c.kind = 108 ∨ c.kind = 115) : evOf σ m c = [Ev.md (vl σ c.xn c.xv.toNat) (decide ((m : Int) ≤ vl σ c.xn c.xv.toNat))] := by
  unfold evOf
  rw [if_neg (by rcases h with h | h <;> rw [h] <;> decide), if_pos h]
theorem evOf_tst {σ : List Int} {m : Nat} {c : Cm} (h1 : ¬ c.kind = 61) (h2 : ¬ c.kind = 108) (h3 : ¬ c.kind = 115) : evOf σ m c = [Ev.tf (decide (vl σ c.xn c.xv.toNat ≠ 0))] := by
  unfold evOf
  rw [if_neg h1, if_neg (by rintro (h | h) <;> contradiction)]

theorem act_ev (V view : Int) (n m : Nat) (σ : List Int) (c : Cm) : (act V view n m σ c).2.1 = flatE view (evOf σ m c) := by
  by_cases h1 : c.kind = 61
  · unfold act evOf
    rw [if_pos h1, if_pos h1]
    unfold actSet
    by_cases hd : isDiv c.op = true
    · rw [if_pos hd, if_pos hd]
      split <;> simp [flatE, evB, Ev.dv, sdB] <;> split <;> simp
    · rw [if_neg hd, if_neg hd]; rfl
  · by_cases h2 : c.kind = 108
    · rw [evOf_mem (.inl h2), act, if_neg h1, if_pos h2]
      split <;> rename_i h <;> simp [flatE, evB, Ev.md, swB, h]
    · by_cases h3 : c.kind = 115
      · rw [evOf_mem (.inr h3), act, if_neg h1, if_neg h2, if_pos h3]
        split <;> rename_i h <;> simp [flatE, evB, Ev.md, swB, h]
      · rw [evOf_tst h1 h2 h3, act, if_neg h1, if_neg h2, if_neg h3]
        by_cases h0 : vl σ c.xn c.xv.toNat = 0 <;> simp [flatE, evB, Ev.tf, h0]

theorem act_view (V view : Int) (n m : Nat) (σ : List Int) (c : Cm) : (act V view n m σ c).1 = (act V 0 n m σ c).1 ∧ (act V view n m σ c).2.2 = (act V 0 n m σ c).2.2 := by
  unfold act
  by_cases h1 : c.kind = 61
  · rw [if_pos h1, if_pos h1]
    unfold actSet
    by_cases hd : isDiv c.op = true
    · rw [if_pos hd, if_pos hd]
      split <;> exact ⟨rfl, rfl⟩
    · rw [if_neg hd, if_neg hd]; exact ⟨rfl, rfl⟩
  · rw [if_neg h1, if_neg h1]
    by_cases h2 : c.kind = 108
    · rw [if_pos h2, if_pos h2]
      split <;> exact ⟨rfl, rfl⟩
    · rw [if_neg h2, if_neg h2]
      by_cases h3 : c.kind = 115
      · rw [if_pos h3, if_pos h3]
        split <;> exact ⟨rfl, rfl⟩
      · rw [if_neg h3, if_neg h3]; exact ⟨rfl, rfl⟩

theorem act_trap (V view : Int) (n m : Nat) (σ : List Int) (c : Cm) : ((act V view n m σ c).2.2.1 = true ∧ ∃ e, evOf σ m c = [e] ∧ e.trap = true) ∨ ((act V view n m σ c).2.2.1 = false ∧ ∀ e ∈ evOf σ m c, e.trap = false) := by
  by_cases h1 : c.kind = 61
  · unfold act evOf
    rw [if_pos h1, if_pos h1]
    unfold actSet
    by_cases hd : isDiv c.op = true
    · rw [if_pos hd, if_pos hd]
      split
      · rename_i h
        exact .inl ⟨rfl, _, rfl, by simp [Ev.trap, Ev.dv, h]⟩
      · rename_i h
        exact .inr ⟨rfl, by simp [Ev.trap, Ev.dv, h]⟩
    · rw [if_neg hd, if_neg hd]; exact .inr ⟨rfl, by simp⟩
  · by_cases h2 : c.kind = 108
    · rw [evOf_mem (.inl h2), act, if_neg h1, if_pos h2]
      split
      · rename_i h
        exact .inl ⟨rfl, _, rfl, by simp [Ev.trap, Ev.md, h]⟩
      · rename_i h
        exact .inr ⟨rfl, by simp [Ev.trap, Ev.md]; omega⟩
    · by_cases h3 : c.kind = 115
      · rw [evOf_mem (.inr h3), act, if_neg h1, if_neg h2, if_pos h3]
        split
        · rename_i h
          exact .inl ⟨rfl, _, rfl, by simp [Ev.trap, Ev.md, h]⟩
        · rename_i h
          exact .inr ⟨rfl, by simp [Ev.trap, Ev.md]; omega⟩
      · rw [evOf_tst h1 h2 h3, act, if_neg h1, if_neg h2, if_neg h3]
        exact .inr ⟨rfl, by simp [Ev.trap, Ev.tf]⟩

theorem evOf_ok {W n : Nat} {m : Nat} {σ : List Int} {c : Cm} (hc : CmOK (pw W) n c) (hf : Fits (pw W) σ) (hn : n ≤ σ.length) (hW : W ≤ 8) : ∀ e ∈ evOf σ m c, e.ok := by
  have b := vl_bd hf hc.x hn
  have hb := pw_bd W hW
  unfold evOf
  intro e he
  split at he
  · split at he
    · simp at he; subst he; trivial
    · simp at he
  · split at he
    · simp at he; subst he; exact ⟨b.1, by omega⟩
    · simp at he; subst he; trivial

/-- One run, in all views. -/
theorem runP_views {W n m : Nat} {cs : List Cm} (hW1 : 1 ≤ W) (hW : W ≤ 8) (hcs : CsOK (pw W) n cs) (f : Nat) : ∀ (g : Nat) (i : Int) (σ : List Int) (st : Nat) (es0 : List Ev), Fits (pw W) σ → n + m = σ.length → (∀ e ∈ es0, e.ok ∧ e.trap = false) →
    ∃ (tag : Int) (steps : Nat) (σ' : List Int) (es : List Ev), (∀ view, runP (pw W) view n m f cs g i σ (flatE view es0) st = ⟨tag, steps, flatE view es, σ'⟩) ∧ (∀ e ∈ es, e.ok) ∧ ((tag = 2 ∧ ∃ es1 e, es = es1 ++ [e] ∧ e.trap = true) ∨ (tag ≠ 2 ∧ ∀ e ∈ es, e.trap = false))
  | 0, i, σ, st, es0, hf, hn, h0 => ⟨3, st, σ, es0, fun _ => rfl, fun e he => (h0 e he).1, .inr ⟨by decide, fun e he => (h0 e he).2⟩⟩
  | g + 1, i, σ, st, es0, hf, hn, h0 => by
    cases hc : cs[i.toNat]? with
    | none => exact ⟨1, st, σ, es0, fun _ => runP_none _ _ _ _ _ hc, fun e he => (h0 e he).1, .inr ⟨by decide, fun e he => (h0 e he).2⟩⟩
    | some c =>
      by_cases hfu : f ≤ st
      · exact ⟨3, st, σ, es0, fun _ => runP_dry _ _ _ _ _ hc hfu, fun e he => (h0 e he).1, .inr ⟨by decide, fun e he => (h0 e he).2⟩⟩
      · have hmem : c ∈ cs := List.mem_of_getElem? hc
        have hco := (hcs c hmem).1
        have hok := evOf_ok (m := m) hco hf (by omega) hW
        have hall : ∀ e ∈ es0 ++ evOf σ m c, e.ok := fun e he => by
          rcases List.mem_append.1 he with he | he
          · exact (h0 e he).1
          · exact hok e he
        rcases act_trap (pw W) 0 n m σ c with ⟨ht, e, he, hte⟩ | ⟨ht, hnt⟩
        · refine ⟨2, st + 1, (act (pw W) 0 n m σ c).1, es0 ++ evOf σ m c, fun view => ?_, hall, .inl ⟨rfl, es0, e, by rw [he], hte⟩⟩
          have ht' : (act (pw W) view n m σ c).2.2.1 = true := by rw [(act_view _ view n m σ c).2]; exact ht
          rw [runP_trap _ _ _ _ _ hc hfu ht', act_ev, (act_view _ view n m σ c).1, flatE_append]
        · obtain ⟨tag, steps, σ', es, h1, h2, h3⟩ := runP_views hW1 hW hcs f g (act (pw W) 0 n m σ c).2.2.2 (act (pw W) 0 n m σ c).1 (st + 1) (es0 ++ evOf σ m c) (act_fits hco hf hn hW1) (by rw [act_σlen]; exact hn) (fun e he => ⟨hall e he, by
            rcases List.mem_append.1 he with he | he
            · exact (h0 e he).2
            · exact hnt e he⟩)
          refine ⟨tag, steps, σ', es, fun view => ?_, h2, h3⟩
          have ht' : ¬ (act (pw W) view n m σ c).2.2.1 = true := by rw [(act_view _ view n m σ c).2, ht]; simp
          rw [runP_step _ _ _ _ _ hc hfu ht', act_ev, (act_view _ view n m σ c).1, (act_view _ view n m σ c).2, ← flatE_append]
          exact h1 view

/-- Half of each number of a line, of so many pieces. -/
def HvN : Nat → List Int → List Int → Prop
  | 0, l, u => l = [] ∧ u = []
  | k + 1, l, u => (∃ c t u', l = c :: t ∧ u = c :: u' ∧ c ≠ 109 ∧ HvN k t u') ∨ (∃ a b t u', l = 109 :: hxd a :: hxd b :: t ∧ u = 109 :: hxd ((16 * a + b) / 2 / 16) :: hxd ((16 * a + b) / 2 % 16) :: u' ∧ 0 ≤ a ∧ a < 16 ∧ 0 ≤ b ∧ b < 16 ∧ HvN k t u')
def Hv (l u : List Int) : Prop := ∃ k, HvN k l u
theorem Hv.nil : Hv [] [] := ⟨0, rfl, rfl⟩
theorem Hv.one (c : Int) (t u : List Int) (h : c ≠ 109) : Hv t u → Hv (c :: t) (c :: u) := fun ⟨k, hk⟩ => ⟨k + 1, .inl ⟨c, t, u, rfl, rfl, h, hk⟩⟩
theorem Hv.mem (a b : Int) (t u : List Int) (h1 : 0 ≤ a) (h2 : a < 16) (h3 : 0 ≤ b) (h4 : b < 16) : Hv t u → Hv (109 :: hxd a :: hxd b :: t) (109 :: hxd ((16 * a + b) / 2 / 16) :: hxd ((16 * a + b) / 2 % 16) :: u) :=
  fun ⟨k, hk⟩ => ⟨k + 1, .inr ⟨a, b, t, u, rfl, rfl, h1, h2, h3, h4, hk⟩⟩
/-- Without lengths, of so many pieces. -/
def ShrN : Nat → List Int → List Int → Prop
  | 0, l, u => l = [] ∧ u = []
  | k + 1, l, u => (∃ c t u', l = c :: t ∧ u = c :: u' ∧ c ≠ 109 ∧ c ≠ 118 ∧ c ≠ 120 ∧ ShrN k t u') ∨ (∃ a b t u', l = 109 :: a :: b :: t ∧ u = 109 :: a :: b :: u' ∧ ShrN k t u') ∨ (∃ c a b t u', l = c :: a :: b :: t ∧ u = c :: u' ∧ (c = 118 ∨ c = 120) ∧ ShrN k t u')
def Shr (l u : List Int) : Prop := ∃ k, ShrN k l u
theorem Shr.nil : Shr [] [] := ⟨0, rfl, rfl⟩
theorem Shr.one (c : Int) (t u : List Int) (h1 : c ≠ 109) (h2 : c ≠ 118) (h3 : c ≠ 120) : Shr t u → Shr (c :: t) (c :: u) := fun ⟨k, hk⟩ => ⟨k + 1, .inl ⟨c, t, u, rfl, rfl, h1, h2, h3, hk⟩⟩
theorem Shr.mem (a b : Int) (t u : List Int) : Shr t u → Shr (109 :: a :: b :: t) (109 :: a :: b :: u) := fun ⟨k, hk⟩ => ⟨k + 1, .inr (.inl ⟨a, b, t, u, rfl, rfl, hk⟩)⟩
theorem Shr.dv (c a b : Int) (t u : List Int) (h : c = 118 ∨ c = 120) : Shr t u → Shr (c :: a :: b :: t) (c :: u) := fun ⟨k, hk⟩ => ⟨k + 1, .inr (.inr ⟨c, a, b, t, u, rfl, rfl, h, hk⟩)⟩

theorem hlv_succ : ∀ (t : Nat) (x : Int), 0 ≤ x → hlv (t + 1) x = hlv t x / 2
  | 0, x, h => by
    rw [hlv, hlv]
    split
    · rfl
    · rw [show x = 0 from by omega]; rfl
  | t + 1, x, h => by
    rw [hlv]
    split
    · rename_i hx
      rw [hlv_succ t (x / 2) (by omega)]
      conv => rhs; rw [hlv, if_pos hx]
    · rw [show x = 0 from by omega, hlv_nil]; rfl

theorem shn_low (view x : Int) (h : view ≤ 2) : shn view x = x := by
  unfold shn
  split
  · rw [show view - 2 = 0 from by omega]; rfl
  · rfl
theorem shn_half (view x : Int) (h : 2 ≤ view) (hx : 0 ≤ x) : shn (view + 1) x = shn view x / 2 := by
  unfold shn
  rw [if_pos (by omega), if_pos h, show (view + 1 - 2).toNat = (view - 2).toNat + 1 from by omega]
  exact hlv_succ _ _ hx

theorem short_flat : ∀ es, Shr (flatE 1 es) (flatE 0 es)
  | [] => .nil
  | e :: es => by
    rw [flatE_cons, flatE_cons]
    have ih := short_flat es
    rcases e with b | ⟨x, o⟩ | ⟨x, y⟩
    · cases b <;> exact .one _ _ _ (by decide) (by decide) (by decide) ih
    · simp only [evB, shn_low 1 x (by omega), shn_low 0 x (by omega), List.cons_append]
      refine .mem _ _ _ _ ?_
      cases o
      · exact ih
      · exact .one _ _ _ (by decide) (by decide) (by decide) ih
    · simp only [evB, List.cons_append]
      refine .dv _ _ _ _ _ ?_ ih
      split <;> simp

theorem base_flat : ∀ es, flatE 2 es = flatE 0 es
  | [] => rfl
  | e :: es => by
    rw [flatE_cons, flatE_cons, base_flat es]
    rcases e with b | ⟨x, o⟩ | ⟨x, y⟩
    · rfl
    · simp only [evB, shn_low 2 x (by omega), shn_low 0 x (by omega)]
    · rfl

theorem half_flat (view : Int) (hv : 2 ≤ view) : ∀ es : List Ev, (∀ e ∈ es, e.ok) → Hv (flatE view es) (flatE (view + 1) es)
  | [], _ => .nil
  | e :: es, h => by
    rw [flatE_cons, flatE_cons]
    have ih := half_flat view hv es (fun e he => h e (by simp [he]))
    have hok := h e (by simp)
    rcases e with b | ⟨x, o⟩ | ⟨x, y⟩
    · cases b <;> exact .one _ _ _ (by decide) ih
    · have hx : 0 ≤ x ∧ x ≤ 255 := hok
      have hb := shn_bd view x hx.1 hx.2
      have e1 : (16 * (shn view x / 16) + shn view x % 16) / 2 = shn (view + 1) x := by rw [shn_half view x hv hx.1]; omega
      simp only [evB, List.cons_append]
      have := Hv.mem (shn view x / 16) (shn view x % 16) ((if o = true then [111] else []) ++ flatE view es) ((if o = true then [111] else []) ++ flatE (view + 1) es) (by omega) (by omega) (by omega) (by omega) (by
        cases o
        · exact ih
        · exact .one _ _ _ (by decide) ih)
      rw [e1] at this
      exact this
    · simp only [evB, if_neg (show ¬ view = 1 by omega), if_neg (show ¬ view + 1 = 1 by omega), List.cons_append, List.nil_append]
      refine .one _ _ _ ?_ ih
      split <;> decide

theorem hxd_bd (x : Int) (h0 : 0 ≤ x) (h1 : x < 16) : 48 ≤ hxd x ∧ hxd x ≤ 102 := by unfold hxd; split <;> omega
theorem evB_bd {view : Int} {e : Ev} (h : e.ok) : ∀ x ∈ evB view e, 48 ≤ x ∧ x ≤ 120 := by
  rcases e with b | ⟨x, o⟩ | ⟨x, y⟩
  · cases b <;> simp [evB]
  · have hx : 0 ≤ x ∧ x ≤ 255 := h
    have hb := shn_bd view x hx.1 hx.2
    have q1 := hxd_bd (shn view x / 16) (by omega) (by omega)
    have q2 := hxd_bd (shn view x % 16) (by omega) (by omega)
    cases o <;> simp [evB] <;> omega
  · have q1 := hxd_bd (btc 8 x) (by have := btc_bd 8 x; omega) (by have := btc_bd 8 x; omega)
    have q2 := hxd_bd (btc 8 y) (by have := btc_bd 8 y; omega) (by have := btc_bd 8 y; omega)
    simp only [evB]
    split <;> split <;> simp <;> omega
theorem flatE_bd (view : Int) {es : List Ev} (h : ∀ e ∈ es, e.ok) : ∀ x ∈ flatE view es, 48 ≤ x ∧ x ≤ 120 := by
  intro x hx
  obtain ⟨e, he, hx⟩ := List.mem_flatMap.1 hx
  exact evB_bd (h e he) x hx

/-- What is seen by Base ends so just if the run was trapped. -/
theorem trap_last {es : List Ev} (hok : ∀ e ∈ es, e.ok) {tag : Int} (h : (tag = 2 ∧ ∃ es1 e, es = es1 ++ [e] ∧ e.trap = true) ∨ (tag ≠ 2 ∧ ∀ e ∈ es, e.trap = false)) :
    (flatE 0 es = [] ∧ tag ≠ 2) ∨ ∃ t c, flatE 0 es = t ++ [c] ∧ ((c = 111 ∨ c = 120) ↔ tag = 2) := by
  rcases h with ⟨ht, es1, e, rfl, he⟩ | ⟨ht, hn⟩
  · right
    rw [flatE_append]
    rcases e with b | ⟨x, o⟩ | ⟨x, y⟩
    · cases he
    · have ho : o = true := he
      subst ho
      exact ⟨flatE 0 es1 ++ [109, hxd (shn 0 x / 16), hxd (shn 0 x % 16)], 111, by simp [flatE, evB], by simp [ht]⟩
    · have hy : y = 0 := by simpa [Ev.trap] using he
      subst hy
      exact ⟨flatE 0 es1, 120, by simp [flatE, evB], by simp [ht]⟩
  · rcases List.eq_nil_or_concat es with rfl | ⟨es1, e, rfl⟩
    · exact .inl ⟨rfl, ht⟩
    · right
      have he := hn e (by simp)
      have hk := hok e (by simp)
      rw [List.concat_eq_append, flatE_append]
      rcases e with b | ⟨x, o⟩ | ⟨x, y⟩
      · exact ⟨flatE 0 es1, _, by simp [flatE, evB]; rfl, by cases b <;> simp [ht]⟩
      · have ho : o = false := he
        subst ho
        have hx : 0 ≤ x ∧ x ≤ 255 := hk
        have hb := shn_bd 0 x hx.1 hx.2
        have q2 := hxd_bd (shn 0 x % 16) (by omega) (by omega)
        exact ⟨flatE 0 es1 ++ [109, hxd (shn 0 x / 16)], hxd (shn 0 x % 16), by simp [flatE, evB], by
          constructor
          · intro h; omega
          · intro h; exact absurd h ht⟩
      · have hy : ¬ y = 0 := by simpa [Ev.trap] using he
        exact ⟨flatE 0 es1, 118, by simp [flatE, evB, hy], by simp [ht]⟩
end Go.Proofs.Ytfolokhilkffcaa
