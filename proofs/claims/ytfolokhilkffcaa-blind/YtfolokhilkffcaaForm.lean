/-
  The document's forms, as plain functions.
-/
import Derived.Test.YtfolokhilkffcaaChars
namespace Go.Proofs.Ytfolokhilkffcaa
open Go.RowKit

theorem ret_int {k : IntKind} {a b : Int} (h : a = b) : Ending.returned (.int k a) = .returned (.int k b) := by rw [h]
theorem ret_bool {a b : Bool} (h : a = b) : Ending.returned (.bool a) = .returned (.bool b) := by rw [h]

/-- The place of the first byte c from i on; -1: there is none. -/
def fnd (s : ByteArray) (c : Int) : Nat → Nat → Int
  | 0, _ => -1
  | f + 1, i => if h : i < s.size then (if (s[i].toNat : Int) = c then (i : Int) else fnd s c f (i + 1)) else -1

/-- What must stand behind the first byte. -/
def opS (c : Int) : List UInt8 :=
  if c = 61 then [118, 120, 111, 120] else if c = 108 then [118, 120] else if c = 115 then [120, 120] else if c = 63 then [120, 40, 66, 41, 40, 66, 41] else if c = 33 then [120, 40, 66, 41]
  else if c = 122 then [120, 110, 110] else if c = 106 then [110, 110] else []
def opB (e c : Int) : Bool :=
  if c = 61 then true else if c = 108 then true else if c = 115 then true else if c = 63 then e == 66 else if c = 33 then e == 66 else if c = 122 then e != 66 else if c = 106 then e != 66 else if c = 104 then e != 66 else false

def isName (c n : Int) : Bool := decide (97 ≤ c) && decide (c - 97 < n)
def isDig (c : Int) : Bool := decide (48 ≤ c) && decide (c ≤ 57)

/-- May the byte c stand where x may, in a text of n variables? -/
def stn (x c n : Int) : Bool :=
  if x = 87 then (decide (49 ≤ c) && decide (c ≤ 56))
  else if x = 107 ∨ x = 75 then (c == 112 || c == 115)
  else if x = 118 then isName c n
  else if x = 120 then (isName c n || isDig c)
  else if x = 111 then isOp c
  else if x = 110 then (isDig c || (decide (97 ≤ c) && decide (c ≤ 102)))
  else c == x

/-- What may stand behind the byte c, where now stands a form. -/
def nxtL (c n : Int) : List UInt8 → Option (List UInt8)
  | [] => none
  | x :: rest =>
    if (x.toNat : Int) = 66 ∨ (x.toNat : Int) = 67 ∨ (x.toNat : Int) = 76 then
      if opB x.toNat c = true then some (opS c ++ (if (x.toNat : Int) = 76 then 67 :: rest else x :: rest))
      else if (x.toNat : Int) = 76 then none else nxtL c n rest
    else if stn x.toNat c n = true then some rest
    else if (x.toNat : Int) = 75 then nxtL c n rest else none

theorem drop_at (s : ByteArray) (k : Nat) (h : k < s.size) : s.data.toList.drop k = s[k] :: s.data.toList.drop (k + 1) := by
  rw [List.drop_eq_getElem_cons (by simpa using h)]; rfl

theorem opS_len (c : Int) : (opS c).length ≤ 7 := by
  unfold opS
  repeat' split
  all_goals simp

theorem ext_data (s : ByteArray) (a b : Nat) : (s.extract a b).data.toList = (s.data.toList.drop a).take (b - a) := by
  obtain ⟨⟨l⟩⟩ := s
  rw [ByteArray.extract_mk]
theorem ext_list (s : ByteArray) (k : Nat) : (s.extract k s.size).data.toList = s.data.toList.drop k := by
  rw [ext_data, List.take_of_length_le]
  rw [List.length_drop, Array.length_toList, ByteArray.size_data]
  exact Nat.le_refl _

theorem cat_list (a : List UInt8) (s : ByteArray) : ((⟨a.toArray⟩ : ByteArray) ++ s).data.toList = a ++ s.data.toList := by
  simp [ByteArray.data_append]
theorem cat_list3 (a : List UInt8) (s : ByteArray) : ((⟨a.toArray⟩ : ByteArray) ++ ⟨#[67]⟩ ++ s).data.toList = a ++ 67 :: s.data.toList := by
  simp [ByteArray.data_append]

/-- A text against a form: none: it fits; else how far it fits. -/
def shL (n : Int) : List UInt8 → List UInt8 → Option Nat
  | [], form => if form = [66] ∨ form = [67] then none else some 0
  | c :: t, form => match nxtL c.toNat n form with
    | none => some 0
    | some f => (shL n t f).map (· + 1)

theorem nxtL_len (c n : Int) : ∀ (l l' : List UInt8), nxtL c n l = some l' → l'.length ≤ l.length + 7
  | [], l', h => by simp [nxtL] at h
  | x :: rest, l', h => by
    have ho := opS_len c
    unfold nxtL at h
    split at h
    · split at h
      · simp only [Option.some.injEq] at h
        subst h
        split <;> simp <;> omega
      · split at h
        · cases h
        · have := nxtL_len c n rest l' h
          simp; omega
    · split at h
      · simp only [Option.some.injEq] at h
        subst h
        simp; omega
      · split at h
        · have := nxtL_len c n rest l' h
          simp; omega
        · cases h

theorem fnd_bd (s : ByteArray) (c : Int) : ∀ f i, -1 ≤ fnd s c f i ∧ fnd s c f i ≤ s.size
  | 0, i => by unfold fnd; omega
  | f + 1, i => by
    unfold fnd
    split
    · split
      · omega
      · exact fnd_bd s c f (i + 1)
    · omega

/-- The number of variables, as the document's shape reckons it. -/
def nvar (s : ByteArray) : Int := fnd s 47 s.size 0 - 1

theorem toList_data' (s : ByteArray) : s.toList = s.data.toList := ByteArray.toList_eq s

/-- The form of kernels. -/
def kernF : List UInt8 := [87, 107, 75, 75, 75, 75, 75, 75, 75, 47, 75, 75, 75, 75, 75, 75, 75, 75, 75, 75, 75, 75, 75, 75, 75, 75, 58, 66]

/-- What the document's Check answers. -/
def rchk (s : ByteArray) : Int × Int := if 300 < s.size then (1, 0) else match shL (nvar s) s.data.toList kernF with
  | none => (0, 0)
  | some k => (2, k)
end Go.Proofs.Ytfolokhilkffcaa
