/-
  The document's side: stands.
-/
import Derived.Test.YtfolokhilkffcaaGreatRef
namespace Go.Proofs.YtfolokhilkffcaaGreat
open Go.RowKit

def isName (c n : Int) : Bool := decide (97 ≤ c) && decide (c - 97 < n)
def isDig (c : Int) : Bool := decide (48 ≤ c) && decide (c ≤ 57)

/-- May the byte c stand where x may, in a text of n variables? -/
def stn (x c n : Int) : Bool :=
  if x = 87 then (decide (49 ≤ c) && decide (c ≤ 56))
  else if x = 107 ∨ x = 75 then (c == 112 || c == 115)
  else if x = 118 then isName c n
  else if x = 120 then (isName c n || isDig c)
  else if x = 111 then isOp c
  else if x = 110 then (isDig c || (decide (97 ≤ c) && decide (c ≤ 102)))
  else c == x

set_option maxHeartbeats 4000000 in
theorem stands_any (x c n : Int) (w : World) (h0 : 0 ≤ c) (h1 : c ≤ 255) :
    Calls Tryz.prog 65 #[.int .u8 x, .int .u8 c, .int .i64 n] w fun e w' => e = .returned (.bool (stn x c n)) ∧ w' = w := by
  generalize hr : stn x c n = r
  have Hr := hide hr
  clear hr
  go_enter Tryz.func65, Tryz.ntmps65
  go_wp2_with (go_at_call 56; refine (in_any _ (by decide) _ _).mono ?_; rintro e w' ⟨rfl, rfl⟩; rw [inn_ops])
  all_goals
    go_ret
    refine ⟨?_, rfl⟩
    rw [← unhide Hr]
    clear Hr
    apply ret_bool
    unfold stn isName isDig
    simp_all
    try omega
end Go.Proofs.YtfolokhilkffcaaGreat
