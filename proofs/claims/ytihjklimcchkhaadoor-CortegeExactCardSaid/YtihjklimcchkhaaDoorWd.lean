/- Words, as plain data. A template (fill.py). -/
import Derived.Lib.Hide
namespace Go.Proofs.YtihjklimcchkhaaDoor
structure Wd where
  slot : Int
  gen : Int
  tag : Int
  num : Int
  mark : Bool
instance (a b : Wd) : Decidable (a = b) := decidable_of_iff (a.slot = b.slot ∧ a.gen = b.gen ∧ a.tag = b.tag ∧ a.num = b.num ∧ a.mark = b.mark) (by cases a; cases b; simp)
def Wd.Good (a : Wd) : Prop := (0 ≤ a.slot ∧ a.slot ≤ 1024) ∧ (0 ≤ a.gen ∧ a.gen ≤ 1099511627776) ∧ (0 ≤ a.tag ∧ a.tag ≤ 1099511627776) ∧ (-1099511627776 ≤ a.num ∧ a.num ≤ 1099511627776) ∧ (a.slot = 0 → a.gen = 0)
instance (a : Wd) : Decidable a.Good := by unfold Wd.Good; infer_instance
end Go.Proofs.YtihjklimcchkhaaDoor
