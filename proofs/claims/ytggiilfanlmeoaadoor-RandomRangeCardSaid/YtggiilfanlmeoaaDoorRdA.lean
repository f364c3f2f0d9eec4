/- Random: the table, the head, Next. -/
import Derived.Test.YtggiilfanlmeoaaDoorEvQ
import Derived.Test.YtggiilfanlmeoaaDoorLaid
import Derived.Test.YtggiilfanlmeoaaDoorBv
namespace Go.Proofs.YtggiilfanlmeoaaDoor
open Go Go.ChangeShapes Go.WideShapes Go.ChangeAt Go.RowKit
set_option linter.all false
/-- the table of steps, in a world -/
def Tab (w : World) : Prop := Laid.VarIs 0 [.int .u64 30, .int .u64 13787848793156543929, .int .u64 27, .int .u64 10723151780598845931, .int .u64 31, .int .u64 1] w
theorem Tab.below {w w' : World} (h : Tab w) (hb : Below w.heap.size w w') : Tab w' := Laid.VarIs.below h hb
def tabL : List Value := [.int .u64 30, .int .u64 13787848793156543929, .int .u64 27, .int .u64 10723151780598845931, .int .u64 31, .int .u64 1]
def tabE : Ev.Ent := Ev.tabE 0 tabL
theorem tab_ext {w : World} (h : Tab w) : Ev.ExtOk w [tabE] := Ev.tab_ext (g := 0) (x := .int .u64 30) (L := tabL.tail) h
/-- a function of values and of the table -/
def tabH (k : Value → Value) (g : List Value → Option Value) : Ev.SumF := Ev.tabH 0 tabL k g
def tabS : (List Value → Option Value) → Ev.SumF := tabH Ev.pois
theorem tabH_ok {k : Value → Value} {f : FuncId} {g : List Value → Option Value} (h : ∀ a v, g a = some v → ∀ w, Tab w → Calls Tryd.prog f a.toArray w fun e w' => e = .returned v ∧ Below w.heap.size w w') (N : Nat → Prop) (w0 : World) : Ev.SumOk1 Tryd.prog N w0 f (tabH k g) :=
  Ev.tabH_ok (n := 0) (L := tabL) (fun a v hg w ht => h a v hg w ht) N w0
theorem tabS_ok {f : FuncId} {g : List Value → Option Value} (h : ∀ a v, g a = some v → ∀ w, Tab w → Calls Tryd.prog f a.toArray w fun e w' => e = .returned v ∧ Below w.heap.size w w') (N : Nat → Prop) (w0 : World) : Ev.SumOk1 Tryd.prog N w0 f (tabS g) := tabH_ok h N w0
end Go.Proofs.YtggiilfanlmeoaaDoor
