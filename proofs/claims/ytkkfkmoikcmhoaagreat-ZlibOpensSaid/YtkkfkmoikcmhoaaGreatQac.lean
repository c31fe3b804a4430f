/- LtB, LtC, LtG: merged. -/
import Derived.Deep.Slices
import Derived.Deep.Fields
import Derived.ChangeSame
import Derived.RegionTactic
import Derived.BigRegion
import Derived.OwnWalk
import Derived.Deep.AppendLies
import Derived.Deep.RegionLaw
import Derived.Laws.Externs
import Derived.Laws.IdiomCopy
import Derived.Lib.EndianMore
import Derived.Shelf.Spec.SlicesGrow
import Derived.LoopTactic
import Derived.Lib.MinMax
import Derived.Deep.RegionHeld3
import Derived.Deep.OwnRows
import Derived.Test.YtkkfkmoikcmhoaaGreatQaa
import Derived.Test.YtkkfkmoikcmhoaaGreatQab
set_option linter.unusedVariables false
set_option linter.unusedSimpArgs false
namespace Go.Proofs.YtkkfkmoikcmhoaaGreat.Lzt
open Go.RowKit Go.Shelf Oct
set_option maxRecDepth 100000
theorem Y3g {P : Program} {w : World} {ops : Array Oper} {rest : List Oper} {o : Oper} {a : Act} {Q : Exit → Act → World → Prop}
  (hg : o.guard = none) (d x : Operand) (dT sT : TypeId) (hop : o.op = Op.call { callee := Callee.builtin Builtin.copy, args := #[d, x], argTypes := #[dT, sT] })
  (v u : Value) (hd : a.eval d = v) (hx : a.eval x = u) {v' : Value} {w' : World} (hr : (Builtin.copy_ #[dT, sT] o.type #[v, u]).run P w = .ok v' w') (hK : wpList P ops Q rest (a.put o.dst v') w') : wpList P ops Q (o :: rest) a w := by
 refine wpList_plain hg fun K hK' => ?_
 unfold Oper.wp execOp
 simp only [hop, resolve, invoke, builtin, Sem.run_bind, Sem.run_pure, Result.andThen_ok, List.map_toArray, List.map_cons, List.map_nil, hd, hx, hr]
 exact hK' _ _ hK
end Go.Proofs.YtkkfkmoikcmhoaaGreat.Lzt
namespace Go.Proofs.YtkkfkmoikcmhoaaGreat.Lzt
open Go.RowKit Oct
set_option maxRecDepth 100000
structure Fdr where
 xs : List UInt8
 p : Option Addr
 cap : Nat
 C : Nat
 d : Nat
 g : Nat
 h : Nat
 m : Nat
section
variable {w w' : World} {K : Fdr} {a : Nat}
end
end Go.Proofs.YtkkfkmoikcmhoaaGreat.Lzt
namespace Go.Proofs.YtkkfkmoikcmhoaaGreat.Lzt
open Go.RowKit Oct
set_option maxRecDepth 100000
def Plain (t : Tok) : Prop := (t.len = 0 → t.dist = 0) ∧ (t.len ≠ 0 → t.lit = 0)
end Go.Proofs.YtkkfkmoikcmhoaaGreat.Lzt
