/- The code's Same (layer 7). -/
import Derived.Test.YtfpijkcaceoboaaDoorKK21
import Derived.Test.YtfpijkcaceoboaaDoorKK30
import Derived.Deep.RegionLaw
namespace Go.Proofs.YtfpijkcaceoboaaDoor.P07
open Go.RowKit Go.Proofs.YtfpijkcaceoboaaDoor.Base Go.Proofs.YtfpijkcaceoboaaDoor.IL Go.Proofs.YtfpijkcaceoboaaDoor.Bytes
open Go.Proofs.YtfpijkcaceoboaaDoor.Sets (ST)

theorem step_append_run {P : Program} (w : World) {ops : Array Oper} {o : Oper} {a : Act} {K : Act → World → Prop} {Q : Exit → Act → World → Prop} {E : Prop} (hgd : o.guard = none) (s x : Operand) (t tn : TypeId)
    (ho : o.op = .call { callee := .builtin .append, args := #[s, x], argTypes := #[t, tn] }) (vs vx : Value) (hs : a.eval s = vs) (hx : a.eval x = vx)
    (v' : Value) (w' : World) (hr : (Builtin.append_ #[t, tn] o.type #[vs, vx]).run P w = .ok v' w') (h : K (a.put o.dst v') w') :
    if Region.wanted o (yielded ops a.tmps) = true then Oper.wp P o a w K Q else E := by
  have hw : Region.wanted o (yielded ops a.tmps) = true := by simp [Region.wanted, hgd]
  rw [if_pos hw]
  exact Lib.wp_append_run w s x t tn ho vs vx hs hx v' w' hr h

end Go.Proofs.YtfpijkcaceoboaaDoor.P07
