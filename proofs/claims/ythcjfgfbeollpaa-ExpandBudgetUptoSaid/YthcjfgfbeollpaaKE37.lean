/- The code's bytesOf, then, or, repeated, length (layer 9). -/
import Derived.Test.YthcjfgfbeollpaaKE32
import Derived.Test.YthcjfgfbeollpaaKE04
import Derived.Test.YthcjfgfbeollpaaKE11
import Derived.Deep.DeepCutAuto
import Derived.Deep.CutBlock
import Derived.Test.YthcjfgfbeollpaaKE29
import Derived.Test.YthcjfgfbeollpaaKE33
import Derived.Test.YthcjfgfbeollpaaKE27
import Derived.Test.YthcjfgfbeollpaaKE22
namespace Go.Proofs.Ythcjfgfbeollpaa.P09
open Go.RowKit Go.Proofs.Ythcjfgfbeollpaa.Base Go.Proofs.Ythcjfgfbeollpaa.Bytes Go.Proofs.Ythcjfgfbeollpaa.P07 Go.Proofs.Ythcjfgfbeollpaa.P08
open Go.Proofs.Ythcjfgfbeollpaa.Sets (ST)

@[reducible] def xcells (x : TX) : Array Value := #[.bool x.none, .bool x.endless, .int .u64 x.first.x0, .int .u64 x.first.x1, .int .u64 x.first.x2, .int .u64 x.first.x3, .int .i64 x.least, .int .i64 x.most]
@[reducible] def xV (x : TX) : Value := .agg (xcells x)
@[reducible] def xzeros : Array Value := #[.bool false, .bool false, .int .u64 0, .int .u64 0, .int .u64 0, .int .u64 0, .int .i64 0, .int .i64 0]
/-- Length's answer. -/
def TX.len (x : TX) : Int × Int := if x.none = true then (-1, -1) else if x.endless = true then (x.least, -1) else (x.least, x.most)
end Go.Proofs.Ythcjfgfbeollpaa.P09
/- The code's exported measures (layer 9): Size, Wide, Nullable, First, Length, None. -/
namespace Go.Proofs.Ythcjfgfbeollpaa.P09
open Go.RowKit Go.Proofs.Ythcjfgfbeollpaa.Base Go.Proofs.Ythcjfgfbeollpaa.Bytes Go.Proofs.Ythcjfgfbeollpaa.P07 Go.Proofs.Ythcjfgfbeollpaa.P08
open Go.Proofs.Ythcjfgfbeollpaa.Sets (ST)

set_option maxRecDepth 100000 in
set_option maxHeartbeats 2000000 in
theorem mwide_any (t : T) (hs : SOk t)  (a : Option Addr) (c : Nat) (w : World) (hL : Lie w (fun _ => True) a t.subs) :
    Calls Try.prog 54 #[nodeV t a c] w fun e w' => e = .returned (if rightB t = true then .int .i64 (wd t) else .int .i64 0) ∧ Keep (fun _ => False) w w' := by
  have q := (Keep.refl (fun _ => False) w).alloc (.cells (ncells t a c) 27)
  have H0 := Lib.hid (And.intro (Bx.new (c := c) hL) (And.intro q (And.intro hs trivial)))
  clear hL q hs 
  cases hr : rightB t
  all_goals
    have HR := Lib.hid hr
    clear hr
    go_enter Try.func54, Try.ntmps54
    go_upto_region 1 with fail
    generalize (w.alloc (.cells (ncells t a c) 27)) = W at *
    obtain ⟨c0, c1, c2, c3, c4, c5, c6, c7⟩ := H0.out.1.eight
    go_wp2_with fail
    refine (cRight_any t H0.out.2.2.1 a c W H0.out.1.lie).mono ?_
    rintro e w1 ⟨rfl, q1⟩
    rw [HR.out]
    have H1 := Lib.hid (And.intro (H0.out.1.keep q1) (H0.out.2.1.trans q1))
    clear q1 c0 c1 c2 c3 c4 c5 c6 c7
  · go_wp2_with fail
    go_ret
    exact ⟨rfl, H1.out.2⟩
  · have hR := (rightB_iff H0.out.2.2.1).1 HR.out
    have HC := Lib.hid (cwide_all _ t (Nat.lt_succ_self _) 12 hR w.heap.size 0 a c w1 (NodeP.of_at H1.out.1.cell) H1.out.1.lie)
    clear hR
    go_wp2_with fail
    refine HC.out.mono ?_
    rintro e w2 ⟨rfl, q2⟩
    have Q2 := Lib.hid (H1.out.2.trans q2)
    clear q2
    go_wp2_with fail
    go_ret
    exact ⟨rfl, Q2.out⟩

end Go.Proofs.Ythcjfgfbeollpaa.P09
/- The document's number and times (layer 8). -/
namespace Go.Proofs.Ythcjfgfbeollpaa.P08
open Go.RowKit Go.Proofs.Ythcjfgfbeollpaa.Base Go.Proofs.Ythcjfgfbeollpaa.Bytes Go.Proofs.Ythcjfgfbeollpaa.P07
open Go.Proofs.Ythcjfgfbeollpaa.Sets (ST)

theorem num_len (n : Nat) : (numT n).length ≤ 2 := by
  unfold numT
  split <;> simp

end Go.Proofs.Ythcjfgfbeollpaa.P08
