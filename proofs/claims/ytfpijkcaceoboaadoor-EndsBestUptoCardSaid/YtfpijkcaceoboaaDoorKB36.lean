/- The document's number and times (layer 8). -/
import Derived.Test.YtfpijkcaceoboaaDoorKB28
import Derived.Test.YtfpijkcaceoboaaDoorKB23
import Derived.Test.YtfpijkcaceoboaaDoorKB29
import Derived.Test.YtfpijkcaceoboaaDoorKB30
import Derived.Test.YtfpijkcaceoboaaDoorKB03
import Derived.Test.YtfpijkcaceoboaaDoorKB12
namespace Go.Proofs.YtfpijkcaceoboaaDoor.P08
open Go.RowKit Go.Proofs.YtfpijkcaceoboaaDoor.Base Go.Proofs.YtfpijkcaceoboaaDoor.Bytes Go.Proofs.YtfpijkcaceoboaaDoor.P07
open Go.Proofs.YtfpijkcaceoboaaDoor.Sets (ST)

theorem num_len (n : Nat) : (numT n).length ≤ 2 := by
  unfold numT
  split <;> simp

end Go.Proofs.YtfpijkcaceoboaaDoor.P08
/- The code's bytesOf, then, or, repeated, length (layer 9). -/
namespace Go.Proofs.YtfpijkcaceoboaaDoor.P09
open Go.RowKit Go.Proofs.YtfpijkcaceoboaaDoor.Base Go.Proofs.YtfpijkcaceoboaaDoor.Bytes Go.Proofs.YtfpijkcaceoboaaDoor.P07 Go.Proofs.YtfpijkcaceoboaaDoor.P08
open Go.Proofs.YtfpijkcaceoboaaDoor.Sets (ST)

@[reducible] def xcells (x : TX) : Array Value := #[.bool x.none, .bool x.endless, .int .u64 x.first.x0, .int .u64 x.first.x1, .int .u64 x.first.x2, .int .u64 x.first.x3, .int .i64 x.least, .int .i64 x.most]
@[reducible] def xV (x : TX) : Value := .agg (xcells x)
@[reducible] def xzeros : Array Value := #[.bool false, .bool false, .int .u64 0, .int .u64 0, .int .u64 0, .int .u64 0, .int .i64 0, .int .i64 0]
/-- Length's answer. -/
def TX.len (x : TX) : Int × Int := if x.none = true then (-1, -1) else if x.endless = true then (x.least, -1) else (x.least, x.most)
end Go.Proofs.YtfpijkcaceoboaaDoor.P09
