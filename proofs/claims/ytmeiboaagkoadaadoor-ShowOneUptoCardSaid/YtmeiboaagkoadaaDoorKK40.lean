/- The document's number and times (layer 8). -/
import Derived.Test.YtmeiboaagkoadaaDoorKK35
import Derived.Test.YtmeiboaagkoadaaDoorKK32
namespace Go.Proofs.YtmeiboaagkoadaaDoor.P08
open Go.RowKit Go.Proofs.YtmeiboaagkoadaaDoor.Base Go.Proofs.YtmeiboaagkoadaaDoor.Bytes Go.Proofs.YtmeiboaagkoadaaDoor.P07
open Go.Proofs.YtmeiboaagkoadaaDoor.Sets (ST)

theorem num_len (n : Nat) : (numT n).length ≤ 2 := by
  unfold numT
  split <;> simp

end Go.Proofs.YtmeiboaagkoadaaDoor.P08
