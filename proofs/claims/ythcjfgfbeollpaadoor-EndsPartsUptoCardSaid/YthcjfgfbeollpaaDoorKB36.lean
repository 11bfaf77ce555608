/- The document's number and times (layer 8). -/
import Derived.Test.YthcjfgfbeollpaaDoorKB28
import Derived.Test.YthcjfgfbeollpaaDoorKB23
import Derived.Test.YthcjfgfbeollpaaDoorKB29
import Derived.Test.YthcjfgfbeollpaaDoorKB30
import Derived.Test.YthcjfgfbeollpaaDoorKB03
import Derived.Test.YthcjfgfbeollpaaDoorKB12
namespace Go.Proofs.YthcjfgfbeollpaaDoor
namespace P08
open Go.RowKit Base Bytes P07
open Sets (ST)
theorem num_len (n:Nat):(numT n).length≤2:=by
 unfold numT
 split <;> simp
end P08
namespace P09
open Go.RowKit Base Bytes P07 P08
open Sets (ST)
@[reducible] def xcells (x:TX):Array Value:=#[.bool x.none,.bool x.endless,.int .u64 x.first.x0,.int .u64 x.first.x1,.int .u64 x.first.x2,.int .u64 x.first.x3,.int .i64 x.least,.int .i64 x.most]
@[reducible] def xV (x:TX):Value:=.agg (xcells x)
@[reducible] def xzeros:Array Value:=#[.bool false,.bool false,.int .u64 0,.int .u64 0,.int .u64 0,.int .u64 0,.int .i64 0,.int .i64 0]
def TX.len (x:TX):Int × Int:=if x.none=true then (-1,-1) else if x.endless=true then (x.least,-1) else (x.least,x.most)
end P09
end Go.Proofs.YthcjfgfbeollpaaDoor
