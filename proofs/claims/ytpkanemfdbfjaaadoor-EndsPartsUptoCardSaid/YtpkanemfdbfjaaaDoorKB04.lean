/- The library's contract on bits.Len64, laid at this program's own numbers. -/
import Derived.Test.YtpkanemfdbfjaaaDoorKB02
import Derived.Shelf.Strconv.Itoa0
import Derived.Test.YtpkanemfdbfjaaaDoorKB03
import Derived.Test.YtpkanemfdbfjaaaDoorChecked
namespace Go.Proofs.YtpkanemfdbfjaaaDoor
namespace Lay
open Go.Shelf
open Go.RowKit
theorem bits_Len64 (x:Int) (w:World) (h0:0≤x) (h1:x≤18446744073709551615) :
  Calls Tryd.prog 30 #[.int .u64 x] w fun e w'=>e=.returned (.int .i64 (Lib.bitLen x.toNat))∧w'=w:=Any.bits_Len64 lays129 x w h0 h1
end Lay
end Go.Proofs.YtpkanemfdbfjaaaDoor
