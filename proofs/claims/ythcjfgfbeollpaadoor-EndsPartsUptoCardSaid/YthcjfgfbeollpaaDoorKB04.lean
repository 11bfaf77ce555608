/- The library's contract on bits.Len64, laid at this program's own numbers. -/
import Derived.Shelf.Strconv.Itoa0
import Derived.Test.YthcjfgfbeollpaaDoorKB03
import Derived.Test.YthcjfgfbeollpaaDoorChecked
namespace Go.Proofs.YthcjfgfbeollpaaDoor
namespace Lay
open Go.Shelf
open Go.RowKit
def lays129_ren:Go.Shelf.Ren:=⟨fun | 129=>30 | n=>n,fun | 53=>22 | 3=>3 | 4=>4 | 46=>76 | 5=>5 | 9=>9 | n=>n,fun | n=>n⟩
theorem lays129:Go.Proofs.Lays.n129 Tryd.prog lays129_ren:={
 mixed:=by kernel_rfl
 f129:=Tryd.func30.trans (congrArg some (by kernel_rfl))
 t3:=Tryd.underlying3
 a3:=Tryd.isAgg3
 z3:=Tryd.sizeOf3
 v3:=Tryd.zeroValue3
 t4:=Tryd.underlying4
 a4:=Tryd.isAgg4
 z4:=Tryd.sizeOf4
 v4:=Tryd.zeroValue4
 t5:=Tryd.underlying5
 a5:=Tryd.isAgg5
 z5:=Tryd.sizeOf5
 v5:=Tryd.zeroValue5
 t9:=Tryd.underlying9
 a9:=Tryd.isAgg9
 z9:=Tryd.sizeOf9
 v9:=Tryd.zeroValue9
 t46:=Tryd.underlying76
 a46:=Tryd.isAgg76
 z46:=Tryd.sizeOf76
 v46:=Tryd.zeroValue76
 t53:=Tryd.underlying22
 a53:=Tryd.isAgg22
 z53:=Tryd.sizeOf22
 v53:=Tryd.zeroValue22 }
theorem bits_Len64 (x:Int) (w:World) (h0:0≤x) (h1:x≤18446744073709551615) :
  Calls Tryd.prog 30 #[.int .u64 x] w fun e w'=>e=.returned (.int .i64 (Lib.bitLen x.toNat))∧w'=w:=Any.bits_Len64 lays129 x w h0 h1
end Lay
end Go.Proofs.YthcjfgfbeollpaaDoor
