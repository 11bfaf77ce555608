/- strings.Builder of this program: copyCheck, WriteString, String. -/
import Derived.Test.YtmohpjpodkbgkaaKK03
import Derived.Test.YtmohpjpodkbgkaaKK02
import Derived.Lib.Builder
namespace Go.Proofs.Ytmohpjpodkbgkaa.Builder
open Go.RowKit Go.Proofs.Ytmohpjpodkbgkaa.Base

theorem infoByte : (Try.prog.info? 5).map (fun i => (i.zero, i.size, i.bytes)) = some (some (.int .u8 0), 1, 1) := by kernel_rfl

end Go.Proofs.Ytmohpjpodkbgkaa.Builder
