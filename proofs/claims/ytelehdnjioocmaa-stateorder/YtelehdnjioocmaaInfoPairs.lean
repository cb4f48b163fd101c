/- What the program's table says of the element type api.Pair. -/
import Derived.Test.YtelehdnjioocmaaOwn
namespace Go.Proofs.Ytelehdnjioocmaa
open Go.RowKit

theorem info_pair : (Try.prog.info? 38).map (fun i => (i.zero, i.size, i.bytes)) = some (some (.agg #[.string ByteArray.empty, .string ByteArray.empty]), 2, 32) := by kernel_rfl

end Go.Proofs.Ytelehdnjioocmaa
