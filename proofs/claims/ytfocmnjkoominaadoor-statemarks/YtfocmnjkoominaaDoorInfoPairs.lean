/- What the program's table says of the element type api.Pair. -/
import Derived.Test.YtfocmnjkoominaaDoorOwn
namespace Go.Proofs.YtfocmnjkoominaaDoor
open Go.RowKit

theorem info_pair : (Tryd.prog.info? 31).map (fun i => (i.zero, i.size, i.bytes)) = some (some (.agg #[.string ByteArray.empty, .string ByteArray.empty]), 2, 32) := by kernel_rfl

end Go.Proofs.YtfocmnjkoominaaDoor
