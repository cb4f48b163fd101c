/- What the program's table says of the element type api.Pair. -/
import Derived.Test.YtanfkolcoaofdabDoorOwn
namespace Go.Proofs.YtanfkolcoaofdabDoor
open Go.RowKit

theorem info_pair : (Tryd.prog.info? 45).map (fun i => (i.zero, i.size, i.bytes)) = some (some (.agg #[.string ByteArray.empty, .string ByteArray.empty]), 2, 32) := by kernel_rfl

end Go.Proofs.YtanfkolcoaofdabDoor
