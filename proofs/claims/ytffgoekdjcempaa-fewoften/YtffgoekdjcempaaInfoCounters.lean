/- What the program's table says of the element type api.Counter. -/
import Derived.Test.YtffgoekdjcempaaOwn
namespace Go.Proofs.Ytffgoekdjcempaa
open Go.RowKit

theorem info_counter : (Try.prog.info? 43).map (fun i => (i.zero, i.size, i.bytes)) = some (some (.agg #[.int .i64 0, .int .i64 0]), 2, 16) := by kernel_rfl

end Go.Proofs.Ytffgoekdjcempaa
