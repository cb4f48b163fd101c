/- What the program's table says of the element type api.Counter. -/
import Derived.Test.YtffgoekdjcempaaGreatGr3
namespace Go.Proofs.YtffgoekdjcempaaGreat
open Go.RowKit

theorem info_counter : (Tryz.prog.info? 37).map (fun i => (i.zero, i.size, i.bytes)) = some (some (.agg #[.int .i64 0, .int .i64 0]), 2, 16) := by kernel_rfl

end Go.Proofs.YtffgoekdjcempaaGreat
