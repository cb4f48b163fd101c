/- What the program's table says of the element type int. -/
import Derived.Test.YtffgoekdjcempaaGreatGr3
namespace Go.Proofs.YtffgoekdjcempaaGreat
open Go.RowKit

theorem info_int : (Tryz.prog.info? 3).map (fun i => (i.zero, i.size, i.bytes)) = some (some (.int .i64 0), 1, 8) := by kernel_rfl

end Go.Proofs.YtffgoekdjcempaaGreat
