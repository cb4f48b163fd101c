/- What the program's table says of the element type bool. -/
import Derived.Test.YtffgoekdjcempabGr4
namespace Go.Proofs.Ytffgoekdjcempab
open Go.RowKit

theorem info_bool : (Try.prog.info? 4).map (fun i => (i.zero, i.size, i.bytes)) = some (some (.bool false), 1, 1) := by kernel_rfl

end Go.Proofs.Ytffgoekdjcempab
