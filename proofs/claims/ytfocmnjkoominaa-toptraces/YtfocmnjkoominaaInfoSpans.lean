/- What the program's table says of the element type api.Span. -/
import Derived.Test.YtfocmnjkoominaaOwn
namespace Go.Proofs.Ytfocmnjkoominaa
open Go.RowKit

theorem info_span : (Try.prog.info? 54).map (fun i => (i.zero, i.size, i.bytes)) = some (some (.agg #[.int .i64 0, .int .i64 0]), 2, 16) := by kernel_rfl

end Go.Proofs.Ytfocmnjkoominaa
