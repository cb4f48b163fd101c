/-
  No cell of these rows narrows 'for every input' (looked for: loops, veiled, ifaces, maps, wideKeys, modest, calm, conditions, laid).
  DERIVED. THE GIVEN ROWS OF THIS SEAT. 10 by the template 'for every input the law returns true; each argument reads behind the call as it read before'; 0 by the template 'total and deterministic' (their statements: YtffgoekdjcempaaTotals.lean).
  GIVEN WITH THE SEED: the statements are not yours to turn. If you find one false, say at which input.
  Laid BY PROGRAM, IN A SANDBOX (cutbox-rows.mjs): the forced cells as the released guide's own fill.sh prints them over the translation a45c94c4b1705f0d… (all of the seat's roots in one cut). By AI agents, Wed Nov 11 2026. No macro, syntax, notation, axiom, sorry.
-/
import Derived.Test.YtffgoekdjcempaaChecked
import GoSem.Claim
import GoSem.ClaimJoined
import GoSem.ClaimMapViews
import Derived.JoinedTies
import Derived.KernelRfl
namespace Go.Proofs.Ytffgoekdjcempaa
/- THE CELL 'sum', in the pinned program and in every row, IS THE sha256 OF THE DUMP (.gsa) THAT YtffgoekdjcempaaProg.lean LOADS. Nothing in Lean hashes anything: it is a label: what it is worth is what the hold of that sum in a sandbox is worth. -/
noncomputable def Try.pinned : Pinned := { name := "ytffgoekdjcempaa", sum := "a45c94c4b1705f0d83cc33e230e0494b836ab7f8f3795694628fbdeb1852a48c", checked := Try.checked }
namespace Rows
def none {H : Type} : Left H := { results := [], args := [] }

/-- 'cullaw.RegsSay': WHATEVER THE INPUT: true; the input reads as it did. -/
def regsSaySpec : ChangeSpec := { name := "regsSay", fn := fun _ => fun
  | [d1, d2, d3] => { results := [.lit (.bool true)], args := [d1, d2, d3] }
  | _ => none }
def regsSayRow : OpenClaim := { program := "ytffgoekdjcempaa", sum := "a45c94c4b1705f0d83cc33e230e0494b836ab7f8f3795694628fbdeb1852a48c", func := "cullender/cullaw.RegsSay", spec := "regsSay", unfollowed := true, recurses := true, apart := false }
def RegsSaySaid : Prop := regsSayRow.holds Try.pinned (OpenSpec.ofChange regsSaySpec)

/-- ITS FALSE NEIGHBOUR: 'it returns false'. Refute it at one input. -/
def regsSayWrong : ChangeSpec := { name := "regsSay", fn := fun _ => fun
  | [d1, d2, d3] => { results := [.lit (.bool false)], args := [d1, d2, d3] }
  | _ => none }
def RegsSayWrongFalsely : Prop := regsSayRow.holds Try.pinned (OpenSpec.ofChange regsSayWrong)

/-- 'culkeep.FewNear': WHATEVER THE INPUT: true; the input reads as it did. -/
def fewNearSpec : ChangeSpec := { name := "fewNear", fn := fun _ => fun
  | [d1, d2, d3] => { results := [.lit (.bool true)], args := [d1, d2, d3] }
  | _ => none }
def fewNearRow : OpenClaim := { program := "ytffgoekdjcempaa", sum := "a45c94c4b1705f0d83cc33e230e0494b836ab7f8f3795694628fbdeb1852a48c", func := "cullender/culkeep.FewNear", spec := "fewNear", inPlace := ["slices.overlaps[cullender/api.Counter]"], unfollowed := true, recurses := true, apart := false }
def FewNearSaid : Prop := fewNearRow.holds Try.pinned (OpenSpec.ofChange fewNearSpec)

/-- ITS FALSE NEIGHBOUR: 'it returns false'. Refute it at one input. -/
def fewNearWrong : ChangeSpec := { name := "fewNear", fn := fun _ => fun
  | [d1, d2, d3] => { results := [.lit (.bool false)], args := [d1, d2, d3] }
  | _ => none }
def FewNearWrongFalsely : Prop := fewNearRow.holds Try.pinned (OpenSpec.ofChange fewNearWrong)

/-- 'culkeep.FewOften': WHATEVER THE INPUT: true; the input reads as it did. -/
def fewOftenSpec : ChangeSpec := { name := "fewOften", fn := fun _ => fun
  | [d1, d2] => { results := [.lit (.bool true)], args := [d1, d2] }
  | _ => none }
def fewOftenRow : OpenClaim := { program := "ytffgoekdjcempaa", sum := "a45c94c4b1705f0d83cc33e230e0494b836ab7f8f3795694628fbdeb1852a48c", func := "cullender/culkeep.FewOften", spec := "fewOften", inPlace := ["slices.overlaps[cullender/api.Counter]"], unfollowed := true, recurses := true, apart := false }
def FewOftenSaid : Prop := fewOftenRow.holds Try.pinned (OpenSpec.ofChange fewOftenSpec)

/-- ITS FALSE NEIGHBOUR: 'it returns false'. Refute it at one input. -/
def fewOftenWrong : ChangeSpec := { name := "fewOften", fn := fun _ => fun
  | [d1, d2] => { results := [.lit (.bool false)], args := [d1, d2] }
  | _ => none }
def FewOftenWrongFalsely : Prop := fewOftenRow.holds Try.pinned (OpenSpec.ofChange fewOftenWrong)

/-- 'culkeep.FewJoin': WHATEVER THE INPUT: true; the input reads as it did. -/
def fewJoinSpec : ChangeSpec := { name := "fewJoin", fn := fun _ => fun
  | [d1, d2, d3, d4] => { results := [.lit (.bool true)], args := [d1, d2, d3, d4] }
  | _ => none }
def fewJoinRow : OpenClaim := { program := "ytffgoekdjcempaa", sum := "a45c94c4b1705f0d83cc33e230e0494b836ab7f8f3795694628fbdeb1852a48c", func := "cullender/culkeep.FewJoin", spec := "fewJoin", inPlace := ["slices.overlaps[cullender/api.Counter]"], unfollowed := true, recurses := true, apart := false }
def FewJoinSaid : Prop := fewJoinRow.holds Try.pinned (OpenSpec.ofChange fewJoinSpec)

/-- ITS FALSE NEIGHBOUR: 'it returns false'. Refute it at one input. -/
def fewJoinWrong : ChangeSpec := { name := "fewJoin", fn := fun _ => fun
  | [d1, d2, d3, d4] => { results := [.lit (.bool false)], args := [d1, d2, d3, d4] }
  | _ => none }
def FewJoinWrongFalsely : Prop := fewJoinRow.holds Try.pinned (OpenSpec.ofChange fewJoinWrong)

/-- 'culkeep.FewMost': WHATEVER THE INPUT: true; the input reads as it did. -/
def fewMostSpec : ChangeSpec := { name := "fewMost", fn := fun _ => fun
  | [d1, d2] => { results := [.lit (.bool true)], args := [d1, d2] }
  | _ => none }
def fewMostRow : OpenClaim := { program := "ytffgoekdjcempaa", sum := "a45c94c4b1705f0d83cc33e230e0494b836ab7f8f3795694628fbdeb1852a48c", func := "cullender/culkeep.FewMost", spec := "fewMost", inPlace := ["slices.overlaps[cullender/api.Counter]"], unfollowed := true, recurses := true, apart := false }
def FewMostSaid : Prop := fewMostRow.holds Try.pinned (OpenSpec.ofChange fewMostSpec)

/-- ITS FALSE NEIGHBOUR: 'it returns false'. Refute it at one input. -/
def fewMostWrong : ChangeSpec := { name := "fewMost", fn := fun _ => fun
  | [d1, d2] => { results := [.lit (.bool false)], args := [d1, d2] }
  | _ => none }
def FewMostWrongFalsely : Prop := fewMostRow.holds Try.pinned (OpenSpec.ofChange fewMostWrong)

/-- 'culkeep.RegsSame': WHATEVER THE INPUT: true; the input reads as it did. -/
def regsSameSpec : ChangeSpec := { name := "regsSame", fn := fun _ => fun
  | [d1, d2, d3, d4] => { results := [.lit (.bool true)], args := [d1, d2, d3, d4] }
  | _ => none }
def regsSameRow : OpenClaim := { program := "ytffgoekdjcempaa", sum := "a45c94c4b1705f0d83cc33e230e0494b836ab7f8f3795694628fbdeb1852a48c", func := "cullender/culkeep.RegsSame", spec := "regsSame", unfollowed := true, recurses := true, apart := false }
def RegsSameSaid : Prop := regsSameRow.holds Try.pinned (OpenSpec.ofChange regsSameSpec)

/-- ITS FALSE NEIGHBOUR: 'it returns false'. Refute it at one input. -/
def regsSameWrong : ChangeSpec := { name := "regsSame", fn := fun _ => fun
  | [d1, d2, d3, d4] => { results := [.lit (.bool false)], args := [d1, d2, d3, d4] }
  | _ => none }
def RegsSameWrongFalsely : Prop := regsSameRow.holds Try.pinned (OpenSpec.ofChange regsSameWrong)

/-- 'culkeep.RegsOrder': WHATEVER THE INPUT: true; the input reads as it did. -/
def regsOrderSpec : ChangeSpec := { name := "regsOrder", fn := fun _ => fun
  | [d1, d2, d3, d4] => { results := [.lit (.bool true)], args := [d1, d2, d3, d4] }
  | _ => none }
def regsOrderRow : OpenClaim := { program := "ytffgoekdjcempaa", sum := "a45c94c4b1705f0d83cc33e230e0494b836ab7f8f3795694628fbdeb1852a48c", func := "cullender/culkeep.RegsOrder", spec := "regsOrder", unfollowed := true, recurses := true, apart := false }
def RegsOrderSaid : Prop := regsOrderRow.holds Try.pinned (OpenSpec.ofChange regsOrderSpec)

/-- ITS FALSE NEIGHBOUR: 'it returns false'. Refute it at one input. -/
def regsOrderWrong : ChangeSpec := { name := "regsOrder", fn := fun _ => fun
  | [d1, d2, d3, d4] => { results := [.lit (.bool false)], args := [d1, d2, d3, d4] }
  | _ => none }
def RegsOrderWrongFalsely : Prop := regsOrderRow.holds Try.pinned (OpenSpec.ofChange regsOrderWrong)

/-- 'culkeep.FewExact': WHATEVER THE INPUT: true; the input reads as it did. -/
def fewExactSpec : ChangeSpec := { name := "fewExact", fn := fun _ => fun
  | [d1, d2] => { results := [.lit (.bool true)], args := [d1, d2] }
  | _ => none }
def fewExactRow : OpenClaim := { program := "ytffgoekdjcempaa", sum := "a45c94c4b1705f0d83cc33e230e0494b836ab7f8f3795694628fbdeb1852a48c", func := "cullender/culkeep.FewExact", spec := "fewExact", inPlace := ["slices.overlaps[cullender/api.Counter]"], unfollowed := true, recurses := true, apart := false }
def FewExactSaid : Prop := fewExactRow.holds Try.pinned (OpenSpec.ofChange fewExactSpec)

/-- ITS FALSE NEIGHBOUR: 'it returns false'. Refute it at one input. -/
def fewExactWrong : ChangeSpec := { name := "fewExact", fn := fun _ => fun
  | [d1, d2] => { results := [.lit (.bool false)], args := [d1, d2] }
  | _ => none }
def FewExactWrongFalsely : Prop := fewExactRow.holds Try.pinned (OpenSpec.ofChange fewExactWrong)

/-- 'culkeep.FewOnce': WHATEVER THE INPUT: true; the input reads as it did. -/
def fewOnceSpec : ChangeSpec := { name := "fewOnce", fn := fun _ => fun
  | [d1, d2, d3, d4] => { results := [.lit (.bool true)], args := [d1, d2, d3, d4] }
  | _ => none }
def fewOnceRow : OpenClaim := { program := "ytffgoekdjcempaa", sum := "a45c94c4b1705f0d83cc33e230e0494b836ab7f8f3795694628fbdeb1852a48c", func := "cullender/culkeep.FewOnce", spec := "fewOnce", inPlace := ["slices.overlaps[cullender/api.Counter]"], unfollowed := true, recurses := true, apart := false }
def FewOnceSaid : Prop := fewOnceRow.holds Try.pinned (OpenSpec.ofChange fewOnceSpec)

/-- ITS FALSE NEIGHBOUR: 'it returns false'. Refute it at one input. -/
def fewOnceWrong : ChangeSpec := { name := "fewOnce", fn := fun _ => fun
  | [d1, d2, d3, d4] => { results := [.lit (.bool false)], args := [d1, d2, d3, d4] }
  | _ => none }
def FewOnceWrongFalsely : Prop := fewOnceRow.holds Try.pinned (OpenSpec.ofChange fewOnceWrong)

/-- 'culkeep.RegsGrows': WHATEVER THE INPUT: true; the input reads as it did. -/
def regsGrowsSpec : ChangeSpec := { name := "regsGrows", fn := fun _ => fun
  | [d1, d2] => { results := [.lit (.bool true)], args := [d1, d2] }
  | _ => none }
def regsGrowsRow : OpenClaim := { program := "ytffgoekdjcempaa", sum := "a45c94c4b1705f0d83cc33e230e0494b836ab7f8f3795694628fbdeb1852a48c", func := "cullender/culkeep.RegsGrows", spec := "regsGrows", unfollowed := true, recurses := true, apart := false }
def RegsGrowsSaid : Prop := regsGrowsRow.holds Try.pinned (OpenSpec.ofChange regsGrowsSpec)

/-- ITS FALSE NEIGHBOUR: 'it returns false'. Refute it at one input. -/
def regsGrowsWrong : ChangeSpec := { name := "regsGrows", fn := fun _ => fun
  | [d1, d2] => { results := [.lit (.bool false)], args := [d1, d2] }
  | _ => none }
def RegsGrowsWrongFalsely : Prop := regsGrowsRow.holds Try.pinned (OpenSpec.ofChange regsGrowsWrong)

/- THE SECOND FORM. 'bulk': how many values and letters a reading holds, each counted each time it is reached (what is shared counts as often as it is met; a slice's spare places count too). A statement '..UptoSaid' is the law's where the arguments, and the package variables that the reading takes, are together of bulk at most 1048576: NARROWER than '..Said'. Prove '..Said' where nothing that the law and all that it calls make is longer than what came in: it says more and counts as full. Else prove '..UptoSaid'. A law counts once. -/
mutual
def uptoBulk {H : Type} : DataW H → Nat
  | .lit (.string bytes) => bytes.length + 1
  | .lit _ => 1
  | .nil => 1
  | .ptr d => uptoBulk d + 1
  | .slice elems spare => uptoBulkAll elems + uptoBulkAll spare + 1
  | .agg parts => uptoBulkAll parts + 1
  | .iface _ d => uptoBulk d + 1
  | .map entries => uptoBulkEntries entries + 1
  | .held _ => 1
def uptoBulkAll {H : Type} : List (DataW H) → Nat
  | [] => 0
  | d :: r => uptoBulk d + uptoBulkAll r
def uptoBulkEntries {H : Type} : List (Lit × DataW H) → Nat
  | [] => 0
  | x :: r => uptoBulkEntry x + uptoBulkEntries r
def uptoBulkEntry {H : Type} : Lit × DataW H → Nat
  | (.string bytes, d) => bytes.length + uptoBulk d + 1
  | (_, d) => uptoBulk d + 1
 end
def uptoSmall : (H : Type) → List (DataW H) → Bool := fun _ ds => decide (uptoBulkAll ds ≤ 1048576)
def OpenSpec.upto (s : _root_.Go.ChangeSpec) : _root_.Go.OpenSpec := { _root_.Go.OpenSpec.ofChange s with cond := some uptoSmall }

/-- 'cullaw.RegsSay', WHERE WHAT IT READS IS OF BULK AT MOST 1048576: true; the input reads as it did. -/
def regsSayUptoRow : OpenClaim := { program := "ytffgoekdjcempaa", sum := "a45c94c4b1705f0d83cc33e230e0494b836ab7f8f3795694628fbdeb1852a48c", func := "cullender/cullaw.RegsSay", spec := "regsSay", unfollowed := true, recurses := true, apart := false, narrowed := true }
def RegsSayUptoSaid : Prop := regsSayUptoRow.holds Try.pinned (OpenSpec.upto regsSaySpec)

/-- 'culkeep.FewNear', WHERE WHAT IT READS IS OF BULK AT MOST 1048576: true; the input reads as it did. -/
def fewNearUptoRow : OpenClaim := { program := "ytffgoekdjcempaa", sum := "a45c94c4b1705f0d83cc33e230e0494b836ab7f8f3795694628fbdeb1852a48c", func := "cullender/culkeep.FewNear", spec := "fewNear", inPlace := ["slices.overlaps[cullender/api.Counter]"], unfollowed := true, recurses := true, apart := false, narrowed := true }
def FewNearUptoSaid : Prop := fewNearUptoRow.holds Try.pinned (OpenSpec.upto fewNearSpec)

/-- 'culkeep.FewOften', WHERE WHAT IT READS IS OF BULK AT MOST 1048576: true; the input reads as it did. -/
def fewOftenUptoRow : OpenClaim := { program := "ytffgoekdjcempaa", sum := "a45c94c4b1705f0d83cc33e230e0494b836ab7f8f3795694628fbdeb1852a48c", func := "cullender/culkeep.FewOften", spec := "fewOften", inPlace := ["slices.overlaps[cullender/api.Counter]"], unfollowed := true, recurses := true, apart := false, narrowed := true }
def FewOftenUptoSaid : Prop := fewOftenUptoRow.holds Try.pinned (OpenSpec.upto fewOftenSpec)

/-- 'culkeep.FewJoin', WHERE WHAT IT READS IS OF BULK AT MOST 1048576: true; the input reads as it did. -/
def fewJoinUptoRow : OpenClaim := { program := "ytffgoekdjcempaa", sum := "a45c94c4b1705f0d83cc33e230e0494b836ab7f8f3795694628fbdeb1852a48c", func := "cullender/culkeep.FewJoin", spec := "fewJoin", inPlace := ["slices.overlaps[cullender/api.Counter]"], unfollowed := true, recurses := true, apart := false, narrowed := true }
def FewJoinUptoSaid : Prop := fewJoinUptoRow.holds Try.pinned (OpenSpec.upto fewJoinSpec)

/-- 'culkeep.FewMost', WHERE WHAT IT READS IS OF BULK AT MOST 1048576: true; the input reads as it did. -/
def fewMostUptoRow : OpenClaim := { program := "ytffgoekdjcempaa", sum := "a45c94c4b1705f0d83cc33e230e0494b836ab7f8f3795694628fbdeb1852a48c", func := "cullender/culkeep.FewMost", spec := "fewMost", inPlace := ["slices.overlaps[cullender/api.Counter]"], unfollowed := true, recurses := true, apart := false, narrowed := true }
def FewMostUptoSaid : Prop := fewMostUptoRow.holds Try.pinned (OpenSpec.upto fewMostSpec)

/-- 'culkeep.RegsSame', WHERE WHAT IT READS IS OF BULK AT MOST 1048576: true; the input reads as it did. -/
def regsSameUptoRow : OpenClaim := { program := "ytffgoekdjcempaa", sum := "a45c94c4b1705f0d83cc33e230e0494b836ab7f8f3795694628fbdeb1852a48c", func := "cullender/culkeep.RegsSame", spec := "regsSame", unfollowed := true, recurses := true, apart := false, narrowed := true }
def RegsSameUptoSaid : Prop := regsSameUptoRow.holds Try.pinned (OpenSpec.upto regsSameSpec)

/-- 'culkeep.RegsOrder', WHERE WHAT IT READS IS OF BULK AT MOST 1048576: true; the input reads as it did. -/
def regsOrderUptoRow : OpenClaim := { program := "ytffgoekdjcempaa", sum := "a45c94c4b1705f0d83cc33e230e0494b836ab7f8f3795694628fbdeb1852a48c", func := "cullender/culkeep.RegsOrder", spec := "regsOrder", unfollowed := true, recurses := true, apart := false, narrowed := true }
def RegsOrderUptoSaid : Prop := regsOrderUptoRow.holds Try.pinned (OpenSpec.upto regsOrderSpec)

/-- 'culkeep.FewExact', WHERE WHAT IT READS IS OF BULK AT MOST 1048576: true; the input reads as it did. -/
def fewExactUptoRow : OpenClaim := { program := "ytffgoekdjcempaa", sum := "a45c94c4b1705f0d83cc33e230e0494b836ab7f8f3795694628fbdeb1852a48c", func := "cullender/culkeep.FewExact", spec := "fewExact", inPlace := ["slices.overlaps[cullender/api.Counter]"], unfollowed := true, recurses := true, apart := false, narrowed := true }
def FewExactUptoSaid : Prop := fewExactUptoRow.holds Try.pinned (OpenSpec.upto fewExactSpec)

/-- 'culkeep.FewOnce', WHERE WHAT IT READS IS OF BULK AT MOST 1048576: true; the input reads as it did. -/
def fewOnceUptoRow : OpenClaim := { program := "ytffgoekdjcempaa", sum := "a45c94c4b1705f0d83cc33e230e0494b836ab7f8f3795694628fbdeb1852a48c", func := "cullender/culkeep.FewOnce", spec := "fewOnce", inPlace := ["slices.overlaps[cullender/api.Counter]"], unfollowed := true, recurses := true, apart := false, narrowed := true }
def FewOnceUptoSaid : Prop := fewOnceUptoRow.holds Try.pinned (OpenSpec.upto fewOnceSpec)

/-- 'culkeep.RegsGrows', WHERE WHAT IT READS IS OF BULK AT MOST 1048576: true; the input reads as it did. -/
def regsGrowsUptoRow : OpenClaim := { program := "ytffgoekdjcempaa", sum := "a45c94c4b1705f0d83cc33e230e0494b836ab7f8f3795694628fbdeb1852a48c", func := "cullender/culkeep.RegsGrows", spec := "regsGrows", unfollowed := true, recurses := true, apart := false, narrowed := true }
def RegsGrowsUptoSaid : Prop := regsGrowsUptoRow.holds Try.pinned (OpenSpec.upto regsGrowsSpec)

end Rows
end Go.Proofs.Ytffgoekdjcempaa
