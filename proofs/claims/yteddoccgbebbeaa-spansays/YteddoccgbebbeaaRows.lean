/-
  No cell of these rows narrows 'for every input' (looked for: loops, veiled, ifaces, maps, wideKeys, modest, calm, conditions, laid).
  DERIVED. THE GIVEN ROWS OF THIS SEAT. 12 by the template 'for every input the law returns true; each argument reads behind the call as it read before'; 0 by the template 'total and deterministic' (their statements: YteddoccgbebbeaaTotals.lean).
  GIVEN WITH THE SEED: the statements are not yours to turn. If you find one false, say at which input.
  Laid BY PROGRAM, IN A SANDBOX (cutbox-rows.mjs): the forced cells as the released guide's own fill.sh prints them over the translation a30a8ae884b11c36… (all of the seat's roots in one cut). By AI agents, Wed Nov 11 2026. No macro, syntax, notation, axiom, sorry.
-/
import Derived.Test.YteddoccgbebbeaaChecked
import GoSem.Claim
import GoSem.ClaimJoined
import GoSem.ClaimMapViews
import Derived.JoinedTies
import Derived.KernelRfl
namespace Go.Proofs.Yteddoccgbebbeaa
/- THE CELL 'sum', in the pinned program and in every row, IS THE sha256 OF THE DUMP (.gsa) THAT YteddoccgbebbeaaProg.lean LOADS. Nothing in Lean hashes anything: it is a label: what it is worth is what the hold of that sum in a sandbox is worth. -/
noncomputable def Try.pinned : Pinned := { name := "yteddoccgbebbeaa", sum := "a30a8ae884b11c3657e89ebc423c408028bae7c6f0c6114d3e1ee4c44fafae96", checked := Try.checked }
namespace Rows
def none {H : Type} : Left H := { results := [], args := [] }

/-- 'cullaw.CumSays': WHATEVER THE INPUT: true; the input reads as it did. -/
def cumSaysSpec : ChangeSpec := { name := "cumSays", fn := fun _ => fun
  | [d1, d2, d3, d4] => { results := [.lit (.bool true)], args := [d1, d2, d3, d4] }
  | _ => none }
def cumSaysRow : OpenClaim := { program := "yteddoccgbebbeaa", sum := "a30a8ae884b11c3657e89ebc423c408028bae7c6f0c6114d3e1ee4c44fafae96", func := "cullender/cullaw.CumSays", spec := "cumSays", unfollowed := true, recurses := true, apart := false }
def CumSaysSaid : Prop := cumSaysRow.holds Try.pinned (OpenSpec.ofChange cumSaysSpec)

/-- ITS FALSE NEIGHBOUR: 'it returns false'. Refute it at one input. -/
def cumSaysWrong : ChangeSpec := { name := "cumSays", fn := fun _ => fun
  | [d1, d2, d3, d4] => { results := [.lit (.bool false)], args := [d1, d2, d3, d4] }
  | _ => none }
def CumSaysWrongFalsely : Prop := cumSaysRow.holds Try.pinned (OpenSpec.ofChange cumSaysWrong)

/-- 'cullaw.SpanSays': WHATEVER THE INPUT: true; the input reads as it did. -/
def spanSaysSpec : ChangeSpec := { name := "spanSays", fn := fun _ => fun
  | [d1, d2, d3] => { results := [.lit (.bool true)], args := [d1, d2, d3] }
  | _ => none }
def spanSaysRow : OpenClaim := { program := "yteddoccgbebbeaa", sum := "a30a8ae884b11c3657e89ebc423c408028bae7c6f0c6114d3e1ee4c44fafae96", func := "cullender/cullaw.SpanSays", spec := "spanSays", apart := false }
def SpanSaysSaid : Prop := spanSaysRow.holds Try.pinned (OpenSpec.ofChange spanSaysSpec)

/-- ITS FALSE NEIGHBOUR: 'it returns false'. Refute it at one input. -/
def spanSaysWrong : ChangeSpec := { name := "spanSays", fn := fun _ => fun
  | [d1, d2, d3] => { results := [.lit (.bool false)], args := [d1, d2, d3] }
  | _ => none }
def SpanSaysWrongFalsely : Prop := spanSaysRow.holds Try.pinned (OpenSpec.ofChange spanSaysWrong)

/-- 'culkeep.CumPicks': WHATEVER THE INPUT: true; the input reads as it did. -/
def cumPicksSpec : ChangeSpec := { name := "cumPicks", fn := fun _ => fun
  | [d] => { results := [.lit (.bool true)], args := [d] }
  | _ => none }
def cumPicksRow : OpenClaim := { program := "yteddoccgbebbeaa", sum := "a30a8ae884b11c3657e89ebc423c408028bae7c6f0c6114d3e1ee4c44fafae96", func := "cullender/culkeep.CumPicks", spec := "cumPicks", unfollowed := true, recurses := true, apart := false }
def CumPicksSaid : Prop := cumPicksRow.holds Try.pinned (OpenSpec.ofChange cumPicksSpec)

/-- ITS FALSE NEIGHBOUR: 'it returns false'. Refute it at one input. -/
def cumPicksWrong : ChangeSpec := { name := "cumPicks", fn := fun _ => fun
  | [d] => { results := [.lit (.bool false)], args := [d] }
  | _ => none }
def CumPicksWrongFalsely : Prop := cumPicksRow.holds Try.pinned (OpenSpec.ofChange cumPicksWrong)

/-- 'culkeep.EvenQuota': WHATEVER THE INPUT: true; the input reads as it did. -/
def evenQuotaSpec : ChangeSpec := { name := "evenQuota", fn := fun _ => fun
  | [d1, d2, d3] => { results := [.lit (.bool true)], args := [d1, d2, d3] }
  | _ => none }
def evenQuotaRow : OpenClaim := { program := "yteddoccgbebbeaa", sum := "a30a8ae884b11c3657e89ebc423c408028bae7c6f0c6114d3e1ee4c44fafae96", func := "cullender/culkeep.EvenQuota", spec := "evenQuota", unfollowed := true, recurses := true, apart := false }
def EvenQuotaSaid : Prop := evenQuotaRow.holds Try.pinned (OpenSpec.ofChange evenQuotaSpec)

/-- ITS FALSE NEIGHBOUR: 'it returns false'. Refute it at one input. -/
def evenQuotaWrong : ChangeSpec := { name := "evenQuota", fn := fun _ => fun
  | [d1, d2, d3] => { results := [.lit (.bool false)], args := [d1, d2, d3] }
  | _ => none }
def EvenQuotaWrongFalsely : Prop := evenQuotaRow.holds Try.pinned (OpenSpec.ofChange evenQuotaWrong)

/-- 'culkeep.EvenAll': WHATEVER THE INPUT: true; the input reads as it did. -/
def evenAllSpec : ChangeSpec := { name := "evenAll", fn := fun _ => fun
  | [d1, d2] => { results := [.lit (.bool true)], args := [d1, d2] }
  | _ => none }
def evenAllRow : OpenClaim := { program := "yteddoccgbebbeaa", sum := "a30a8ae884b11c3657e89ebc423c408028bae7c6f0c6114d3e1ee4c44fafae96", func := "cullender/culkeep.EvenAll", spec := "evenAll", unfollowed := true, recurses := true, apart := false }
def EvenAllSaid : Prop := evenAllRow.holds Try.pinned (OpenSpec.ofChange evenAllSpec)

/-- ITS FALSE NEIGHBOUR: 'it returns false'. Refute it at one input. -/
def evenAllWrong : ChangeSpec := { name := "evenAll", fn := fun _ => fun
  | [d1, d2] => { results := [.lit (.bool false)], args := [d1, d2] }
  | _ => none }
def EvenAllWrongFalsely : Prop := evenAllRow.holds Try.pinned (OpenSpec.ofChange evenAllWrong)

/-- 'culkeep.SpanNested': WHATEVER THE INPUT: true; the input reads as it did. -/
def spanNestedSpec : ChangeSpec := { name := "spanNested", fn := fun _ => fun
  | [d1, d2, d3] => { results := [.lit (.bool true)], args := [d1, d2, d3] }
  | _ => none }
def spanNestedRow : OpenClaim := { program := "yteddoccgbebbeaa", sum := "a30a8ae884b11c3657e89ebc423c408028bae7c6f0c6114d3e1ee4c44fafae96", func := "cullender/culkeep.SpanNested", spec := "spanNested", apart := false }
def SpanNestedSaid : Prop := spanNestedRow.holds Try.pinned (OpenSpec.ofChange spanNestedSpec)

/-- ITS FALSE NEIGHBOUR: 'it returns false'. Refute it at one input. -/
def spanNestedWrong : ChangeSpec := { name := "spanNested", fn := fun _ => fun
  | [d1, d2, d3] => { results := [.lit (.bool false)], args := [d1, d2, d3] }
  | _ => none }
def SpanNestedWrongFalsely : Prop := spanNestedRow.holds Try.pinned (OpenSpec.ofChange spanNestedWrong)

/-- 'culkeep.SpanMends': WHATEVER THE INPUT: true; the input reads as it did. -/
def spanMendsSpec : ChangeSpec := { name := "spanMends", fn := fun _ => fun
  | [d1, d2] => { results := [.lit (.bool true)], args := [d1, d2] }
  | _ => none }
def spanMendsRow : OpenClaim := { program := "yteddoccgbebbeaa", sum := "a30a8ae884b11c3657e89ebc423c408028bae7c6f0c6114d3e1ee4c44fafae96", func := "cullender/culkeep.SpanMends", spec := "spanMends", apart := false }
def SpanMendsSaid : Prop := spanMendsRow.holds Try.pinned (OpenSpec.ofChange spanMendsSpec)

/-- ITS FALSE NEIGHBOUR: 'it returns false'. Refute it at one input. -/
def spanMendsWrong : ChangeSpec := { name := "spanMends", fn := fun _ => fun
  | [d1, d2] => { results := [.lit (.bool false)], args := [d1, d2] }
  | _ => none }
def SpanMendsWrongFalsely : Prop := spanMendsRow.holds Try.pinned (OpenSpec.ofChange spanMendsWrong)

/-- 'culkeep.SpanCounts': WHATEVER THE INPUT: true; the input reads as it did. -/
def spanCountsSpec : ChangeSpec := { name := "spanCounts", fn := fun _ => fun
  | [d1, d2] => { results := [.lit (.bool true)], args := [d1, d2] }
  | _ => none }
def spanCountsRow : OpenClaim := { program := "yteddoccgbebbeaa", sum := "a30a8ae884b11c3657e89ebc423c408028bae7c6f0c6114d3e1ee4c44fafae96", func := "cullender/culkeep.SpanCounts", spec := "spanCounts", apart := false }
def SpanCountsSaid : Prop := spanCountsRow.holds Try.pinned (OpenSpec.ofChange spanCountsSpec)

/-- ITS FALSE NEIGHBOUR: 'it returns false'. Refute it at one input. -/
def spanCountsWrong : ChangeSpec := { name := "spanCounts", fn := fun _ => fun
  | [d1, d2] => { results := [.lit (.bool false)], args := [d1, d2] }
  | _ => none }
def SpanCountsWrongFalsely : Prop := spanCountsRow.holds Try.pinned (OpenSpec.ofChange spanCountsWrong)

/-- 'culkeep.CumOrder': WHATEVER THE INPUT: true; the input reads as it did. -/
def cumOrderSpec : ChangeSpec := { name := "cumOrder", fn := fun _ => fun
  | [d1, d2, d3, d4] => { results := [.lit (.bool true)], args := [d1, d2, d3, d4] }
  | _ => none }
def cumOrderRow : OpenClaim := { program := "yteddoccgbebbeaa", sum := "a30a8ae884b11c3657e89ebc423c408028bae7c6f0c6114d3e1ee4c44fafae96", func := "cullender/culkeep.CumOrder", spec := "cumOrder", unfollowed := true, recurses := true, apart := false }
def CumOrderSaid : Prop := cumOrderRow.holds Try.pinned (OpenSpec.ofChange cumOrderSpec)

/-- ITS FALSE NEIGHBOUR: 'it returns false'. Refute it at one input. -/
def cumOrderWrong : ChangeSpec := { name := "cumOrder", fn := fun _ => fun
  | [d1, d2, d3, d4] => { results := [.lit (.bool false)], args := [d1, d2, d3, d4] }
  | _ => none }
def CumOrderWrongFalsely : Prop := cumOrderRow.holds Try.pinned (OpenSpec.ofChange cumOrderWrong)

/-- 'culkeep.EvenMore': WHATEVER THE INPUT: true; the input reads as it did. -/
def evenMoreSpec : ChangeSpec := { name := "evenMore", fn := fun _ => fun
  | [d1, d2, d3] => { results := [.lit (.bool true)], args := [d1, d2, d3] }
  | _ => none }
def evenMoreRow : OpenClaim := { program := "yteddoccgbebbeaa", sum := "a30a8ae884b11c3657e89ebc423c408028bae7c6f0c6114d3e1ee4c44fafae96", func := "cullender/culkeep.EvenMore", spec := "evenMore", unfollowed := true, recurses := true, apart := false }
def EvenMoreSaid : Prop := evenMoreRow.holds Try.pinned (OpenSpec.ofChange evenMoreSpec)

/-- ITS FALSE NEIGHBOUR: 'it returns false'. Refute it at one input. -/
def evenMoreWrong : ChangeSpec := { name := "evenMore", fn := fun _ => fun
  | [d1, d2, d3] => { results := [.lit (.bool false)], args := [d1, d2, d3] }
  | _ => none }
def EvenMoreWrongFalsely : Prop := evenMoreRow.holds Try.pinned (OpenSpec.ofChange evenMoreWrong)

/-- 'culkeep.SpanAlone': WHATEVER THE INPUT: true; the input reads as it did. -/
def spanAloneSpec : ChangeSpec := { name := "spanAlone", fn := fun _ => fun
  | [d] => { results := [.lit (.bool true)], args := [d] }
  | _ => none }
def spanAloneRow : OpenClaim := { program := "yteddoccgbebbeaa", sum := "a30a8ae884b11c3657e89ebc423c408028bae7c6f0c6114d3e1ee4c44fafae96", func := "cullender/culkeep.SpanAlone", spec := "spanAlone", apart := false }
def SpanAloneSaid : Prop := spanAloneRow.holds Try.pinned (OpenSpec.ofChange spanAloneSpec)

/-- ITS FALSE NEIGHBOUR: 'it returns false'. Refute it at one input. -/
def spanAloneWrong : ChangeSpec := { name := "spanAlone", fn := fun _ => fun
  | [d] => { results := [.lit (.bool false)], args := [d] }
  | _ => none }
def SpanAloneWrongFalsely : Prop := spanAloneRow.holds Try.pinned (OpenSpec.ofChange spanAloneWrong)

/-- 'culkeep.SpanWhole': WHATEVER THE INPUT: true; the input reads as it did. -/
def spanWholeSpec : ChangeSpec := { name := "spanWhole", fn := fun _ => fun
  | [d1, d2, d3] => { results := [.lit (.bool true)], args := [d1, d2, d3] }
  | _ => none }
def spanWholeRow : OpenClaim := { program := "yteddoccgbebbeaa", sum := "a30a8ae884b11c3657e89ebc423c408028bae7c6f0c6114d3e1ee4c44fafae96", func := "cullender/culkeep.SpanWhole", spec := "spanWhole", apart := false }
def SpanWholeSaid : Prop := spanWholeRow.holds Try.pinned (OpenSpec.ofChange spanWholeSpec)

/-- ITS FALSE NEIGHBOUR: 'it returns false'. Refute it at one input. -/
def spanWholeWrong : ChangeSpec := { name := "spanWhole", fn := fun _ => fun
  | [d1, d2, d3] => { results := [.lit (.bool false)], args := [d1, d2, d3] }
  | _ => none }
def SpanWholeWrongFalsely : Prop := spanWholeRow.holds Try.pinned (OpenSpec.ofChange spanWholeWrong)

/- THE SECOND FORM. 'bulk': how many values and letters a reading holds, each counted each time it is reached (what is shared counts as often as it is met; a slice's spare places count too). A statement '..UptoSaid' is the law's where the arguments, and the package variables that the reading takes, are together of bulk at most 1048576: NARROWER than '..Said'. Prove '..Said' where nothing that the law and all that it calls make is longer than what came in: it says more and counts as full. Else prove '..UptoSaid'. A law counts once. -/
mutual
def uptoBulk {H : Type} : DataW H → Nat
  | .lit (.string bytes) => bytes.length + 1
  | .lit _ => 1
  | .nil => 1
  | .ptr d => uptoBulk d + 1
  | .slice elems spare => uptoBulkAll elems + uptoBulkAll spare + 1
  | .agg parts => uptoBulkAll parts + 1
  | .iface _ d => uptoBulk d + 1
  | .map entries => uptoBulkEntries entries + 1
  | .held _ => 1
def uptoBulkAll {H : Type} : List (DataW H) → Nat
  | [] => 0
  | d :: r => uptoBulk d + uptoBulkAll r
def uptoBulkEntries {H : Type} : List (Lit × DataW H) → Nat
  | [] => 0
  | x :: r => uptoBulkEntry x + uptoBulkEntries r
def uptoBulkEntry {H : Type} : Lit × DataW H → Nat
  | (.string bytes, d) => bytes.length + uptoBulk d + 1
  | (_, d) => uptoBulk d + 1
 end
def uptoSmall : (H : Type) → List (DataW H) → Bool := fun _ ds => decide (uptoBulkAll ds ≤ 1048576)
def OpenSpec.upto (s : _root_.Go.ChangeSpec) : _root_.Go.OpenSpec := { _root_.Go.OpenSpec.ofChange s with cond := some uptoSmall }

/-- 'cullaw.CumSays', WHERE WHAT IT READS IS OF BULK AT MOST 1048576: true; the input reads as it did. -/
def cumSaysUptoRow : OpenClaim := { program := "yteddoccgbebbeaa", sum := "a30a8ae884b11c3657e89ebc423c408028bae7c6f0c6114d3e1ee4c44fafae96", func := "cullender/cullaw.CumSays", spec := "cumSays", unfollowed := true, recurses := true, apart := false, narrowed := true }
def CumSaysUptoSaid : Prop := cumSaysUptoRow.holds Try.pinned (OpenSpec.upto cumSaysSpec)

/-- 'cullaw.SpanSays', WHERE WHAT IT READS IS OF BULK AT MOST 1048576: true; the input reads as it did. -/
def spanSaysUptoRow : OpenClaim := { program := "yteddoccgbebbeaa", sum := "a30a8ae884b11c3657e89ebc423c408028bae7c6f0c6114d3e1ee4c44fafae96", func := "cullender/cullaw.SpanSays", spec := "spanSays", apart := false, narrowed := true }
def SpanSaysUptoSaid : Prop := spanSaysUptoRow.holds Try.pinned (OpenSpec.upto spanSaysSpec)

/-- 'culkeep.CumPicks', WHERE WHAT IT READS IS OF BULK AT MOST 1048576: true; the input reads as it did. -/
def cumPicksUptoRow : OpenClaim := { program := "yteddoccgbebbeaa", sum := "a30a8ae884b11c3657e89ebc423c408028bae7c6f0c6114d3e1ee4c44fafae96", func := "cullender/culkeep.CumPicks", spec := "cumPicks", unfollowed := true, recurses := true, apart := false, narrowed := true }
def CumPicksUptoSaid : Prop := cumPicksUptoRow.holds Try.pinned (OpenSpec.upto cumPicksSpec)

/-- 'culkeep.EvenQuota', WHERE WHAT IT READS IS OF BULK AT MOST 1048576: true; the input reads as it did. -/
def evenQuotaUptoRow : OpenClaim := { program := "yteddoccgbebbeaa", sum := "a30a8ae884b11c3657e89ebc423c408028bae7c6f0c6114d3e1ee4c44fafae96", func := "cullender/culkeep.EvenQuota", spec := "evenQuota", unfollowed := true, recurses := true, apart := false, narrowed := true }
def EvenQuotaUptoSaid : Prop := evenQuotaUptoRow.holds Try.pinned (OpenSpec.upto evenQuotaSpec)

/-- 'culkeep.EvenAll', WHERE WHAT IT READS IS OF BULK AT MOST 1048576: true; the input reads as it did. -/
def evenAllUptoRow : OpenClaim := { program := "yteddoccgbebbeaa", sum := "a30a8ae884b11c3657e89ebc423c408028bae7c6f0c6114d3e1ee4c44fafae96", func := "cullender/culkeep.EvenAll", spec := "evenAll", unfollowed := true, recurses := true, apart := false, narrowed := true }
def EvenAllUptoSaid : Prop := evenAllUptoRow.holds Try.pinned (OpenSpec.upto evenAllSpec)

/-- 'culkeep.SpanNested', WHERE WHAT IT READS IS OF BULK AT MOST 1048576: true; the input reads as it did. -/
def spanNestedUptoRow : OpenClaim := { program := "yteddoccgbebbeaa", sum := "a30a8ae884b11c3657e89ebc423c408028bae7c6f0c6114d3e1ee4c44fafae96", func := "cullender/culkeep.SpanNested", spec := "spanNested", apart := false, narrowed := true }
def SpanNestedUptoSaid : Prop := spanNestedUptoRow.holds Try.pinned (OpenSpec.upto spanNestedSpec)

/-- 'culkeep.SpanMends', WHERE WHAT IT READS IS OF BULK AT MOST 1048576: true; the input reads as it did. -/
def spanMendsUptoRow : OpenClaim := { program := "yteddoccgbebbeaa", sum := "a30a8ae884b11c3657e89ebc423c408028bae7c6f0c6114d3e1ee4c44fafae96", func := "cullender/culkeep.SpanMends", spec := "spanMends", apart := false, narrowed := true }
def SpanMendsUptoSaid : Prop := spanMendsUptoRow.holds Try.pinned (OpenSpec.upto spanMendsSpec)

/-- 'culkeep.SpanCounts', WHERE WHAT IT READS IS OF BULK AT MOST 1048576: true; the input reads as it did. -/
def spanCountsUptoRow : OpenClaim := { program := "yteddoccgbebbeaa", sum := "a30a8ae884b11c3657e89ebc423c408028bae7c6f0c6114d3e1ee4c44fafae96", func := "cullender/culkeep.SpanCounts", spec := "spanCounts", apart := false, narrowed := true }
def SpanCountsUptoSaid : Prop := spanCountsUptoRow.holds Try.pinned (OpenSpec.upto spanCountsSpec)

/-- 'culkeep.CumOrder', WHERE WHAT IT READS IS OF BULK AT MOST 1048576: true; the input reads as it did. -/
def cumOrderUptoRow : OpenClaim := { program := "yteddoccgbebbeaa", sum := "a30a8ae884b11c3657e89ebc423c408028bae7c6f0c6114d3e1ee4c44fafae96", func := "cullender/culkeep.CumOrder", spec := "cumOrder", unfollowed := true, recurses := true, apart := false, narrowed := true }
def CumOrderUptoSaid : Prop := cumOrderUptoRow.holds Try.pinned (OpenSpec.upto cumOrderSpec)

/-- 'culkeep.EvenMore', WHERE WHAT IT READS IS OF BULK AT MOST 1048576: true; the input reads as it did. -/
def evenMoreUptoRow : OpenClaim := { program := "yteddoccgbebbeaa", sum := "a30a8ae884b11c3657e89ebc423c408028bae7c6f0c6114d3e1ee4c44fafae96", func := "cullender/culkeep.EvenMore", spec := "evenMore", unfollowed := true, recurses := true, apart := false, narrowed := true }
def EvenMoreUptoSaid : Prop := evenMoreUptoRow.holds Try.pinned (OpenSpec.upto evenMoreSpec)

/-- 'culkeep.SpanAlone', WHERE WHAT IT READS IS OF BULK AT MOST 1048576: true; the input reads as it did. -/
def spanAloneUptoRow : OpenClaim := { program := "yteddoccgbebbeaa", sum := "a30a8ae884b11c3657e89ebc423c408028bae7c6f0c6114d3e1ee4c44fafae96", func := "cullender/culkeep.SpanAlone", spec := "spanAlone", apart := false, narrowed := true }
def SpanAloneUptoSaid : Prop := spanAloneUptoRow.holds Try.pinned (OpenSpec.upto spanAloneSpec)

/-- 'culkeep.SpanWhole', WHERE WHAT IT READS IS OF BULK AT MOST 1048576: true; the input reads as it did. -/
def spanWholeUptoRow : OpenClaim := { program := "yteddoccgbebbeaa", sum := "a30a8ae884b11c3657e89ebc423c408028bae7c6f0c6114d3e1ee4c44fafae96", func := "cullender/culkeep.SpanWhole", spec := "spanWhole", apart := false, narrowed := true }
def SpanWholeUptoSaid : Prop := spanWholeUptoRow.holds Try.pinned (OpenSpec.upto spanWholeSpec)

end Rows
end Go.Proofs.Yteddoccgbebbeaa
