/-
  No cell of these rows narrows 'for every input' (looked for: loops, veiled, ifaces, maps, wideKeys, modest, calm, conditions, laid).
  DERIVED. THE GIVEN ROWS OF THIS SEAT. 7 by the template 'for every input the law returns true; each argument reads behind the call as it read before'; 0 by the template 'total and deterministic' (their statements: YtdkpnoinccdaiaaTotals.lean).
  GIVEN WITH THE SEED: the statements are not yours to turn. If you find one false, say at which input.
  Laid BY PROGRAM, IN A SANDBOX (cutbox-rows.mjs): the forced cells as the released guide's own fill.sh prints them over the translation a651b91338a51960… (all of the seat's roots in one cut). By AI agents, Wed Nov 11 2026. No macro, syntax, notation, axiom, sorry.
-/
import Derived.Test.YtdkpnoinccdaiaaChecked
import GoSem.Claim
import GoSem.ClaimJoined
import GoSem.ClaimMapViews
import Derived.JoinedTies
import Derived.KernelRfl
namespace Go.Proofs.Ytdkpnoinccdaiaa
/- THE CELL 'sum', in the pinned program and in every row, IS THE sha256 OF THE DUMP (.gsa) THAT YtdkpnoinccdaiaaProg.lean LOADS. Nothing in Lean hashes anything: it is a label: what it is worth is what the hold of that sum in a sandbox is worth. -/
noncomputable def Try.pinned : Pinned := { name := "ytdkpnoinccdaiaa", sum := "a651b91338a5196024988c7ac20f83f102297487116d2c825be8b45f98bd76f3", checked := Try.checked }
namespace Rows
def none {H : Type} : Left H := { results := [], args := [] }

/-- 'cambistlaw06.AllocNames': WHATEVER THE INPUT: true; the input reads as it did. -/
def allocNamesSpec : ChangeSpec := { name := "allocNames", fn := fun _ => fun
  | [] => { results := [.lit (.bool true)], args := [] }
  | _ => none }
def allocNamesRow : OpenClaim := { program := "ytdkpnoinccdaiaa", sum := "a651b91338a5196024988c7ac20f83f102297487116d2c825be8b45f98bd76f3", func := "cambist/cambistlaw06.AllocNames", spec := "allocNames", unfollowed := true, recurses := true, apart := false }
def AllocNamesSaid : Prop := allocNamesRow.holds Try.pinned (OpenSpec.ofChange allocNamesSpec)

/-- ITS FALSE NEIGHBOUR: 'it returns false'. Refute it at one input. -/
def allocNamesWrong : ChangeSpec := { name := "allocNames", fn := fun _ => fun
  | [] => { results := [.lit (.bool false)], args := [] }
  | _ => none }
def AllocNamesWrongFalsely : Prop := allocNamesRow.holds Try.pinned (OpenSpec.ofChange allocNamesWrong)

/-- 'cambistlaw06.AllocTells': WHATEVER THE INPUT: true; the input reads as it did. -/
def allocTellsSpec : ChangeSpec := { name := "allocTells", fn := fun _ => fun
  | [d1, d2, d3] => { results := [.lit (.bool true)], args := [d1, d2, d3] }
  | _ => none }
def allocTellsRow : OpenClaim := { program := "ytdkpnoinccdaiaa", sum := "a651b91338a5196024988c7ac20f83f102297487116d2c825be8b45f98bd76f3", func := "cambist/cambistlaw06.AllocTells", spec := "allocTells", unfollowed := true, recurses := true, apart := false }
def AllocTellsSaid : Prop := allocTellsRow.holds Try.pinned (OpenSpec.ofChange allocTellsSpec)

/-- ITS FALSE NEIGHBOUR: 'it returns false'. Refute it at one input. -/
def allocTellsWrong : ChangeSpec := { name := "allocTells", fn := fun _ => fun
  | [d1, d2, d3] => { results := [.lit (.bool false)], args := [d1, d2, d3] }
  | _ => none }
def AllocTellsWrongFalsely : Prop := allocTellsRow.holds Try.pinned (OpenSpec.ofChange allocTellsWrong)

/-- 'cambistlaw06.AllocLists': WHATEVER THE INPUT: true; the input reads as it did. -/
def allocListsSpec : ChangeSpec := { name := "allocLists", fn := fun _ => fun
  | [d1, d2, d3] => { results := [.lit (.bool true)], args := [d1, d2, d3] }
  | _ => none }
def allocListsRow : OpenClaim := { program := "ytdkpnoinccdaiaa", sum := "a651b91338a5196024988c7ac20f83f102297487116d2c825be8b45f98bd76f3", func := "cambist/cambistlaw06.AllocLists", spec := "allocLists", unfollowed := true, recurses := true, apart := false }
def AllocListsSaid : Prop := allocListsRow.holds Try.pinned (OpenSpec.ofChange allocListsSpec)

/-- ITS FALSE NEIGHBOUR: 'it returns false'. Refute it at one input. -/
def allocListsWrong : ChangeSpec := { name := "allocLists", fn := fun _ => fun
  | [d1, d2, d3] => { results := [.lit (.bool false)], args := [d1, d2, d3] }
  | _ => none }
def AllocListsWrongFalsely : Prop := allocListsRow.holds Try.pinned (OpenSpec.ofChange allocListsWrong)

/-- 'cambistlaw06.AllocStays': WHATEVER THE INPUT: true; the input reads as it did. -/
def allocStaysSpec : ChangeSpec := { name := "allocStays", fn := fun _ => fun
  | [d1, d2, d3] => { results := [.lit (.bool true)], args := [d1, d2, d3] }
  | _ => none }
def allocStaysRow : OpenClaim := { program := "ytdkpnoinccdaiaa", sum := "a651b91338a5196024988c7ac20f83f102297487116d2c825be8b45f98bd76f3", func := "cambist/cambistlaw06.AllocStays", spec := "allocStays", unfollowed := true, recurses := true, apart := false }
def AllocStaysSaid : Prop := allocStaysRow.holds Try.pinned (OpenSpec.ofChange allocStaysSpec)

/-- ITS FALSE NEIGHBOUR: 'it returns false'. Refute it at one input. -/
def allocStaysWrong : ChangeSpec := { name := "allocStays", fn := fun _ => fun
  | [d1, d2, d3] => { results := [.lit (.bool false)], args := [d1, d2, d3] }
  | _ => none }
def AllocStaysWrongFalsely : Prop := allocStaysRow.holds Try.pinned (OpenSpec.ofChange allocStaysWrong)

/-- 'cambistlaw06.AllocWaits': WHATEVER THE INPUT: true; the input reads as it did. -/
def allocWaitsSpec : ChangeSpec := { name := "allocWaits", fn := fun _ => fun
  | [d1, d2, d3] => { results := [.lit (.bool true)], args := [d1, d2, d3] }
  | _ => none }
def allocWaitsRow : OpenClaim := { program := "ytdkpnoinccdaiaa", sum := "a651b91338a5196024988c7ac20f83f102297487116d2c825be8b45f98bd76f3", func := "cambist/cambistlaw06.AllocWaits", spec := "allocWaits", unfollowed := true, recurses := true, apart := false }
def AllocWaitsSaid : Prop := allocWaitsRow.holds Try.pinned (OpenSpec.ofChange allocWaitsSpec)

/-- ITS FALSE NEIGHBOUR: 'it returns false'. Refute it at one input. -/
def allocWaitsWrong : ChangeSpec := { name := "allocWaits", fn := fun _ => fun
  | [d1, d2, d3] => { results := [.lit (.bool false)], args := [d1, d2, d3] }
  | _ => none }
def AllocWaitsWrongFalsely : Prop := allocWaitsRow.holds Try.pinned (OpenSpec.ofChange allocWaitsWrong)

/-- 'cambistlaw06.AllocBack': WHATEVER THE INPUT: true; the input reads as it did. -/
def allocBackSpec : ChangeSpec := { name := "allocBack", fn := fun _ => fun
  | [d] => { results := [.lit (.bool true)], args := [d] }
  | _ => none }
def allocBackRow : OpenClaim := { program := "ytdkpnoinccdaiaa", sum := "a651b91338a5196024988c7ac20f83f102297487116d2c825be8b45f98bd76f3", func := "cambist/cambistlaw06.AllocBack", spec := "allocBack", unfollowed := true, recurses := true, apart := false }
def AllocBackSaid : Prop := allocBackRow.holds Try.pinned (OpenSpec.ofChange allocBackSpec)

/-- ITS FALSE NEIGHBOUR: 'it returns false'. Refute it at one input. -/
def allocBackWrong : ChangeSpec := { name := "allocBack", fn := fun _ => fun
  | [d] => { results := [.lit (.bool false)], args := [d] }
  | _ => none }
def AllocBackWrongFalsely : Prop := allocBackRow.holds Try.pinned (OpenSpec.ofChange allocBackWrong)

/-- 'cambistlaw06.AllocLow': WHATEVER THE INPUT: true; the input reads as it did. -/
def allocLowSpec : ChangeSpec := { name := "allocLow", fn := fun _ => fun
  | [d1, d2] => { results := [.lit (.bool true)], args := [d1, d2] }
  | _ => none }
def allocLowRow : OpenClaim := { program := "ytdkpnoinccdaiaa", sum := "a651b91338a5196024988c7ac20f83f102297487116d2c825be8b45f98bd76f3", func := "cambist/cambistlaw06.AllocLow", spec := "allocLow", unfollowed := true, recurses := true, apart := false }
def AllocLowSaid : Prop := allocLowRow.holds Try.pinned (OpenSpec.ofChange allocLowSpec)

/-- ITS FALSE NEIGHBOUR: 'it returns false'. Refute it at one input. -/
def allocLowWrong : ChangeSpec := { name := "allocLow", fn := fun _ => fun
  | [d1, d2] => { results := [.lit (.bool false)], args := [d1, d2] }
  | _ => none }
def AllocLowWrongFalsely : Prop := allocLowRow.holds Try.pinned (OpenSpec.ofChange allocLowWrong)

/- THE SECOND FORM. 'bulk': how many values and letters a reading holds, each counted each time it is reached (what is shared counts as often as it is met; a slice's spare places count too). A statement '..UptoSaid' is the law's where the arguments, and the package variables that the reading takes, are together of bulk at most 1048576: NARROWER than '..Said'. Prove '..Said' where nothing that the law and all that it calls make is longer than what came in: it says more and counts as full. Else prove '..UptoSaid'. A law counts once. -/
mutual
def uptoBulk {H : Type} : DataW H → Nat
  | .lit (.string bytes) => bytes.length + 1
  | .lit _ => 1
  | .nil => 1
  | .ptr d => uptoBulk d + 1
  | .slice elems spare => uptoBulkAll elems + uptoBulkAll spare + 1
  | .agg parts => uptoBulkAll parts + 1
  | .iface _ d => uptoBulk d + 1
  | .map entries => uptoBulkEntries entries + 1
  | .held _ => 1
def uptoBulkAll {H : Type} : List (DataW H) → Nat
  | [] => 0
  | d :: r => uptoBulk d + uptoBulkAll r
def uptoBulkEntries {H : Type} : List (Lit × DataW H) → Nat
  | [] => 0
  | x :: r => uptoBulkEntry x + uptoBulkEntries r
def uptoBulkEntry {H : Type} : Lit × DataW H → Nat
  | (.string bytes, d) => bytes.length + uptoBulk d + 1
  | (_, d) => uptoBulk d + 1
 end
def uptoSmall : (H : Type) → List (DataW H) → Bool := fun _ ds => decide (uptoBulkAll ds ≤ 1048576)
def OpenSpec.upto (s : _root_.Go.ChangeSpec) : _root_.Go.OpenSpec := { _root_.Go.OpenSpec.ofChange s with cond := some uptoSmall }

/-- 'cambistlaw06.AllocNames', WHERE WHAT IT READS IS OF BULK AT MOST 1048576: true; the input reads as it did. -/
def allocNamesUptoRow : OpenClaim := { program := "ytdkpnoinccdaiaa", sum := "a651b91338a5196024988c7ac20f83f102297487116d2c825be8b45f98bd76f3", func := "cambist/cambistlaw06.AllocNames", spec := "allocNames", unfollowed := true, recurses := true, apart := false, narrowed := true }
def AllocNamesUptoSaid : Prop := allocNamesUptoRow.holds Try.pinned (OpenSpec.upto allocNamesSpec)

/-- 'cambistlaw06.AllocTells', WHERE WHAT IT READS IS OF BULK AT MOST 1048576: true; the input reads as it did. -/
def allocTellsUptoRow : OpenClaim := { program := "ytdkpnoinccdaiaa", sum := "a651b91338a5196024988c7ac20f83f102297487116d2c825be8b45f98bd76f3", func := "cambist/cambistlaw06.AllocTells", spec := "allocTells", unfollowed := true, recurses := true, apart := false, narrowed := true }
def AllocTellsUptoSaid : Prop := allocTellsUptoRow.holds Try.pinned (OpenSpec.upto allocTellsSpec)

/-- 'cambistlaw06.AllocLists', WHERE WHAT IT READS IS OF BULK AT MOST 1048576: true; the input reads as it did. -/
def allocListsUptoRow : OpenClaim := { program := "ytdkpnoinccdaiaa", sum := "a651b91338a5196024988c7ac20f83f102297487116d2c825be8b45f98bd76f3", func := "cambist/cambistlaw06.AllocLists", spec := "allocLists", unfollowed := true, recurses := true, apart := false, narrowed := true }
def AllocListsUptoSaid : Prop := allocListsUptoRow.holds Try.pinned (OpenSpec.upto allocListsSpec)

/-- 'cambistlaw06.AllocStays', WHERE WHAT IT READS IS OF BULK AT MOST 1048576: true; the input reads as it did. -/
def allocStaysUptoRow : OpenClaim := { program := "ytdkpnoinccdaiaa", sum := "a651b91338a5196024988c7ac20f83f102297487116d2c825be8b45f98bd76f3", func := "cambist/cambistlaw06.AllocStays", spec := "allocStays", unfollowed := true, recurses := true, apart := false, narrowed := true }
def AllocStaysUptoSaid : Prop := allocStaysUptoRow.holds Try.pinned (OpenSpec.upto allocStaysSpec)

/-- 'cambistlaw06.AllocWaits', WHERE WHAT IT READS IS OF BULK AT MOST 1048576: true; the input reads as it did. -/
def allocWaitsUptoRow : OpenClaim := { program := "ytdkpnoinccdaiaa", sum := "a651b91338a5196024988c7ac20f83f102297487116d2c825be8b45f98bd76f3", func := "cambist/cambistlaw06.AllocWaits", spec := "allocWaits", unfollowed := true, recurses := true, apart := false, narrowed := true }
def AllocWaitsUptoSaid : Prop := allocWaitsUptoRow.holds Try.pinned (OpenSpec.upto allocWaitsSpec)

/-- 'cambistlaw06.AllocBack', WHERE WHAT IT READS IS OF BULK AT MOST 1048576: true; the input reads as it did. -/
def allocBackUptoRow : OpenClaim := { program := "ytdkpnoinccdaiaa", sum := "a651b91338a5196024988c7ac20f83f102297487116d2c825be8b45f98bd76f3", func := "cambist/cambistlaw06.AllocBack", spec := "allocBack", unfollowed := true, recurses := true, apart := false, narrowed := true }
def AllocBackUptoSaid : Prop := allocBackUptoRow.holds Try.pinned (OpenSpec.upto allocBackSpec)

/-- 'cambistlaw06.AllocLow', WHERE WHAT IT READS IS OF BULK AT MOST 1048576: true; the input reads as it did. -/
def allocLowUptoRow : OpenClaim := { program := "ytdkpnoinccdaiaa", sum := "a651b91338a5196024988c7ac20f83f102297487116d2c825be8b45f98bd76f3", func := "cambist/cambistlaw06.AllocLow", spec := "allocLow", unfollowed := true, recurses := true, apart := false, narrowed := true }
def AllocLowUptoSaid : Prop := allocLowUptoRow.holds Try.pinned (OpenSpec.upto allocLowSpec)

end Rows
end Go.Proofs.Ytdkpnoinccdaiaa
