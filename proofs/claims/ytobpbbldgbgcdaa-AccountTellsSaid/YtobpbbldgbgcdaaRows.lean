/-
  No cell of these rows narrows 'for every input' (looked for: loops, veiled, ifaces, maps, wideKeys, modest, calm, conditions, laid).
  DERIVED. THE GIVEN ROWS OF THIS SEAT. 7 by the template 'for every input the law returns true; each argument reads behind the call as it read before'; 0 by the template 'total and deterministic' (their statements: YtobpbbldgbgcdaaTotals.lean).
  GIVEN WITH THE SEED: the statements are not yours to turn. If you find one false, say at which input.
  Laid BY PROGRAM, IN A SANDBOX (cutbox-rows.mjs): the forced cells as the released guide's own fill.sh prints them over the translation fcffea017cecdd29… (all of the seat's roots in one cut). By AI agents, Wed Nov 11 2026. No macro, syntax, notation, axiom, sorry.
-/
import Derived.Test.YtobpbbldgbgcdaaChecked
import GoSem.Claim
import GoSem.ClaimJoined
import GoSem.ClaimMapViews
import Derived.JoinedTies
import Derived.KernelRfl
namespace Go.Proofs.Ytobpbbldgbgcdaa
/- THE CELL 'sum', in the pinned program and in every row, IS THE sha256 OF THE DUMP (.gsa) THAT YtobpbbldgbgcdaaProg.lean LOADS. Nothing in Lean hashes anything: it is a label: what it is worth is what the hold of that sum in a sandbox is worth. -/
noncomputable def Try.pinned : Pinned := { name := "ytobpbbldgbgcdaa", sum := "fcffea017cecdd29b082f9becc9cb65bae7382db8981e1a3ef3b99a48d8c1ec4", checked := Try.checked }
namespace Rows
def none {H : Type} : Left H := { results := [], args := [] }

/-- 'cambistlaw11.AccountNames': WHATEVER THE INPUT: true; the input reads as it did. -/
def accountNamesSpec : ChangeSpec := { name := "accountNames", fn := fun _ => fun
  | [] => { results := [.lit (.bool true)], args := [] }
  | _ => none }
def accountNamesRow : OpenClaim := { program := "ytobpbbldgbgcdaa", sum := "fcffea017cecdd29b082f9becc9cb65bae7382db8981e1a3ef3b99a48d8c1ec4", func := "cambist/cambistlaw11.AccountNames", spec := "accountNames", inPlace := ["math/bits.Add64"], unfollowed := true, recurses := true, plainKeys := false, apart := false }
def AccountNamesSaid : Prop := accountNamesRow.holds Try.pinned (OpenSpec.ofChange accountNamesSpec)

/-- ITS FALSE NEIGHBOUR: 'it returns false'. Refute it at one input. -/
def accountNamesWrong : ChangeSpec := { name := "accountNames", fn := fun _ => fun
  | [] => { results := [.lit (.bool false)], args := [] }
  | _ => none }
def AccountNamesWrongFalsely : Prop := accountNamesRow.holds Try.pinned (OpenSpec.ofChange accountNamesWrong)

/-- 'cambistlaw11.AccountTells': WHATEVER THE INPUT: true; the input reads as it did. -/
def accountTellsSpec : ChangeSpec := { name := "accountTells", fn := fun _ => fun
  | [d1, d2, d3, d4, d5] => { results := [.lit (.bool true)], args := [d1, d2, d3, d4, d5] }
  | _ => none }
def accountTellsRow : OpenClaim := { program := "ytobpbbldgbgcdaa", sum := "fcffea017cecdd29b082f9becc9cb65bae7382db8981e1a3ef3b99a48d8c1ec4", func := "cambist/cambistlaw11.AccountTells", spec := "accountTells", inPlace := ["math/bits.Add64"], unfollowed := true, recurses := true, plainKeys := false, apart := false }
def AccountTellsSaid : Prop := accountTellsRow.holds Try.pinned (OpenSpec.ofChange accountTellsSpec)

/-- ITS FALSE NEIGHBOUR: 'it returns false'. Refute it at one input. -/
def accountTellsWrong : ChangeSpec := { name := "accountTells", fn := fun _ => fun
  | [d1, d2, d3, d4, d5] => { results := [.lit (.bool false)], args := [d1, d2, d3, d4, d5] }
  | _ => none }
def AccountTellsWrongFalsely : Prop := accountTellsRow.holds Try.pinned (OpenSpec.ofChange accountTellsWrong)

/-- 'cambistlaw11.AccountStays': WHATEVER THE INPUT: true; the input reads as it did. -/
def accountStaysSpec : ChangeSpec := { name := "accountStays", fn := fun _ => fun
  | [d1, d2, d3, d4, d5] => { results := [.lit (.bool true)], args := [d1, d2, d3, d4, d5] }
  | _ => none }
def accountStaysRow : OpenClaim := { program := "ytobpbbldgbgcdaa", sum := "fcffea017cecdd29b082f9becc9cb65bae7382db8981e1a3ef3b99a48d8c1ec4", func := "cambist/cambistlaw11.AccountStays", spec := "accountStays", inPlace := ["math/bits.Add64"], unfollowed := true, recurses := true, plainKeys := false, apart := false }
def AccountStaysSaid : Prop := accountStaysRow.holds Try.pinned (OpenSpec.ofChange accountStaysSpec)

/-- ITS FALSE NEIGHBOUR: 'it returns false'. Refute it at one input. -/
def accountStaysWrong : ChangeSpec := { name := "accountStays", fn := fun _ => fun
  | [d1, d2, d3, d4, d5] => { results := [.lit (.bool false)], args := [d1, d2, d3, d4, d5] }
  | _ => none }
def AccountStaysWrongFalsely : Prop := accountStaysRow.holds Try.pinned (OpenSpec.ofChange accountStaysWrong)

/-- 'cambistlaw11.AccountSums': WHATEVER THE INPUT: true; the input reads as it did. -/
def accountSumsSpec : ChangeSpec := { name := "accountSums", fn := fun _ => fun
  | [d1, d2, d3, d4] => { results := [.lit (.bool true)], args := [d1, d2, d3, d4] }
  | _ => none }
def accountSumsRow : OpenClaim := { program := "ytobpbbldgbgcdaa", sum := "fcffea017cecdd29b082f9becc9cb65bae7382db8981e1a3ef3b99a48d8c1ec4", func := "cambist/cambistlaw11.AccountSums", spec := "accountSums", inPlace := ["math/bits.Add64"], unfollowed := true, recurses := true, plainKeys := false, apart := false }
def AccountSumsSaid : Prop := accountSumsRow.holds Try.pinned (OpenSpec.ofChange accountSumsSpec)

/-- ITS FALSE NEIGHBOUR: 'it returns false'. Refute it at one input. -/
def accountSumsWrong : ChangeSpec := { name := "accountSums", fn := fun _ => fun
  | [d1, d2, d3, d4] => { results := [.lit (.bool false)], args := [d1, d2, d3, d4] }
  | _ => none }
def AccountSumsWrongFalsely : Prop := accountSumsRow.holds Try.pinned (OpenSpec.ofChange accountSumsWrong)

/-- 'cambistlaw11.AccountHolds': WHATEVER THE INPUT: true; the input reads as it did. -/
def accountHoldsSpec : ChangeSpec := { name := "accountHolds", fn := fun _ => fun
  | [d1, d2, d3] => { results := [.lit (.bool true)], args := [d1, d2, d3] }
  | _ => none }
def accountHoldsRow : OpenClaim := { program := "ytobpbbldgbgcdaa", sum := "fcffea017cecdd29b082f9becc9cb65bae7382db8981e1a3ef3b99a48d8c1ec4", func := "cambist/cambistlaw11.AccountHolds", spec := "accountHolds", inPlace := ["math/bits.Add64"], unfollowed := true, recurses := true, plainKeys := false, apart := false }
def AccountHoldsSaid : Prop := accountHoldsRow.holds Try.pinned (OpenSpec.ofChange accountHoldsSpec)

/-- ITS FALSE NEIGHBOUR: 'it returns false'. Refute it at one input. -/
def accountHoldsWrong : ChangeSpec := { name := "accountHolds", fn := fun _ => fun
  | [d1, d2, d3] => { results := [.lit (.bool false)], args := [d1, d2, d3] }
  | _ => none }
def AccountHoldsWrongFalsely : Prop := accountHoldsRow.holds Try.pinned (OpenSpec.ofChange accountHoldsWrong)

/-- 'cambistlaw11.AccountOrder': WHATEVER THE INPUT: true; the input reads as it did. -/
def accountOrderSpec : ChangeSpec := { name := "accountOrder", fn := fun _ => fun
  | [d1, d2, d3, d4] => { results := [.lit (.bool true)], args := [d1, d2, d3, d4] }
  | _ => none }
def accountOrderRow : OpenClaim := { program := "ytobpbbldgbgcdaa", sum := "fcffea017cecdd29b082f9becc9cb65bae7382db8981e1a3ef3b99a48d8c1ec4", func := "cambist/cambistlaw11.AccountOrder", spec := "accountOrder", inPlace := ["math/bits.Add64"], unfollowed := true, recurses := true, plainKeys := false, apart := false }
def AccountOrderSaid : Prop := accountOrderRow.holds Try.pinned (OpenSpec.ofChange accountOrderSpec)

/-- ITS FALSE NEIGHBOUR: 'it returns false'. Refute it at one input. -/
def accountOrderWrong : ChangeSpec := { name := "accountOrder", fn := fun _ => fun
  | [d1, d2, d3, d4] => { results := [.lit (.bool false)], args := [d1, d2, d3, d4] }
  | _ => none }
def AccountOrderWrongFalsely : Prop := accountOrderRow.holds Try.pinned (OpenSpec.ofChange accountOrderWrong)

/-- 'cambistlaw11.AccountBack': WHATEVER THE INPUT: true; the input reads as it did. -/
def accountBackSpec : ChangeSpec := { name := "accountBack", fn := fun _ => fun
  | [d1, d2] => { results := [.lit (.bool true)], args := [d1, d2] }
  | _ => none }
def accountBackRow : OpenClaim := { program := "ytobpbbldgbgcdaa", sum := "fcffea017cecdd29b082f9becc9cb65bae7382db8981e1a3ef3b99a48d8c1ec4", func := "cambist/cambistlaw11.AccountBack", spec := "accountBack", inPlace := ["math/bits.Add64"], unfollowed := true, recurses := true, plainKeys := false, apart := false }
def AccountBackSaid : Prop := accountBackRow.holds Try.pinned (OpenSpec.ofChange accountBackSpec)

/-- ITS FALSE NEIGHBOUR: 'it returns false'. Refute it at one input. -/
def accountBackWrong : ChangeSpec := { name := "accountBack", fn := fun _ => fun
  | [d1, d2] => { results := [.lit (.bool false)], args := [d1, d2] }
  | _ => none }
def AccountBackWrongFalsely : Prop := accountBackRow.holds Try.pinned (OpenSpec.ofChange accountBackWrong)

/- THE SECOND FORM. 'bulk': how many values and letters a reading holds, each counted each time it is reached (what is shared counts as often as it is met; a slice's spare places count too). A statement '..UptoSaid' is the law's where the arguments, and the package variables that the reading takes, are together of bulk at most 1048576: NARROWER than '..Said'. Prove '..Said' where nothing that the law and all that it calls make is longer than what came in: it says more and counts as full. Else prove '..UptoSaid'. A law counts once. -/
mutual
def uptoBulk {H : Type} : DataW H → Nat
  | .lit (.string bytes) => bytes.length + 1
  | .lit _ => 1
  | .nil => 1
  | .ptr d => uptoBulk d + 1
  | .slice elems spare => uptoBulkAll elems + uptoBulkAll spare + 1
  | .agg parts => uptoBulkAll parts + 1
  | .iface _ d => uptoBulk d + 1
  | .map entries => uptoBulkEntries entries + 1
  | .held _ => 1
def uptoBulkAll {H : Type} : List (DataW H) → Nat
  | [] => 0
  | d :: r => uptoBulk d + uptoBulkAll r
def uptoBulkEntries {H : Type} : List (Lit × DataW H) → Nat
  | [] => 0
  | x :: r => uptoBulkEntry x + uptoBulkEntries r
def uptoBulkEntry {H : Type} : Lit × DataW H → Nat
  | (.string bytes, d) => bytes.length + uptoBulk d + 1
  | (_, d) => uptoBulk d + 1
 end
def uptoSmall : (H : Type) → List (DataW H) → Bool := fun _ ds => decide (uptoBulkAll ds ≤ 1048576)
def OpenSpec.upto (s : _root_.Go.ChangeSpec) : _root_.Go.OpenSpec := { _root_.Go.OpenSpec.ofChange s with cond := some uptoSmall }

/-- 'cambistlaw11.AccountNames', WHERE WHAT IT READS IS OF BULK AT MOST 1048576: true; the input reads as it did. -/
def accountNamesUptoRow : OpenClaim := { program := "ytobpbbldgbgcdaa", sum := "fcffea017cecdd29b082f9becc9cb65bae7382db8981e1a3ef3b99a48d8c1ec4", func := "cambist/cambistlaw11.AccountNames", spec := "accountNames", inPlace := ["math/bits.Add64"], unfollowed := true, recurses := true, plainKeys := false, apart := false, narrowed := true }
def AccountNamesUptoSaid : Prop := accountNamesUptoRow.holds Try.pinned (OpenSpec.upto accountNamesSpec)

/-- 'cambistlaw11.AccountTells', WHERE WHAT IT READS IS OF BULK AT MOST 1048576: true; the input reads as it did. -/
def accountTellsUptoRow : OpenClaim := { program := "ytobpbbldgbgcdaa", sum := "fcffea017cecdd29b082f9becc9cb65bae7382db8981e1a3ef3b99a48d8c1ec4", func := "cambist/cambistlaw11.AccountTells", spec := "accountTells", inPlace := ["math/bits.Add64"], unfollowed := true, recurses := true, plainKeys := false, apart := false, narrowed := true }
def AccountTellsUptoSaid : Prop := accountTellsUptoRow.holds Try.pinned (OpenSpec.upto accountTellsSpec)

/-- 'cambistlaw11.AccountStays', WHERE WHAT IT READS IS OF BULK AT MOST 1048576: true; the input reads as it did. -/
def accountStaysUptoRow : OpenClaim := { program := "ytobpbbldgbgcdaa", sum := "fcffea017cecdd29b082f9becc9cb65bae7382db8981e1a3ef3b99a48d8c1ec4", func := "cambist/cambistlaw11.AccountStays", spec := "accountStays", inPlace := ["math/bits.Add64"], unfollowed := true, recurses := true, plainKeys := false, apart := false, narrowed := true }
def AccountStaysUptoSaid : Prop := accountStaysUptoRow.holds Try.pinned (OpenSpec.upto accountStaysSpec)

/-- 'cambistlaw11.AccountSums', WHERE WHAT IT READS IS OF BULK AT MOST 1048576: true; the input reads as it did. -/
def accountSumsUptoRow : OpenClaim := { program := "ytobpbbldgbgcdaa", sum := "fcffea017cecdd29b082f9becc9cb65bae7382db8981e1a3ef3b99a48d8c1ec4", func := "cambist/cambistlaw11.AccountSums", spec := "accountSums", inPlace := ["math/bits.Add64"], unfollowed := true, recurses := true, plainKeys := false, apart := false, narrowed := true }
def AccountSumsUptoSaid : Prop := accountSumsUptoRow.holds Try.pinned (OpenSpec.upto accountSumsSpec)

/-- 'cambistlaw11.AccountHolds', WHERE WHAT IT READS IS OF BULK AT MOST 1048576: true; the input reads as it did. -/
def accountHoldsUptoRow : OpenClaim := { program := "ytobpbbldgbgcdaa", sum := "fcffea017cecdd29b082f9becc9cb65bae7382db8981e1a3ef3b99a48d8c1ec4", func := "cambist/cambistlaw11.AccountHolds", spec := "accountHolds", inPlace := ["math/bits.Add64"], unfollowed := true, recurses := true, plainKeys := false, apart := false, narrowed := true }
def AccountHoldsUptoSaid : Prop := accountHoldsUptoRow.holds Try.pinned (OpenSpec.upto accountHoldsSpec)

/-- 'cambistlaw11.AccountOrder', WHERE WHAT IT READS IS OF BULK AT MOST 1048576: true; the input reads as it did. -/
def accountOrderUptoRow : OpenClaim := { program := "ytobpbbldgbgcdaa", sum := "fcffea017cecdd29b082f9becc9cb65bae7382db8981e1a3ef3b99a48d8c1ec4", func := "cambist/cambistlaw11.AccountOrder", spec := "accountOrder", inPlace := ["math/bits.Add64"], unfollowed := true, recurses := true, plainKeys := false, apart := false, narrowed := true }
def AccountOrderUptoSaid : Prop := accountOrderUptoRow.holds Try.pinned (OpenSpec.upto accountOrderSpec)

/-- 'cambistlaw11.AccountBack', WHERE WHAT IT READS IS OF BULK AT MOST 1048576: true; the input reads as it did. -/
def accountBackUptoRow : OpenClaim := { program := "ytobpbbldgbgcdaa", sum := "fcffea017cecdd29b082f9becc9cb65bae7382db8981e1a3ef3b99a48d8c1ec4", func := "cambist/cambistlaw11.AccountBack", spec := "accountBack", inPlace := ["math/bits.Add64"], unfollowed := true, recurses := true, plainKeys := false, apart := false, narrowed := true }
def AccountBackUptoSaid : Prop := accountBackUptoRow.holds Try.pinned (OpenSpec.upto accountBackSpec)

end Rows
end Go.Proofs.Ytobpbbldgbgcdaa
