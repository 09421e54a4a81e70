/-
  No cell of these rows narrows 'for every input' (looked for: loops, veiled, ifaces, maps, wideKeys, modest, calm, conditions, laid).
  DERIVED. THE GIVEN ROWS OF THIS SEAT. 10 by the template 'for every input the law returns true; each argument reads behind the call as it read before'; 0 by the template 'total and deterministic' (their statements: YtjdmbkkdnonkkaaGreatTotals.lean).
  GIVEN WITH THE SEED: the statements are not yours to turn. If you find one false, say at which input.
  Laid BY PROGRAM, IN A SANDBOX (cutbox-rows.mjs): the forced cells as the released guide's own fill.sh prints them over the translation af03ec62077bc45b… (all of the seat's roots in one cut). By AI agents, Wed Nov 11 2026. No macro, syntax, notation, axiom, sorry.
-/
import Derived.Test.YtjdmbkkdnonkkaaGreatChecked
import GoSem.Claim
import GoSem.ClaimJoined
import GoSem.ClaimMapViews
import Derived.JoinedTies
import Derived.KernelRfl
namespace Go.Proofs.YtjdmbkkdnonkkaaGreat
/- THE CELL 'sum', in the pinned program and in every row, IS THE sha256 OF THE DUMP (.gsa) THAT YtjdmbkkdnonkkaaGreatProg.lean LOADS. Nothing in Lean hashes anything: it is a label: what it is worth is what the hold of that sum in a sandbox is worth. -/
noncomputable def Tryz.pinned : Pinned := { name := "ytjdmbkkdnonkkaagreat", sum := "af03ec62077bc45bec776eaa0b18cfd1d71fd72eda62aeefaf78194f1cfd40ca", checked := Tryz.checked }
namespace Rows
def none {H : Type} : Left H := { results := [], args := [] }

/-- 'tetherlaw06.WalPlays': WHATEVER THE INPUT: true; the input reads as it did. -/
def walPlaysSpec : ChangeSpec := { name := "walPlays", fn := fun _ => fun
  | [d] => { results := [.lit (.bool true)], args := [d] }
  | _ => none }
def walPlaysRow : OpenClaim := { program := "ytjdmbkkdnonkkaagreat", sum := "af03ec62077bc45bec776eaa0b18cfd1d71fd72eda62aeefaf78194f1cfd40ca", func := "tether/tetherlaw06.WalPlays", spec := "walPlays", inPlace := ["internal/bytealg.CountString", "internal/bytealg.IndexByteString", "internal/bytealg.IndexString", "internal/abi.NoEscape", "internal/bytealg.MakeNoZero"], unfollowed := true, recurses := true, named := ["internal/bytealg.MaxLen"], apart := false }
def WalPlaysSaid : Prop := walPlaysRow.holds Tryz.pinned (OpenSpec.ofChange walPlaysSpec)

/-- ITS FALSE NEIGHBOUR: 'it returns false'. Refute it at one input. -/
def walPlaysWrong : ChangeSpec := { name := "walPlays", fn := fun _ => fun
  | [d] => { results := [.lit (.bool false)], args := [d] }
  | _ => none }
def WalPlaysWrongFalsely : Prop := walPlaysRow.holds Tryz.pinned (OpenSpec.ofChange walPlaysWrong)

/-- 'tetherlaw06.WalHolds': WHATEVER THE INPUT: true; the input reads as it did. -/
def walHoldsSpec : ChangeSpec := { name := "walHolds", fn := fun _ => fun
  | [d1, d2, d3] => { results := [.lit (.bool true)], args := [d1, d2, d3] }
  | _ => none }
def walHoldsRow : OpenClaim := { program := "ytjdmbkkdnonkkaagreat", sum := "af03ec62077bc45bec776eaa0b18cfd1d71fd72eda62aeefaf78194f1cfd40ca", func := "tether/tetherlaw06.WalHolds", spec := "walHolds", inPlace := ["internal/bytealg.CountString", "internal/bytealg.IndexByteString", "internal/bytealg.IndexString", "internal/abi.NoEscape", "internal/bytealg.MakeNoZero"], unfollowed := true, recurses := true, named := ["internal/bytealg.MaxLen"], apart := false }
def WalHoldsSaid : Prop := walHoldsRow.holds Tryz.pinned (OpenSpec.ofChange walHoldsSpec)

/-- ITS FALSE NEIGHBOUR: 'it returns false'. Refute it at one input. -/
def walHoldsWrong : ChangeSpec := { name := "walHolds", fn := fun _ => fun
  | [d1, d2, d3] => { results := [.lit (.bool false)], args := [d1, d2, d3] }
  | _ => none }
def WalHoldsWrongFalsely : Prop := walHoldsRow.holds Tryz.pinned (OpenSpec.ofChange walHoldsWrong)

/-- 'tetherlaw06.WalResets': WHATEVER THE INPUT: true; the input reads as it did. -/
def walResetsSpec : ChangeSpec := { name := "walResets", fn := fun _ => fun
  | [d1, d2, d3] => { results := [.lit (.bool true)], args := [d1, d2, d3] }
  | _ => none }
def walResetsRow : OpenClaim := { program := "ytjdmbkkdnonkkaagreat", sum := "af03ec62077bc45bec776eaa0b18cfd1d71fd72eda62aeefaf78194f1cfd40ca", func := "tether/tetherlaw06.WalResets", spec := "walResets", inPlace := ["internal/bytealg.CountString", "internal/bytealg.IndexByteString", "internal/bytealg.IndexString", "internal/abi.NoEscape", "internal/bytealg.MakeNoZero"], unfollowed := true, recurses := true, named := ["internal/bytealg.MaxLen"], apart := false }
def WalResetsSaid : Prop := walResetsRow.holds Tryz.pinned (OpenSpec.ofChange walResetsSpec)

/-- ITS FALSE NEIGHBOUR: 'it returns false'. Refute it at one input. -/
def walResetsWrong : ChangeSpec := { name := "walResets", fn := fun _ => fun
  | [d1, d2, d3] => { results := [.lit (.bool false)], args := [d1, d2, d3] }
  | _ => none }
def WalResetsWrongFalsely : Prop := walResetsRow.holds Tryz.pinned (OpenSpec.ofChange walResetsWrong)

/-- 'tetherlaw07.TableRecords': WHATEVER THE INPUT: true; the input reads as it did. -/
def tableRecordsSpec : ChangeSpec := { name := "tableRecords", fn := fun _ => fun
  | [d1, d2] => { results := [.lit (.bool true)], args := [d1, d2] }
  | _ => none }
def tableRecordsRow : OpenClaim := { program := "ytjdmbkkdnonkkaagreat", sum := "af03ec62077bc45bec776eaa0b18cfd1d71fd72eda62aeefaf78194f1cfd40ca", func := "tether/tetherlaw07.TableRecords", spec := "tableRecords", inPlace := ["internal/abi.NoEscape", "internal/bytealg.MakeNoZero", "internal/bytealg.CountString", "internal/bytealg.IndexByteString", "internal/bytealg.IndexString"], unfollowed := true, recurses := true, named := ["internal/bytealg.MaxLen"], apart := false }
def TableRecordsSaid : Prop := tableRecordsRow.holds Tryz.pinned (OpenSpec.ofChange tableRecordsSpec)

/-- ITS FALSE NEIGHBOUR: 'it returns false'. Refute it at one input. -/
def tableRecordsWrong : ChangeSpec := { name := "tableRecords", fn := fun _ => fun
  | [d1, d2] => { results := [.lit (.bool false)], args := [d1, d2] }
  | _ => none }
def TableRecordsWrongFalsely : Prop := tableRecordsRow.holds Tryz.pinned (OpenSpec.ofChange tableRecordsWrong)

/-- 'tetherlaw07.TableBack': WHATEVER THE INPUT: true; the input reads as it did. -/
def tableBackSpec : ChangeSpec := { name := "tableBack", fn := fun _ => fun
  | [d1, d2] => { results := [.lit (.bool true)], args := [d1, d2] }
  | _ => none }
def tableBackRow : OpenClaim := { program := "ytjdmbkkdnonkkaagreat", sum := "af03ec62077bc45bec776eaa0b18cfd1d71fd72eda62aeefaf78194f1cfd40ca", func := "tether/tetherlaw07.TableBack", spec := "tableBack", inPlace := ["internal/abi.NoEscape", "internal/bytealg.MakeNoZero", "internal/bytealg.CountString", "internal/bytealg.IndexByteString", "internal/bytealg.IndexString"], unfollowed := true, recurses := true, named := ["internal/bytealg.MaxLen"], apart := false }
def TableBackSaid : Prop := tableBackRow.holds Tryz.pinned (OpenSpec.ofChange tableBackSpec)

/-- ITS FALSE NEIGHBOUR: 'it returns false'. Refute it at one input. -/
def tableBackWrong : ChangeSpec := { name := "tableBack", fn := fun _ => fun
  | [d1, d2] => { results := [.lit (.bool false)], args := [d1, d2] }
  | _ => none }
def TableBackWrongFalsely : Prop := tableBackRow.holds Tryz.pinned (OpenSpec.ofChange tableBackWrong)

/-- 'tetherlaw07.TablePlays': WHATEVER THE INPUT: true; the input reads as it did. -/
def tablePlaysSpec : ChangeSpec := { name := "tablePlays", fn := fun _ => fun
  | [d] => { results := [.lit (.bool true)], args := [d] }
  | _ => none }
def tablePlaysRow : OpenClaim := { program := "ytjdmbkkdnonkkaagreat", sum := "af03ec62077bc45bec776eaa0b18cfd1d71fd72eda62aeefaf78194f1cfd40ca", func := "tether/tetherlaw07.TablePlays", spec := "tablePlays", inPlace := ["internal/bytealg.CountString", "internal/bytealg.IndexByteString", "internal/bytealg.IndexString", "internal/abi.NoEscape", "internal/bytealg.MakeNoZero"], unfollowed := true, recurses := true, named := ["internal/bytealg.MaxLen"], apart := false }
def TablePlaysSaid : Prop := tablePlaysRow.holds Tryz.pinned (OpenSpec.ofChange tablePlaysSpec)

/-- ITS FALSE NEIGHBOUR: 'it returns false'. Refute it at one input. -/
def tablePlaysWrong : ChangeSpec := { name := "tablePlays", fn := fun _ => fun
  | [d] => { results := [.lit (.bool false)], args := [d] }
  | _ => none }
def TablePlaysWrongFalsely : Prop := tablePlaysRow.holds Tryz.pinned (OpenSpec.ofChange tablePlaysWrong)

/-- 'tetherlaw07.TableHolds': WHATEVER THE INPUT: true; the input reads as it did. -/
def tableHoldsSpec : ChangeSpec := { name := "tableHolds", fn := fun _ => fun
  | [d1, d2, d3, d4] => { results := [.lit (.bool true)], args := [d1, d2, d3, d4] }
  | _ => none }
def tableHoldsRow : OpenClaim := { program := "ytjdmbkkdnonkkaagreat", sum := "af03ec62077bc45bec776eaa0b18cfd1d71fd72eda62aeefaf78194f1cfd40ca", func := "tether/tetherlaw07.TableHolds", spec := "tableHolds", inPlace := ["internal/bytealg.CountString", "internal/bytealg.IndexByteString", "internal/bytealg.IndexString", "internal/abi.NoEscape", "internal/bytealg.MakeNoZero"], unfollowed := true, recurses := true, named := ["internal/bytealg.MaxLen"], apart := false }
def TableHoldsSaid : Prop := tableHoldsRow.holds Tryz.pinned (OpenSpec.ofChange tableHoldsSpec)

/-- ITS FALSE NEIGHBOUR: 'it returns false'. Refute it at one input. -/
def tableHoldsWrong : ChangeSpec := { name := "tableHolds", fn := fun _ => fun
  | [d1, d2, d3, d4] => { results := [.lit (.bool false)], args := [d1, d2, d3, d4] }
  | _ => none }
def TableHoldsWrongFalsely : Prop := tableHoldsRow.holds Tryz.pinned (OpenSpec.ofChange tableHoldsWrong)

/-- 'tetherlaw07.TableRots': WHATEVER THE INPUT: true; the input reads as it did. -/
def tableRotsSpec : ChangeSpec := { name := "tableRots", fn := fun _ => fun
  | [d1, d2] => { results := [.lit (.bool true)], args := [d1, d2] }
  | _ => none }
def tableRotsRow : OpenClaim := { program := "ytjdmbkkdnonkkaagreat", sum := "af03ec62077bc45bec776eaa0b18cfd1d71fd72eda62aeefaf78194f1cfd40ca", func := "tether/tetherlaw07.TableRots", spec := "tableRots", inPlace := ["internal/bytealg.CountString", "internal/bytealg.IndexByteString", "internal/bytealg.IndexString", "internal/abi.NoEscape", "internal/bytealg.MakeNoZero"], unfollowed := true, recurses := true, named := ["internal/bytealg.MaxLen"], apart := false }
def TableRotsSaid : Prop := tableRotsRow.holds Tryz.pinned (OpenSpec.ofChange tableRotsSpec)

/-- ITS FALSE NEIGHBOUR: 'it returns false'. Refute it at one input. -/
def tableRotsWrong : ChangeSpec := { name := "tableRots", fn := fun _ => fun
  | [d1, d2] => { results := [.lit (.bool false)], args := [d1, d2] }
  | _ => none }
def TableRotsWrongFalsely : Prop := tableRotsRow.holds Tryz.pinned (OpenSpec.ofChange tableRotsWrong)

/-- 'tetherlaw07.TableNil': WHATEVER THE INPUT: true; the input reads as it did. -/
def tableNilSpec : ChangeSpec := { name := "tableNil", fn := fun _ => fun
  | [d] => { results := [.lit (.bool true)], args := [d] }
  | _ => none }
def tableNilRow : OpenClaim := { program := "ytjdmbkkdnonkkaagreat", sum := "af03ec62077bc45bec776eaa0b18cfd1d71fd72eda62aeefaf78194f1cfd40ca", func := "tether/tetherlaw07.TableNil", spec := "tableNil", inPlace := ["internal/bytealg.CountString", "internal/bytealg.IndexByteString", "internal/bytealg.IndexString", "internal/abi.NoEscape", "internal/bytealg.MakeNoZero"], unfollowed := true, recurses := true, named := ["internal/bytealg.MaxLen"], apart := false }
def TableNilSaid : Prop := tableNilRow.holds Tryz.pinned (OpenSpec.ofChange tableNilSpec)

/-- ITS FALSE NEIGHBOUR: 'it returns false'. Refute it at one input. -/
def tableNilWrong : ChangeSpec := { name := "tableNil", fn := fun _ => fun
  | [d] => { results := [.lit (.bool false)], args := [d] }
  | _ => none }
def TableNilWrongFalsely : Prop := tableNilRow.holds Tryz.pinned (OpenSpec.ofChange tableNilWrong)

/-- 'tetherlaw07.TableLeft': WHATEVER THE INPUT: true; the input reads as it did. -/
def tableLeftSpec : ChangeSpec := { name := "tableLeft", fn := fun _ => fun
  | [d1, d2, d3] => { results := [.lit (.bool true)], args := [d1, d2, d3] }
  | _ => none }
def tableLeftRow : OpenClaim := { program := "ytjdmbkkdnonkkaagreat", sum := "af03ec62077bc45bec776eaa0b18cfd1d71fd72eda62aeefaf78194f1cfd40ca", func := "tether/tetherlaw07.TableLeft", spec := "tableLeft", inPlace := ["internal/bytealg.CountString", "internal/bytealg.IndexByteString", "internal/bytealg.IndexString", "internal/abi.NoEscape", "internal/bytealg.MakeNoZero"], unfollowed := true, recurses := true, named := ["internal/bytealg.MaxLen"], apart := false }
def TableLeftSaid : Prop := tableLeftRow.holds Tryz.pinned (OpenSpec.ofChange tableLeftSpec)

/-- ITS FALSE NEIGHBOUR: 'it returns false'. Refute it at one input. -/
def tableLeftWrong : ChangeSpec := { name := "tableLeft", fn := fun _ => fun
  | [d1, d2, d3] => { results := [.lit (.bool false)], args := [d1, d2, d3] }
  | _ => none }
def TableLeftWrongFalsely : Prop := tableLeftRow.holds Tryz.pinned (OpenSpec.ofChange tableLeftWrong)

/- THE SECOND FORM. 'bulk': how many values and letters a reading holds, each counted each time it is reached (what is shared counts as often as it is met; a slice's spare places count too). A statement '..UptoSaid' is the law's where the arguments, and the package variables that the reading takes, are together of bulk at most 1048576: NARROWER than '..Said'. Prove '..Said' where nothing that the law and all that it calls make is longer than what came in: it says more and counts as full. Else prove '..UptoSaid'. A law counts once. -/
mutual
def uptoBulk {H : Type} : DataW H → Nat
  | .lit (.string bytes) => bytes.length + 1
  | .lit _ => 1
  | .nil => 1
  | .ptr d => uptoBulk d + 1
  | .slice elems spare => uptoBulkAll elems + uptoBulkAll spare + 1
  | .agg parts => uptoBulkAll parts + 1
  | .iface _ d => uptoBulk d + 1
  | .map entries => uptoBulkEntries entries + 1
  | .held _ => 1
def uptoBulkAll {H : Type} : List (DataW H) → Nat
  | [] => 0
  | d :: r => uptoBulk d + uptoBulkAll r
def uptoBulkEntries {H : Type} : List (Lit × DataW H) → Nat
  | [] => 0
  | x :: r => uptoBulkEntry x + uptoBulkEntries r
def uptoBulkEntry {H : Type} : Lit × DataW H → Nat
  | (.string bytes, d) => bytes.length + uptoBulk d + 1
  | (_, d) => uptoBulk d + 1
 end
def uptoSmall : (H : Type) → List (DataW H) → Bool := fun _ ds => decide (uptoBulkAll ds ≤ 1048576)
def OpenSpec.upto (s : _root_.Go.ChangeSpec) : _root_.Go.OpenSpec := { _root_.Go.OpenSpec.ofChange s with cond := some uptoSmall }

/-- 'tetherlaw06.WalPlays', WHERE WHAT IT READS IS OF BULK AT MOST 1048576: true; the input reads as it did. -/
def walPlaysUptoRow : OpenClaim := { program := "ytjdmbkkdnonkkaagreat", sum := "af03ec62077bc45bec776eaa0b18cfd1d71fd72eda62aeefaf78194f1cfd40ca", func := "tether/tetherlaw06.WalPlays", spec := "walPlays", inPlace := ["internal/bytealg.CountString", "internal/bytealg.IndexByteString", "internal/bytealg.IndexString", "internal/abi.NoEscape", "internal/bytealg.MakeNoZero"], unfollowed := true, recurses := true, named := ["internal/bytealg.MaxLen"], apart := false, narrowed := true }
def WalPlaysUptoSaid : Prop := walPlaysUptoRow.holds Tryz.pinned (OpenSpec.upto walPlaysSpec)

/-- 'tetherlaw06.WalHolds', WHERE WHAT IT READS IS OF BULK AT MOST 1048576: true; the input reads as it did. -/
def walHoldsUptoRow : OpenClaim := { program := "ytjdmbkkdnonkkaagreat", sum := "af03ec62077bc45bec776eaa0b18cfd1d71fd72eda62aeefaf78194f1cfd40ca", func := "tether/tetherlaw06.WalHolds", spec := "walHolds", inPlace := ["internal/bytealg.CountString", "internal/bytealg.IndexByteString", "internal/bytealg.IndexString", "internal/abi.NoEscape", "internal/bytealg.MakeNoZero"], unfollowed := true, recurses := true, named := ["internal/bytealg.MaxLen"], apart := false, narrowed := true }
def WalHoldsUptoSaid : Prop := walHoldsUptoRow.holds Tryz.pinned (OpenSpec.upto walHoldsSpec)

/-- 'tetherlaw06.WalResets', WHERE WHAT IT READS IS OF BULK AT MOST 1048576: true; the input reads as it did. -/
def walResetsUptoRow : OpenClaim := { program := "ytjdmbkkdnonkkaagreat", sum := "af03ec62077bc45bec776eaa0b18cfd1d71fd72eda62aeefaf78194f1cfd40ca", func := "tether/tetherlaw06.WalResets", spec := "walResets", inPlace := ["internal/bytealg.CountString", "internal/bytealg.IndexByteString", "internal/bytealg.IndexString", "internal/abi.NoEscape", "internal/bytealg.MakeNoZero"], unfollowed := true, recurses := true, named := ["internal/bytealg.MaxLen"], apart := false, narrowed := true }
def WalResetsUptoSaid : Prop := walResetsUptoRow.holds Tryz.pinned (OpenSpec.upto walResetsSpec)

/-- 'tetherlaw07.TableRecords', WHERE WHAT IT READS IS OF BULK AT MOST 1048576: true; the input reads as it did. -/
def tableRecordsUptoRow : OpenClaim := { program := "ytjdmbkkdnonkkaagreat", sum := "af03ec62077bc45bec776eaa0b18cfd1d71fd72eda62aeefaf78194f1cfd40ca", func := "tether/tetherlaw07.TableRecords", spec := "tableRecords", inPlace := ["internal/abi.NoEscape", "internal/bytealg.MakeNoZero", "internal/bytealg.CountString", "internal/bytealg.IndexByteString", "internal/bytealg.IndexString"], unfollowed := true, recurses := true, named := ["internal/bytealg.MaxLen"], apart := false, narrowed := true }
def TableRecordsUptoSaid : Prop := tableRecordsUptoRow.holds Tryz.pinned (OpenSpec.upto tableRecordsSpec)

/-- 'tetherlaw07.TableBack', WHERE WHAT IT READS IS OF BULK AT MOST 1048576: true; the input reads as it did. -/
def tableBackUptoRow : OpenClaim := { program := "ytjdmbkkdnonkkaagreat", sum := "af03ec62077bc45bec776eaa0b18cfd1d71fd72eda62aeefaf78194f1cfd40ca", func := "tether/tetherlaw07.TableBack", spec := "tableBack", inPlace := ["internal/abi.NoEscape", "internal/bytealg.MakeNoZero", "internal/bytealg.CountString", "internal/bytealg.IndexByteString", "internal/bytealg.IndexString"], unfollowed := true, recurses := true, named := ["internal/bytealg.MaxLen"], apart := false, narrowed := true }
def TableBackUptoSaid : Prop := tableBackUptoRow.holds Tryz.pinned (OpenSpec.upto tableBackSpec)

/-- 'tetherlaw07.TablePlays', WHERE WHAT IT READS IS OF BULK AT MOST 1048576: true; the input reads as it did. -/
def tablePlaysUptoRow : OpenClaim := { program := "ytjdmbkkdnonkkaagreat", sum := "af03ec62077bc45bec776eaa0b18cfd1d71fd72eda62aeefaf78194f1cfd40ca", func := "tether/tetherlaw07.TablePlays", spec := "tablePlays", inPlace := ["internal/bytealg.CountString", "internal/bytealg.IndexByteString", "internal/bytealg.IndexString", "internal/abi.NoEscape", "internal/bytealg.MakeNoZero"], unfollowed := true, recurses := true, named := ["internal/bytealg.MaxLen"], apart := false, narrowed := true }
def TablePlaysUptoSaid : Prop := tablePlaysUptoRow.holds Tryz.pinned (OpenSpec.upto tablePlaysSpec)

/-- 'tetherlaw07.TableHolds', WHERE WHAT IT READS IS OF BULK AT MOST 1048576: true; the input reads as it did. -/
def tableHoldsUptoRow : OpenClaim := { program := "ytjdmbkkdnonkkaagreat", sum := "af03ec62077bc45bec776eaa0b18cfd1d71fd72eda62aeefaf78194f1cfd40ca", func := "tether/tetherlaw07.TableHolds", spec := "tableHolds", inPlace := ["internal/bytealg.CountString", "internal/bytealg.IndexByteString", "internal/bytealg.IndexString", "internal/abi.NoEscape", "internal/bytealg.MakeNoZero"], unfollowed := true, recurses := true, named := ["internal/bytealg.MaxLen"], apart := false, narrowed := true }
def TableHoldsUptoSaid : Prop := tableHoldsUptoRow.holds Tryz.pinned (OpenSpec.upto tableHoldsSpec)

/-- 'tetherlaw07.TableRots', WHERE WHAT IT READS IS OF BULK AT MOST 1048576: true; the input reads as it did. -/
def tableRotsUptoRow : OpenClaim := { program := "ytjdmbkkdnonkkaagreat", sum := "af03ec62077bc45bec776eaa0b18cfd1d71fd72eda62aeefaf78194f1cfd40ca", func := "tether/tetherlaw07.TableRots", spec := "tableRots", inPlace := ["internal/bytealg.CountString", "internal/bytealg.IndexByteString", "internal/bytealg.IndexString", "internal/abi.NoEscape", "internal/bytealg.MakeNoZero"], unfollowed := true, recurses := true, named := ["internal/bytealg.MaxLen"], apart := false, narrowed := true }
def TableRotsUptoSaid : Prop := tableRotsUptoRow.holds Tryz.pinned (OpenSpec.upto tableRotsSpec)

/-- 'tetherlaw07.TableNil', WHERE WHAT IT READS IS OF BULK AT MOST 1048576: true; the input reads as it did. -/
def tableNilUptoRow : OpenClaim := { program := "ytjdmbkkdnonkkaagreat", sum := "af03ec62077bc45bec776eaa0b18cfd1d71fd72eda62aeefaf78194f1cfd40ca", func := "tether/tetherlaw07.TableNil", spec := "tableNil", inPlace := ["internal/bytealg.CountString", "internal/bytealg.IndexByteString", "internal/bytealg.IndexString", "internal/abi.NoEscape", "internal/bytealg.MakeNoZero"], unfollowed := true, recurses := true, named := ["internal/bytealg.MaxLen"], apart := false, narrowed := true }
def TableNilUptoSaid : Prop := tableNilUptoRow.holds Tryz.pinned (OpenSpec.upto tableNilSpec)

/-- 'tetherlaw07.TableLeft', WHERE WHAT IT READS IS OF BULK AT MOST 1048576: true; the input reads as it did. -/
def tableLeftUptoRow : OpenClaim := { program := "ytjdmbkkdnonkkaagreat", sum := "af03ec62077bc45bec776eaa0b18cfd1d71fd72eda62aeefaf78194f1cfd40ca", func := "tether/tetherlaw07.TableLeft", spec := "tableLeft", inPlace := ["internal/bytealg.CountString", "internal/bytealg.IndexByteString", "internal/bytealg.IndexString", "internal/abi.NoEscape", "internal/bytealg.MakeNoZero"], unfollowed := true, recurses := true, named := ["internal/bytealg.MaxLen"], apart := false, narrowed := true }
def TableLeftUptoSaid : Prop := tableLeftUptoRow.holds Tryz.pinned (OpenSpec.upto tableLeftSpec)

end Rows
end Go.Proofs.YtjdmbkkdnonkkaaGreat
