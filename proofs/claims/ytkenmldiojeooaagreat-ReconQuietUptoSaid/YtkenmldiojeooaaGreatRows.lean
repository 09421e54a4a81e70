/-
  No cell of these rows narrows 'for every input' (looked for: loops, veiled, ifaces, maps, wideKeys, modest, calm, conditions, laid).
  DERIVED. THE GIVEN ROWS OF THIS SEAT. 6 by the template 'for every input the law returns true; each argument reads behind the call as it read before'; 0 by the template 'total and deterministic' (their statements: YtkenmldiojeooaaGreatTotals.lean).
  GIVEN WITH THE SEED: the statements are not yours to turn. If you find one false, say at which input.
  Laid BY PROGRAM, IN A SANDBOX (cutbox-rows.mjs): the forced cells as the released guide's own fill.sh prints them over the translation 04bd5232522a22c5… (all of the seat's roots in one cut). By AI agents, Wed Nov 11 2026. No macro, syntax, notation, axiom, sorry.
-/
import Derived.Test.YtkenmldiojeooaaGreatChecked
import GoSem.Claim
import GoSem.ClaimJoined
import GoSem.ClaimMapViews
import Derived.JoinedTies
import Derived.KernelRfl
namespace Go.Proofs.YtkenmldiojeooaaGreat
/- THE CELL 'sum', in the pinned program and in every row, IS THE sha256 OF THE DUMP (.gsa) THAT YtkenmldiojeooaaGreatProg.lean LOADS. Nothing in Lean hashes anything: it is a label: what it is worth is what the hold of that sum in a sandbox is worth. -/
noncomputable def Tryz.pinned : Pinned := { name := "ytkenmldiojeooaagreat", sum := "04bd5232522a22c5913f0d03de0f1ba49f118b48d54ba38a8b97050eac2101cb", checked := Tryz.checked }
namespace Rows
def none {H : Type} : Left H := { results := [], args := [] }

/-- 'tetherlaw17.ReconItems': WHATEVER THE INPUT: true; the input reads as it did. -/
def reconItemsSpec : ChangeSpec := { name := "reconItems", fn := fun _ => fun
  | [d1, d2, d3] => { results := [.lit (.bool true)], args := [d1, d2, d3] }
  | _ => none }
def reconItemsRow : OpenClaim := { program := "ytkenmldiojeooaagreat", sum := "04bd5232522a22c5913f0d03de0f1ba49f118b48d54ba38a8b97050eac2101cb", func := "tether/tetherlaw17.ReconItems", spec := "reconItems", inPlace := ["internal/bytealg.IndexByteString", "internal/bytealg.IndexString", "internal/bytealg.CountString", "internal/abi.NoEscape", "internal/bytealg.MakeNoZero"], unfollowed := true, recurses := true, named := ["internal/bytealg.MaxLen"], apart := false }
def ReconItemsSaid : Prop := reconItemsRow.holds Tryz.pinned (OpenSpec.ofChange reconItemsSpec)

/-- ITS FALSE NEIGHBOUR: 'it returns false'. Refute it at one input. -/
def reconItemsWrong : ChangeSpec := { name := "reconItems", fn := fun _ => fun
  | [d1, d2, d3] => { results := [.lit (.bool false)], args := [d1, d2, d3] }
  | _ => none }
def ReconItemsWrongFalsely : Prop := reconItemsRow.holds Tryz.pinned (OpenSpec.ofChange reconItemsWrong)

/-- 'tetherlaw17.ReconMerges': WHATEVER THE INPUT: true; the input reads as it did. -/
def reconMergesSpec : ChangeSpec := { name := "reconMerges", fn := fun _ => fun
  | [d1, d2, d3] => { results := [.lit (.bool true)], args := [d1, d2, d3] }
  | _ => none }
def reconMergesRow : OpenClaim := { program := "ytkenmldiojeooaagreat", sum := "04bd5232522a22c5913f0d03de0f1ba49f118b48d54ba38a8b97050eac2101cb", func := "tether/tetherlaw17.ReconMerges", spec := "reconMerges", inPlace := ["internal/bytealg.IndexByteString", "internal/bytealg.IndexString", "internal/bytealg.CountString", "internal/abi.NoEscape", "internal/bytealg.MakeNoZero"], unfollowed := true, recurses := true, named := ["internal/bytealg.MaxLen"], apart := false }
def ReconMergesSaid : Prop := reconMergesRow.holds Tryz.pinned (OpenSpec.ofChange reconMergesSpec)

/-- ITS FALSE NEIGHBOUR: 'it returns false'. Refute it at one input. -/
def reconMergesWrong : ChangeSpec := { name := "reconMerges", fn := fun _ => fun
  | [d1, d2, d3] => { results := [.lit (.bool false)], args := [d1, d2, d3] }
  | _ => none }
def ReconMergesWrongFalsely : Prop := reconMergesRow.holds Tryz.pinned (OpenSpec.ofChange reconMergesWrong)

/-- 'tetherlaw17.ReconQuiet': WHATEVER THE INPUT: true; the input reads as it did. -/
def reconQuietSpec : ChangeSpec := { name := "reconQuiet", fn := fun _ => fun
  | [d1, d2] => { results := [.lit (.bool true)], args := [d1, d2] }
  | _ => none }
def reconQuietRow : OpenClaim := { program := "ytkenmldiojeooaagreat", sum := "04bd5232522a22c5913f0d03de0f1ba49f118b48d54ba38a8b97050eac2101cb", func := "tether/tetherlaw17.ReconQuiet", spec := "reconQuiet", inPlace := ["internal/bytealg.IndexByteString", "internal/bytealg.IndexString", "internal/bytealg.CountString", "internal/abi.NoEscape", "internal/bytealg.MakeNoZero"], unfollowed := true, recurses := true, named := ["internal/bytealg.MaxLen"], apart := false }
def ReconQuietSaid : Prop := reconQuietRow.holds Tryz.pinned (OpenSpec.ofChange reconQuietSpec)

/-- ITS FALSE NEIGHBOUR: 'it returns false'. Refute it at one input. -/
def reconQuietWrong : ChangeSpec := { name := "reconQuiet", fn := fun _ => fun
  | [d1, d2] => { results := [.lit (.bool false)], args := [d1, d2] }
  | _ => none }
def ReconQuietWrongFalsely : Prop := reconQuietRow.holds Tryz.pinned (OpenSpec.ofChange reconQuietWrong)

/-- 'tetherlaw17.ReconTurns': WHATEVER THE INPUT: true; the input reads as it did. -/
def reconTurnsSpec : ChangeSpec := { name := "reconTurns", fn := fun _ => fun
  | [d1, d2, d3] => { results := [.lit (.bool true)], args := [d1, d2, d3] }
  | _ => none }
def reconTurnsRow : OpenClaim := { program := "ytkenmldiojeooaagreat", sum := "04bd5232522a22c5913f0d03de0f1ba49f118b48d54ba38a8b97050eac2101cb", func := "tether/tetherlaw17.ReconTurns", spec := "reconTurns", inPlace := ["internal/bytealg.IndexByteString", "internal/bytealg.IndexString", "internal/bytealg.CountString", "internal/abi.NoEscape", "internal/bytealg.MakeNoZero"], unfollowed := true, recurses := true, named := ["internal/bytealg.MaxLen"], apart := false }
def ReconTurnsSaid : Prop := reconTurnsRow.holds Tryz.pinned (OpenSpec.ofChange reconTurnsSpec)

/-- ITS FALSE NEIGHBOUR: 'it returns false'. Refute it at one input. -/
def reconTurnsWrong : ChangeSpec := { name := "reconTurns", fn := fun _ => fun
  | [d1, d2, d3] => { results := [.lit (.bool false)], args := [d1, d2, d3] }
  | _ => none }
def ReconTurnsWrongFalsely : Prop := reconTurnsRow.holds Tryz.pinned (OpenSpec.ofChange reconTurnsWrong)

/-- 'tetherlaw17.ReconSettles': WHATEVER THE INPUT: true; the input reads as it did. -/
def reconSettlesSpec : ChangeSpec := { name := "reconSettles", fn := fun _ => fun
  | [d1, d2, d3, d4] => { results := [.lit (.bool true)], args := [d1, d2, d3, d4] }
  | _ => none }
def reconSettlesRow : OpenClaim := { program := "ytkenmldiojeooaagreat", sum := "04bd5232522a22c5913f0d03de0f1ba49f118b48d54ba38a8b97050eac2101cb", func := "tether/tetherlaw17.ReconSettles", spec := "reconSettles", inPlace := ["internal/bytealg.IndexByteString", "internal/bytealg.IndexString", "internal/bytealg.CountString", "internal/abi.NoEscape", "internal/bytealg.MakeNoZero"], unfollowed := true, recurses := true, named := ["internal/bytealg.MaxLen"], apart := false }
def ReconSettlesSaid : Prop := reconSettlesRow.holds Tryz.pinned (OpenSpec.ofChange reconSettlesSpec)

/-- ITS FALSE NEIGHBOUR: 'it returns false'. Refute it at one input. -/
def reconSettlesWrong : ChangeSpec := { name := "reconSettles", fn := fun _ => fun
  | [d1, d2, d3, d4] => { results := [.lit (.bool false)], args := [d1, d2, d3, d4] }
  | _ => none }
def ReconSettlesWrongFalsely : Prop := reconSettlesRow.holds Tryz.pinned (OpenSpec.ofChange reconSettlesWrong)

/-- 'tetherlaw17.ReconLocal': WHATEVER THE INPUT: true; the input reads as it did. -/
def reconLocalSpec : ChangeSpec := { name := "reconLocal", fn := fun _ => fun
  | [d1, d2, d3, d4] => { results := [.lit (.bool true)], args := [d1, d2, d3, d4] }
  | _ => none }
def reconLocalRow : OpenClaim := { program := "ytkenmldiojeooaagreat", sum := "04bd5232522a22c5913f0d03de0f1ba49f118b48d54ba38a8b97050eac2101cb", func := "tether/tetherlaw17.ReconLocal", spec := "reconLocal", inPlace := ["internal/bytealg.IndexByteString", "internal/bytealg.IndexString", "internal/bytealg.CountString", "internal/abi.NoEscape", "internal/bytealg.MakeNoZero"], unfollowed := true, recurses := true, named := ["internal/bytealg.MaxLen"], apart := false }
def ReconLocalSaid : Prop := reconLocalRow.holds Tryz.pinned (OpenSpec.ofChange reconLocalSpec)

/-- ITS FALSE NEIGHBOUR: 'it returns false'. Refute it at one input. -/
def reconLocalWrong : ChangeSpec := { name := "reconLocal", fn := fun _ => fun
  | [d1, d2, d3, d4] => { results := [.lit (.bool false)], args := [d1, d2, d3, d4] }
  | _ => none }
def ReconLocalWrongFalsely : Prop := reconLocalRow.holds Tryz.pinned (OpenSpec.ofChange reconLocalWrong)

/- THE SECOND FORM. 'bulk': how many values and letters a reading holds, each counted each time it is reached (what is shared counts as often as it is met; a slice's spare places count too). A statement '..UptoSaid' is the law's where the arguments, and the package variables that the reading takes, are together of bulk at most 1048576: NARROWER than '..Said'. Prove '..Said' where nothing that the law and all that it calls make is longer than what came in: it says more and counts as full. Else prove '..UptoSaid'. A law counts once. -/
mutual
def uptoBulk {H : Type} : DataW H → Nat
  | .lit (.string bytes) => bytes.length + 1
  | .lit _ => 1
  | .nil => 1
  | .ptr d => uptoBulk d + 1
  | .slice elems spare => uptoBulkAll elems + uptoBulkAll spare + 1
  | .agg parts => uptoBulkAll parts + 1
  | .iface _ d => uptoBulk d + 1
  | .map entries => uptoBulkEntries entries + 1
  | .held _ => 1
def uptoBulkAll {H : Type} : List (DataW H) → Nat
  | [] => 0
  | d :: r => uptoBulk d + uptoBulkAll r
def uptoBulkEntries {H : Type} : List (Lit × DataW H) → Nat
  | [] => 0
  | x :: r => uptoBulkEntry x + uptoBulkEntries r
def uptoBulkEntry {H : Type} : Lit × DataW H → Nat
  | (.string bytes, d) => bytes.length + uptoBulk d + 1
  | (_, d) => uptoBulk d + 1
 end
def uptoSmall : (H : Type) → List (DataW H) → Bool := fun _ ds => decide (uptoBulkAll ds ≤ 1048576)
def OpenSpec.upto (s : _root_.Go.ChangeSpec) : _root_.Go.OpenSpec := { _root_.Go.OpenSpec.ofChange s with cond := some uptoSmall }

/-- 'tetherlaw17.ReconItems', WHERE WHAT IT READS IS OF BULK AT MOST 1048576: true; the input reads as it did. -/
def reconItemsUptoRow : OpenClaim := { program := "ytkenmldiojeooaagreat", sum := "04bd5232522a22c5913f0d03de0f1ba49f118b48d54ba38a8b97050eac2101cb", func := "tether/tetherlaw17.ReconItems", spec := "reconItems", inPlace := ["internal/bytealg.IndexByteString", "internal/bytealg.IndexString", "internal/bytealg.CountString", "internal/abi.NoEscape", "internal/bytealg.MakeNoZero"], unfollowed := true, recurses := true, named := ["internal/bytealg.MaxLen"], apart := false, narrowed := true }
def ReconItemsUptoSaid : Prop := reconItemsUptoRow.holds Tryz.pinned (OpenSpec.upto reconItemsSpec)

/-- 'tetherlaw17.ReconMerges', WHERE WHAT IT READS IS OF BULK AT MOST 1048576: true; the input reads as it did. -/
def reconMergesUptoRow : OpenClaim := { program := "ytkenmldiojeooaagreat", sum := "04bd5232522a22c5913f0d03de0f1ba49f118b48d54ba38a8b97050eac2101cb", func := "tether/tetherlaw17.ReconMerges", spec := "reconMerges", inPlace := ["internal/bytealg.IndexByteString", "internal/bytealg.IndexString", "internal/bytealg.CountString", "internal/abi.NoEscape", "internal/bytealg.MakeNoZero"], unfollowed := true, recurses := true, named := ["internal/bytealg.MaxLen"], apart := false, narrowed := true }
def ReconMergesUptoSaid : Prop := reconMergesUptoRow.holds Tryz.pinned (OpenSpec.upto reconMergesSpec)

/-- 'tetherlaw17.ReconQuiet', WHERE WHAT IT READS IS OF BULK AT MOST 1048576: true; the input reads as it did. -/
def reconQuietUptoRow : OpenClaim := { program := "ytkenmldiojeooaagreat", sum := "04bd5232522a22c5913f0d03de0f1ba49f118b48d54ba38a8b97050eac2101cb", func := "tether/tetherlaw17.ReconQuiet", spec := "reconQuiet", inPlace := ["internal/bytealg.IndexByteString", "internal/bytealg.IndexString", "internal/bytealg.CountString", "internal/abi.NoEscape", "internal/bytealg.MakeNoZero"], unfollowed := true, recurses := true, named := ["internal/bytealg.MaxLen"], apart := false, narrowed := true }
def ReconQuietUptoSaid : Prop := reconQuietUptoRow.holds Tryz.pinned (OpenSpec.upto reconQuietSpec)

/-- 'tetherlaw17.ReconTurns', WHERE WHAT IT READS IS OF BULK AT MOST 1048576: true; the input reads as it did. -/
def reconTurnsUptoRow : OpenClaim := { program := "ytkenmldiojeooaagreat", sum := "04bd5232522a22c5913f0d03de0f1ba49f118b48d54ba38a8b97050eac2101cb", func := "tether/tetherlaw17.ReconTurns", spec := "reconTurns", inPlace := ["internal/bytealg.IndexByteString", "internal/bytealg.IndexString", "internal/bytealg.CountString", "internal/abi.NoEscape", "internal/bytealg.MakeNoZero"], unfollowed := true, recurses := true, named := ["internal/bytealg.MaxLen"], apart := false, narrowed := true }
def ReconTurnsUptoSaid : Prop := reconTurnsUptoRow.holds Tryz.pinned (OpenSpec.upto reconTurnsSpec)

/-- 'tetherlaw17.ReconSettles', WHERE WHAT IT READS IS OF BULK AT MOST 1048576: true; the input reads as it did. -/
def reconSettlesUptoRow : OpenClaim := { program := "ytkenmldiojeooaagreat", sum := "04bd5232522a22c5913f0d03de0f1ba49f118b48d54ba38a8b97050eac2101cb", func := "tether/tetherlaw17.ReconSettles", spec := "reconSettles", inPlace := ["internal/bytealg.IndexByteString", "internal/bytealg.IndexString", "internal/bytealg.CountString", "internal/abi.NoEscape", "internal/bytealg.MakeNoZero"], unfollowed := true, recurses := true, named := ["internal/bytealg.MaxLen"], apart := false, narrowed := true }
def ReconSettlesUptoSaid : Prop := reconSettlesUptoRow.holds Tryz.pinned (OpenSpec.upto reconSettlesSpec)

/-- 'tetherlaw17.ReconLocal', WHERE WHAT IT READS IS OF BULK AT MOST 1048576: true; the input reads as it did. -/
def reconLocalUptoRow : OpenClaim := { program := "ytkenmldiojeooaagreat", sum := "04bd5232522a22c5913f0d03de0f1ba49f118b48d54ba38a8b97050eac2101cb", func := "tether/tetherlaw17.ReconLocal", spec := "reconLocal", inPlace := ["internal/bytealg.IndexByteString", "internal/bytealg.IndexString", "internal/bytealg.CountString", "internal/abi.NoEscape", "internal/bytealg.MakeNoZero"], unfollowed := true, recurses := true, named := ["internal/bytealg.MaxLen"], apart := false, narrowed := true }
def ReconLocalUptoSaid : Prop := reconLocalUptoRow.holds Tryz.pinned (OpenSpec.upto reconLocalSpec)

end Rows
end Go.Proofs.YtkenmldiojeooaaGreat
