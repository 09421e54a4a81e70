/-
  ScanChanges, of the landed code: what has changed of a tree are just the paths at which it is another one, rising, the same either way round, and none where the two are the same. Condition: the bound of the second form (the two trees and the path hold at most 1048576 values and letters).
-/
import Derived.Test.YtdpnmdnfnplcfaaT3
namespace Go.Proofs.Ytdpnmdnfnplcfaa
theorem scanChangesUpto_holds : Rows.ScanChangesUptoSaid := scanChanges.over Sc.oi_mini Sc.changed_any
#print axioms scanChangesUpto_holds
end Go.Proofs.Ytdpnmdnfnplcfaa
