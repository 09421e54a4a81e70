/- What package frame answers: its contracts, gathered. -/
import Derived.Test.YtihbibhmkpefgaaFSame
import Derived.Test.YtihbibhmkpefgaaFSc
import Derived.Test.YtihbibhmkpefgaaFTn
namespace Go.Proofs.Ytihbibhmkpefgaa.Fr
open Go.RowKit Wm Wr Fm

theorem fSum_any (s : ByteArray) (w : World) (hs : s.size ≤ maxLen) :
    Calls Try.prog 9 #[.string s] w fun e w' => e = .returned (.int .u32 (fsum s.data.toList : Nat)) ∧ Below w.heap.size w w' :=
  (fSum_same s w hs).mono fun e w' ⟨h1, h2⟩ => ⟨h1, by subst h2; exact Below.refl _ _⟩

end Go.Proofs.Ytihbibhmkpefgaa.Fr
