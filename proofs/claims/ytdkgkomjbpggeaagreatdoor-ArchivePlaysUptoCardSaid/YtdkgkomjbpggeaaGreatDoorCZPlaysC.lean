/-
  ArchivePlays, up to the bound: over any script of saves, turned bits, forgets and commits (of at most 1048576 values and letters) every answer and all archives behind every step are the document's; when all are forgotten no content is left.
-/
import Derived.Test.YtdkgkomjbpggeaaGreatDoorU7
namespace Go.Proofs.YtdkgkomjbpggeaaGreatDoor
theorem archivePlaysUpto_holds : Rows.ArchivePlaysUptoCardSaid := archivePlays.card Az.impl (fun _ h => Bl.tab_laid h)
end Go.Proofs.YtdkgkomjbpggeaaGreatDoor
