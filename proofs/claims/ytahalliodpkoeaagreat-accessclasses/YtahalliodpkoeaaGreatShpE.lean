/- The walks of the document's number and SameMethod (arbiterref05); what was there before stays. -/
import Derived.Test.YtahalliodpkoeaaGreatCodeL
import Derived.Test.YtahalliodpkoeaaGreatRefLists
import Derived.Test.YtahalliodpkoeaaGreatShpD
namespace Go.Proofs.YtahalliodpkoeaaGreat
open Go.RowKit







end Go.Proofs.YtahalliodpkoeaaGreat
