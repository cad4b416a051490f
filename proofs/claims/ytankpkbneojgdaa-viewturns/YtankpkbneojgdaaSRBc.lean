/- The document's Broadcast, by the walk. -/
import Derived.Test.YtankpkbneojgdaaSBc
namespace Go.Proofs.Ytankpkbneojgdaa
open Go.RowKit

end Go.Proofs.Ytankpkbneojgdaa
