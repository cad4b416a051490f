/- slices.Equal of two lists of ints, by the walk. -/
import Derived.Test.YtankpkbneojgdaaSSame
namespace Go.Proofs.Ytankpkbneojgdaa
open Go.RowKit

end Go.Proofs.Ytankpkbneojgdaa
