/- A part. -/
import Derived.Test.YtbgbpfbjeleooaaGreatQartAC
import Derived.Test.YtbgbpfbjeleooaaGreatQartAH
import Derived.Deep.Slices
import Derived.Test.YtbgbpfbjeleooaaGreatQartAO
import Derived.ChangeMaps5
namespace Go.Proofs.YtbgbpfbjeleooaaGreat.Pd
open Go.ChangeShapes Go.WideShapes Go.ChangeAt Go.RowKit
theorem size_of {s : ByteArray} (h : s.data.toList.length ≤ reachBytes) : s.size ≤ 140737488351232 := by
 have e : s.data.toList.length = s.size := Array.length_toList
 unfold reachBytes at h
 omega
end Go.Proofs.YtbgbpfbjeleooaaGreat.Pd
