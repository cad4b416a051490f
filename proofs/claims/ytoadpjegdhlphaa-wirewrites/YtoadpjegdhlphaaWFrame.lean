/- Texts, numbers and fields that come in, opened. -/
import Derived.Test.YtoadpjegdhlphaaSFrame
import Derived.ChangeMaps5
namespace Go.Proofs.Ytoadpjegdhlphaa
open Go.ChangeShapes Go.WideShapes Go.ChangeAt Go.RowKit

theorem wf_u64 {z : Int} (h : (Lit.int .u64 z).wf = true) : 0 ≤ z ∧ z < 18446744073709551616 := by
  have e : IntKind.u64.min = 0 := by decide
  have e' : IntKind.u64.max = 18446744073709551615 := by decide
  simp [Lit.wf, e, e'] at h
  omega

theorem size_of {s : ByteArray} (h : s.data.toList.length ≤ reachBytes) : s.size ≤ 140737488351232 := by
  have e : s.data.toList.length = s.size := Array.length_toList
  unfold reachBytes at h
  omega
end Go.Proofs.Ytoadpjegdhlphaa
