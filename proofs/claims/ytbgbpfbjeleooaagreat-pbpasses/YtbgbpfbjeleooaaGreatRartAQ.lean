/- A part. -/
import Derived.Test.YtbgbpfbjeleooaaGreatRartAC
import Derived.Test.YtbgbpfbjeleooaaGreatRartAH
import Derived.Deep.Slices
import Derived.Test.YtbgbpfbjeleooaaGreatRartAP
import Derived.ChangeMaps5
set_option maxRecDepth 100000
namespace Go.Proofs.YtbgbpfbjeleooaaGreat.Pd
open Go.ChangeShapes Go.WideShapes Go.ChangeAt Go.RowKit
theorem jk0 {z : Int} (h : (Lit.int .u64 z).wf = true) : 0 ≤ z ∧ z < 18446744073709551616 := by
 have e : IntKind.u64.min = 0 := by decide
 have e' : IntKind.u64.max = 18446744073709551615 := by decide
 simp [Lit.wf, e, e'] at h
 omega
theorem size_of {s : ByteArray} (h : s.data.toList.length ≤ reachBytes) : s.size ≤ 140737488351232 := by
 have e : s.data.toList.length = s.size := Array.length_toList
 unfold reachBytes at h
 omega
theorem jkg : Tryz.prog.cellsOf 49 = 4 := by kernel_rfl
theorem jkh : Tryz.prog.cellsOf 47 = 1 := by kernel_rfl
theorem ji3 : Tryz.prog.cellsOf 9 = 1 := by kernel_rfl
theorem ji4 : Tryz.prog.cellsOf 3 = 1 := by kernel_rfl
theorem fld_inw {H : Type} {enc : TypeId × Value → H} {W : World} {n : Nat} {cs : List Value} {x : DataW H × List MemPlace}
    (hf : DataW.trod enc Tryz.prog W 0 (fun _ => true) true n 49 cs = some x) (hw : ∀ m ∈ x.1.weights Tryz.prog 49, m ≤ reachBytes) : ∃ y, cs = Wr.fcells y ∧ Wr.FldIn y := by
     obtain ⟨xs, n', -, hx, hl, hlen, hfs⟩ := DataW.trod_struct Tryz.underlying49 hf
     rw [jkg] at hl
     match cs, hl with
     | [c0, c1, c2, c3], _ =>
      match xs, hlen with
      | [y0, y1, y2, y3], _ =>
       have h0 := hfs 0 _ rfl
       have h1 := hfs 1 _ rfl
       have h2 := hfs 2 _ rfl
       have h3 := hfs 3 _ rfl
       simp [ji4] at h0 h1
       simp [jkh] at h2
       simp [ji3] at h3
       obtain ⟨a, e0, -, w0⟩ := DataW.trod_int Tryz.underlying3 h0
       obtain ⟨b, e1, -, w1⟩ := DataW.trod_int Tryz.underlying3 h1
       obtain ⟨c, e2, -, w2⟩ := DataW.trod_int Tryz.underlying47 h2
       obtain ⟨s, e3, e3', w3⟩ := DataW.trod_string Tryz.underlying9 h3
       simp at e0 e1 e2 e3
       subst e0 e1 e2 e3
       have hsw : s.data.toList.length ≤ reachBytes := by
        refine hw _ ?_
        rw [hx]
        have hm := DataW.weights_mem_each (P := Tryz.prog) (ts := [3, 3, 47, 9]) (ds := [y0.1, y1.1, y2.1, y3.1]) (j := 3) (t := 9) (d := y3.1) rfl rfl s.data.toList.length (by rw [e3']; simp [DataW.weights])
        simpa [DataW.weights, Tryz.underlying49] using hm
       exact ⟨⟨a, b, c, s⟩, rfl, (jd4 w0).1, (jd4 w0).2, (jd4 w1).1, (jd4 w1).2, (jk0 w2).1, (jk0 w2).2, size_of hsw⟩
end Go.Proofs.YtbgbpfbjeleooaaGreat.Pd
