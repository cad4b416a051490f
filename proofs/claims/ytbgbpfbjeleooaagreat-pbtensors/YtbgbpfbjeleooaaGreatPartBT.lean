/- A part. -/
import Derived.Test.YtbgbpfbjeleooaaGreatPartBR
import Derived.Test.YtbgbpfbjeleooaaGreatPartBS
set_option maxHeartbeats 6400000
set_option maxRecDepth 100000
namespace Go.Proofs.YtbgbpfbjeleooaaGreat.Pd
open Go.RowKit
theorem pbTensors_walk (ty : Int) (dv tv : Value) (ds ts : List Int) (w : World) (hd : jap w dv ds) (ht : jap w tv ts) :
    Calls Tryz.prog 5 #[.agg #[.int .i64 ty, dv, tv]] w fun e w' => e = .returned (.bool true) ∧ w.grownBy w' none := by
     have HD := jac hd
     have HT := jac ht
     obtain ⟨da, dc, rfl, -⟩ := hd
     obtain ⟨ta, tc, rfl, -⟩ := ht
     obtain ⟨w0, hw0⟩ : ∃ w0, w0 = w.alloc (.cells #[.int .i64 ty, .slice da ds.length dc, .slice ta ts.length tc] 44) := ⟨_, rfl⟩
     have g0 : w.grownBy w0 none := by rw [hw0]; exact jab _ _
     have b0 : w0.heap[w.heap.size]? = some (.cells #[.int .i64 ty, .slice da ds.length dc, .slice ta ts.length tc] 44 (0, 0)) := by rw [hw0]; exact heap_alloc_new w _
     have CX : Hid (∀ wx, w0.grownBy wx none → wx.cell? ⟨w.heap.size, 0, none⟩ = some (.int .i64 ty) ∧ wx.cell? ⟨w.heap.size, 1, none⟩ = some (.slice da ds.length dc) ∧ wx.cell? ⟨w.heap.size, 2, none⟩ = some (.slice ta ts.length tc)) := fun wx hg => jbK (jag b0 hg)
     have CA := jac (fun (wx : World) (hg : w0.grownBy wx none) => jc0 ty (.slice da ds.length dc) (.slice ta ts.length tc) ds ts wx (HD.out.more (jaa g0 hg)) (HT.out.more (jaa g0 hg)))
     have CB := jac (fun (wx : World) (hg : w0.grownBy wx none) => jgG ty (.slice da ds.length dc) (.slice ta ts.length tc) ds ts wx (HD.out.more (jaa g0 hg)) (HT.out.more (jaa g0 hg)))
     obtain ⟨P, hP⟩ : ∃ P, P = pbE ty ds ts := ⟨_, rfl⟩
     rw [← hP] at CA CB
     have PE : (P == P) = true := by simp
     have G0 := jac g0
     clear b0 g0 hP
     go_enter Tryz.func5, Tryz.ntmps5
     go_wp2_with fail
     rw [← hw0]
     clear hw0
     obtain ⟨x0, x1, x2⟩ := CX.out w0 (jae w0)
     go_region_held3 (fun w' => w'.cell? ⟨w.heap.size, 0, none⟩ = some (.int .i64 ty) ∧ w'.cell? ⟨w.heap.size, 1, none⟩ = some (.slice da ds.length dc) ∧ w'.cell? ⟨w.heap.size, 2, none⟩ = some (.slice ta ts.length tc)) (go_keep) (first | (go_at_call 16; with_reducible refine (CA.out _ (by first | exact jae w0 | exact jav (jae w0) | exact jav (jav (jae w0)))).mono ?_; rintro e w1 ⟨rfl, hg1⟩; have k1 : w0.grownBy w1 none := (by first | exact jaa (jae w0) hg1 | exact jaa (jav (jae w0)) hg1 | exact jaa (jav (jav (jae w0))) hg1); obtain ⟨y0, y1, y2⟩ := CX.out w1 k1) | (go_at_call 17; with_reducible refine (CB.out w1 k1).mono ?_; rintro e w2 ⟨rfl, hg2⟩; have k2 : w0.grownBy w2 none := (by first | exact jaa k1 hg2 | exact jaa (jav k1) hg2 | exact jaa (jav (jav k1)) hg2); obtain ⟨z0, z1, z2⟩ := CX.out w2 k2) | (go_at_call 9; with_reducible refine (jjc _).mono ?_; rintro e w3 ⟨rfl, hg3⟩; have k3 : w0.grownBy w3 none := (by first | exact jaa k2 hg3 | exact jaa (jav k2) hg3 | exact jaa (jav (jav k2)) hg3); obtain ⟨u0, u1, u2⟩ := CX.out w3 k3) | fail)
     go_wp2
     go_ret
     exact ⟨rfl, jaa G0.out k3⟩
end Go.Proofs.YtbgbpfbjeleooaaGreat.Pd
