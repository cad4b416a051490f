/- Views and lists that come in, opened. -/
import Derived.Test.YtankpkbneojgdaaSFrame
import Derived.Test.YtankpkbneojgdaaVBase
import Derived.Deep.Strs
namespace Go.Proofs.Ytankpkbneojgdaa
open Go.ChangeShapes Go.WideShapes Go.ChangeAt Go.RowKit

theorem cells64 : Try.prog.cellsOf 2 = 1 := by kernel_rfl
theorem bytes64 : Try.prog.bytesOf 2 = 8 := by kernel_rfl

theorem ints64_of {H : Type} {enc : TypeId × Value → H} {W : World} {r : Reach} {b0 : Nat} {v : Value} {d : DataW H} {p : List MemPlace} {ts : List TypeId} {ds : List (DataW H)} {j : Nat}
    (hok : Value.okWide Try.prog W r b0 44 v) (h : DataW.Trod enc Try.prog W 0 (fun _ => true) true 44 v d p)
    (hsz : (DataW.weightsEach Try.prog ts ds).all (· ≤ reachBytes) = true) (ht : ts[j]? = some 44) (hd : ds[j]? = some d) : ∃ zs, IsInts W v zs := by
  obtain ⟨a0, la, ca, rfl⟩ := okWide_slice Try.underlying44 hok
  obtain ⟨fuel, hf⟩ := h
  rcases open_ints Try.underlying44 Try.underlying2 cells64 hf with ⟨hcs, hx⟩ | ⟨a, len', cap', zs, hcs, _, hl, hm, hz, hx, hcell, hwz⟩
  · simp [Value.cells] at hcs
    obtain ⟨rfl, rfl, rfl⟩ := hcs
    exact ⟨[], none, 0, rfl, by simp, by simp, by simp, fun _ => ⟨rfl, rfl⟩, fun h => by simp at h, fun z hz => by simp at hz⟩
  · simp [Value.cells] at hcs
    obtain ⟨rfl, rfl, rfl⟩ := hcs
    simp only [Prod.mk.injEq] at hx
    obtain ⟨rfl, rfl⟩ := hx
    simp only [if_true] at hz
    have hs := sized_slice hsz (j := j) (t := 44) (e := 2) ht hd Try.underlying44
    rw [bytes64] at hs
    simp only [lits, List.length_map, reachBytes, List.length_take, List.length_drop] at hs
    have hlt : (zs.take la).length = la := by simp; omega
    refine ⟨zs.take la, some a, ca, by rw [hlt], by rw [hlt]; exact hl, by simpa [maxLen] using hm, by rw [hlt]; omega, (fun h => by cases h), fun h0 => ?_, fun z hz => wf_bounds (hwz z (List.mem_of_mem_take hz))⟩
    rw [hlt] at h0
    obtain ⟨b, off, sp⟩ := a
    have hsp : sp = none := by simpa [Addr.add] using World.cell?_spot (hcell 0 (by omega))
    subst hsp
    refine ⟨b, off, rfl, fun t ht => ?_⟩
    rw [hlt] at ht
    rw [← Addr.add_lit, hcell t (by omega)]
    simp [List.getD, ht]

theorem ints_raw {H : Type} {enc : TypeId × Value → H} {W : World} {fuel : Nat} {c : Value} {x : DataW H × List MemPlace}
    (hf : DataW.trod enc Try.prog W 0 (fun _ => true) true fuel 22 [c] = some x) (hw : ∀ n ∈ x.1.weights Try.prog 22, n ≤ reachBytes) : ∃ zs, IsInts W c zs := by
  rcases open_ints Try.underlying22 Try.underlying3 cellsInt hf with ⟨hcs, hx⟩ | ⟨a, la, ca, zs, hcs, _, hl, hm, hz, hx, hcell, hwz⟩
  · simp at hcs
    subst hcs
    exact ⟨[], none, 0, rfl, by simp, by simp, by simp, fun _ => ⟨rfl, rfl⟩, fun h => by simp at h, fun z hz => by simp at hz⟩
  · simp at hcs
    subst hcs hx
    simp only [if_true] at hz
    have hs := hw (((zs.take la).length + (zs.drop la).length) * Try.prog.bytesOf 3) (by simp [DataW.weights, Try.underlying22, lits])
    rw [bytesInt] at hs
    simp only [reachBytes, List.length_take, List.length_drop] at hs
    have hlt : (zs.take la).length = la := by simp; omega
    refine ⟨zs.take la, some a, ca, by rw [hlt], by rw [hlt]; exact hl, by simpa [maxLen] using hm, by rw [hlt]; omega, (fun h => by cases h), fun h0 => ?_, fun z hz => wf_bounds (hwz z (List.mem_of_mem_take hz))⟩
    rw [hlt] at h0
    obtain ⟨b, off, sp⟩ := a
    have hsp : sp = none := by simpa [Addr.add] using World.cell?_spot (hcell 0 (by omega))
    subst hsp
    refine ⟨b, off, rfl, fun t ht => ?_⟩
    rw [hlt] at ht
    rw [← Addr.add_lit, hcell t (by omega)]
    simp [List.getD, ht]

theorem cellsView : Try.prog.cellsOf 24 = 3 := by kernel_rfl
theorem cellsSlice : Try.prog.cellsOf 22 = 1 := by kernel_rfl

theorem view_of {H : Type} {enc : TypeId × Value → H} {W : World} {r : Reach} {b0 : Nat} {v : Value} {d : DataW H} {p : List MemPlace} {ts : List TypeId} {ds : List (DataW H)} {j : Nat}
    (hok : Value.okWide Try.prog W r b0 24 v) (h : DataW.Trod enc Try.prog W 0 (fun _ => true) true 24 v d p)
    (hsz : (DataW.weightsEach Try.prog ts ds).all (· ≤ reachBytes) = true) (ht : ts[j]? = some 24) (hd : ds[j]? = some d) : ∃ z : Int × List Int × List Int, IsView W v z.1 z.2.1 z.2.2 := by
  obtain ⟨cs, rfl, hcs⟩ := okWide_struct Try.underlying24 hok
  rw [cellsView] at hcs
  obtain ⟨l⟩ := cs
  obtain ⟨fuel, hf⟩ := h
  match l, hcs with
  | [c0, c1, c2], _ =>
    obtain ⟨y0, y1, y2, n, hx, -, h0, h1, h2⟩ := Go.Deep.trod_struct3 Try.underlying24 hf
    simp only [Prod.mk.injEq] at hx
    simp [Value.cells, cellsInt] at h0
    simp [Value.cells, cellsSlice] at h1 h2
    obtain ⟨off, e0, -, w0⟩ := DataW.trod_int Try.underlying3 h0
    simp at e0
    have hall : ∀ m ∈ d.weights Try.prog 24, m ≤ reachBytes := fun m hm => by
      have := List.all_eq_true.1 hsz m (DataW.weights_mem_each ht hd m hm)
      simpa using this
    have hagg : d.weights Try.prog 24 = DataW.weightsEach Try.prog [3, 22, 22] [y0.1, y1.1, y2.1] := by
      rw [hx.1]
      simp [DataW.weights, Try.underlying24]
    obtain ⟨z1, s1⟩ := ints_raw h1 (fun m hm => hall m (by rw [hagg]; exact DataW.weights_mem_each (j := 1) rfl rfl m hm))
    obtain ⟨z2, s2⟩ := ints_raw h2 (fun m hm => hall m (by rw [hagg]; exact DataW.weights_mem_each (j := 2) rfl rfl m hm))
    obtain ⟨w1, w2⟩ := wf_bounds w0
    exact ⟨(off, z1, z2), c1, c2, by rw [e0], s1, s2, w1, w2⟩
end Go.Proofs.Ytankpkbneojgdaa
