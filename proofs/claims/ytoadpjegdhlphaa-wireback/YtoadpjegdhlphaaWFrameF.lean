/- A list of fields that comes in, opened. -/
import Derived.Test.YtoadpjegdhlphaaWFrame
import Derived.Test.YtoadpjegdhlphaaWSame
import Derived.Test.YtoadpjegdhlphaaWOut
import Derived.Deep.Slices
import Derived.Deep.Strs
namespace Go.Proofs.Ytoadpjegdhlphaa
open Go.ChangeShapes Go.WideShapes Go.ChangeAt Go.RowKit

theorem cellsFld : Try.prog.cellsOf 34 = 4 := by kernel_rfl
theorem bytesFld : Try.prog.bytesOf 34 = 40 := by kernel_rfl
theorem cellsU64 : Try.prog.cellsOf 22 = 1 := by kernel_rfl
theorem cellsStr : Try.prog.cellsOf 9 = 1 := by kernel_rfl

theorem fld_of {H : Type} {enc : TypeId × Value → H} {W : World} {n : Nat} {cs : List Value} {x : DataW H × List MemPlace}
    (hf : DataW.trod enc Try.prog W 0 (fun _ => true) true n 34 cs = some x) (hw : ∀ m ∈ x.1.weights Try.prog 34, m ≤ reachBytes) : ∃ y, cs = fcells y ∧ FldIn y := by
  obtain ⟨xs, n', -, hx, hl, hlen, hfs⟩ := DataW.trod_struct Try.underlying34 hf
  rw [cellsFld] at hl
  match cs, hl with
  | [c0, c1, c2, c3], _ =>
    match xs, hlen with
    | [y0, y1, y2, y3], _ =>
      have h0 := hfs 0 _ rfl
      have h1 := hfs 1 _ rfl
      have h2 := hfs 2 _ rfl
      have h3 := hfs 3 _ rfl
      simp [cellsInt] at h0 h1
      simp [cellsU64] at h2
      simp [cellsStr] at h3
      obtain ⟨a, e0, -, w0⟩ := DataW.trod_int Try.underlying3 h0
      obtain ⟨b, e1, -, w1⟩ := DataW.trod_int Try.underlying3 h1
      obtain ⟨c, e2, -, w2⟩ := DataW.trod_int Try.underlying22 h2
      obtain ⟨s, e3, e3', w3⟩ := DataW.trod_string Try.underlying9 h3
      simp at e0 e1 e2 e3
      subst e0 e1 e2 e3
      have hsw : s.data.toList.length ≤ reachBytes := by
        refine hw _ ?_
        rw [hx]
        have hm := DataW.weights_mem_each (P := Try.prog) (ts := [3, 3, 22, 9]) (ds := [y0.1, y1.1, y2.1, y3.1]) (j := 3) (t := 9) (d := y3.1) rfl rfl s.data.toList.length (by rw [e3']; simp [DataW.weights])
        simpa [DataW.weights, Try.underlying34] using hm
      exact ⟨⟨a, b, c, s⟩, rfl, (wf_bounds w0).1, (wf_bounds w0).2, (wf_bounds w1).1, (wf_bounds w1).2, (wf_u64 w2).1, (wf_u64 w2).2, size_of hsw⟩

theorem in_all {H : Type} {P : Program} {e : TypeId} : ∀ {l : List (DataW H)} {d : DataW H}, d ∈ l → ∀ n ∈ d.weights P e, n ∈ DataW.weightsAll P e l
  | x :: l, d, hd, n, hn => by
    rw [DataW.weightsAll, List.mem_append]
    rcases List.mem_cons.1 hd with rfl | hd
    · exact Or.inl hn
    · exact Or.inr (in_all hd n hn)

theorem flds_of {H : Type} {enc : TypeId × Value → H} {W : World} {r : Reach} {b0 : Nat} {v : Value} {d : DataW H} {p : List MemPlace} {ts : List TypeId} {ds : List (DataW H)} {j : Nat}
    (hok : Value.okWide Try.prog W r b0 29 v) (h : DataW.Trod enc Try.prog W 0 (fun _ => true) true 29 v d p)
    (hsz : (DataW.weightsEach Try.prog ts ds).all (· ≤ reachBytes) = true) (ht : ts[j]? = some 29) (hd : ds[j]? = some d) : ∃ xs, IsFlds W v xs ∧ ∀ x ∈ xs, FldIn x := by
  obtain ⟨a0, la, ca, rfl⟩ := okWide_slice Try.underlying29 hok
  obtain ⟨fuel, hf⟩ := h
  rcases Go.Deep.open_slice Try.underlying29 hf with ⟨hcs, hx⟩ | ⟨a, len, cap, m, n, D, Pl, hcs, -, hl, hm, hmm, hx, hel⟩
  · simp [Value.cells] at hcs
    obtain ⟨rfl, rfl, rfl⟩ := hcs
    exact ⟨[], ⟨none, 0, rfl, by simp, by simp, by simp, fun _ => ⟨rfl, rfl⟩, fun h => by simp at h⟩, fun x hx => by simp at hx⟩
  · simp [Value.cells] at hcs
    obtain ⟨rfl, rfl, rfl⟩ := hcs
    simp only [Prod.mk.injEq] at hx
    obtain ⟨rfl, rfl⟩ := hx
    simp only [if_true] at hmm
    subst hmm
    have hs := sized_slice hsz (j := j) (t := 29) (e := 34) ht hd Try.underlying29
    rw [bytesFld] at hs
    simp only [List.length_map, List.length_range, reachBytes] at hs
    rw [cellsFld] at hel
    have hw : ∀ i, i < la → ∀ q ∈ (D i).weights Try.prog 34, q ≤ reachBytes := by
      intro i hi q hq
      have := List.all_eq_true.1 hsz q (DataW.weights_mem_each ht hd q ?_)
      · simpa using this
      · simp only [DataW.weights, Try.underlying29, List.mem_cons, List.mem_append]
        exact Or.inr (Or.inl (in_all (List.mem_map.2 ⟨i, List.mem_range.2 hi, rfl⟩) _ hq))
    have hy : ∀ i, i < la → ∃ y, W.cells? 0 (a.add (i * 4)) 4 = some (fcells y) ∧ FldIn y := by
      intro i hi
      obtain ⟨cs', hc, htr⟩ := hel i (by omega)
      obtain ⟨y, rfl, hin⟩ := fld_of htr (hw i hi)
      exact ⟨y, hc, hin⟩
    have inh : Inhabited Fld := ⟨⟨0, 0, 0, ByteArray.empty⟩⟩
    obtain ⟨Y, hY⟩ := Go.Deep.choose_lt hy
    have hlen : ((List.range la).map Y).length = la := by simp
    refine ⟨(List.range la).map Y, ⟨some a, m, by rw [hlen], by rw [hlen]; exact hl, by simpa [maxLen] using hm, by rw [hlen]; omega, (fun h => by cases h), fun h0 => ?_⟩, fun x hx => ?_⟩
    · rw [hlen] at h0
      have hc : ∀ i, i < la → ∀ t, t < 4 → W.cell? ((a.add (i * 4)).add t) = (fcells (Y i))[t]? := fun i hi => (World.cells?_some (hY i hi).1).2.2
      obtain ⟨b, off, sp⟩ := a
      have hsp : sp = none := by
        have h1 := hc 0 h0 0 (by omega)
        simpa [Addr.add] using World.cell?_spot (h1.trans (by simp [fcells]; rfl))
      subst hsp
      refine ⟨b, off, rfl, fun q hq => ?_⟩
      rw [hlen] at hq
      obtain ⟨i, t, ht4, rfl⟩ : ∃ i t, t < 4 ∧ q = i * 4 + t := ⟨q / 4, q % 4, by omega, by omega⟩
      have h1 := hc i (by omega) t ht4
      rw [Addr.add_lit, Addr.add_lit] at h1
      rw [show off + (i * 4 + t) = off + i * 4 + t by omega, h1, flat_at _ i t (by rw [hlen]; omega) ht4]
      simp
    · obtain ⟨i, hi, rfl⟩ := List.mem_map.1 hx
      exact (hY i (List.mem_range.1 hi)).2
end Go.Proofs.Ytoadpjegdhlphaa
