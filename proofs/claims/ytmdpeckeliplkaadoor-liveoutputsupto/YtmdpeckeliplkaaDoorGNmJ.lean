/- Names in lists, in pure words. -/
import Derived.Test.YtmdpeckeliplkaaDoorGOrdLJ
namespace Go.Proofs.YtmdpeckeliplkaaDoor
open Go.RowKit

theorem bytes_eq {x y : ByteArray} (h : x.data.toList = y.data.toList) : x = y := by
  obtain ⟨⟨x⟩⟩ := x
  obtain ⟨⟨y⟩⟩ := y
  simp at h
  rw [h]

theorem inL_iff {x : ByteArray} {l : List ByteArray} : inL x l = true ↔ x ∈ l := by
  unfold inL
  rw [List.any_eq_true]
  constructor
  · rintro ⟨y, hy, e⟩
    have e2 : y = x := bytes_eq (by simpa using e)
    rw [← e2]
    exact hy
  · intro h
    exact ⟨x, h, by simp⟩

theorem inL_not {x : ByteArray} {l : List ByteArray} : inL x l = false ↔ x ∉ l := by
  rw [← inL_iff]
  simp

theorem namesOK_iff : ∀ {l acc : List ByteArray}, namesOK acc l = true ↔ (∀ y ∈ l, y ∉ acc ∧ y.toList ≠ []) ∧ l.Nodup
  | [], acc => by simp [namesOK]
  | x :: l, acc => by
    rw [namesOK, Bool.and_eq_true, Bool.and_eq_true, Bool.not_eq_true', Bool.not_eq_true', namesOK_iff, inL_not, List.nodup_cons]
    constructor
    · rintro ⟨⟨h1, h2⟩, h3, h4⟩
      refine ⟨fun y hy => ?_, fun hx => ?_, h4⟩
      · rcases List.mem_cons.1 hy with rfl | hy
        · exact ⟨h1, by simpa using h2⟩
        · have := h3 y hy
          exact ⟨fun h => this.1 (by simp [h]), this.2⟩
      · exact (h3 x hx).1 (by simp)
    · rintro ⟨h1, h2, h3⟩
      have hx := h1 x (by simp)
      refine ⟨⟨hx.1, by simpa using hx.2⟩, fun y hy => ⟨fun h => ?_, (h1 y (by simp [hy])).2⟩, h3⟩
      rcases List.mem_append.1 h with h | h
      · exact (h1 y (by simp [hy])).1 h
      · have e : y = x := by simpa using h
        exact h2 (e ▸ hy)

theorem namesOK_nil {l : List ByteArray} : namesOK [] l = true ↔ (∀ y ∈ l, y.toList ≠ []) ∧ l.Nodup := by
  rw [namesOK_iff]
  simp

theorem allF_iff {l xs : List ByteArray} : allF l xs = true ↔ ∀ x ∈ xs, x ∈ l := by
  unfold allF
  rw [List.all_eq_true]
  exact ⟨fun h x hx => inL_iff.1 (h x hx), fun h x hx => inL_iff.2 (h x hx)⟩

theorem foundF_iff {cs : List Nc} {outs l : List ByteArray} : foundF cs outs l = true ↔ namesOK [] outs = true ∧ outs.length ≠ 0 ∧ (∀ x ∈ outs, x ∈ l) ∧ ∀ c ∈ cs, ∀ x ∈ c.ins, x ∈ l := by
  unfold foundF
  rw [Bool.and_eq_true, Bool.and_eq_true, Bool.and_eq_true, allF_iff, List.all_eq_true]
  simp only [allF_iff, Bool.not_eq_true', beq_eq_false_iff_ne, ne_eq, and_assoc]

theorem firstE_app (a b : List Int) : firstE (a ++ b) = if firstE a = 0 then firstE b else firstE a := by
  induction a with
  | nil => simp [firstE]
  | cons z l ih =>
    rw [List.cons_append, firstE, firstE, ih]
    by_cases hz : z = 0
    · rw [if_pos hz, if_pos hz]
    · rw [if_neg hz, if_neg hz, if_neg hz]

theorem firstE_zero {l : List Int} : firstE l = 0 ↔ ∀ z ∈ l, z = 0 := by
  induction l with
  | nil => simp [firstE]
  | cons z l ih =>
    rw [firstE]
    by_cases hz : z = 0
    · rw [if_pos hz, ih]
      simp [hz]
    · rw [if_neg hz]
      simp [hz]

/-- All that a graph has whose order there is. -/
theorem orderR_iff {cs : List Nc} {vin vout : List (Val × List Int)} {its : List (Nam × List Int × List Int)} : (orderR cs vin vout its).2 = 0 ↔ manyF cs.length vin.length vout.length its.length = false ∧ partsF cs vin its = 0 ∧ namesOK [] (vnames cs vin its) = true ∧ foundF cs (onames vout) (vnames cs vin its) = true ∧ (lineF cs vin its).length = cs.length := by
  have hle : (lineF cs vin its).length ≤ cs.length := ordF_len _ _ _
  unfold orderR
  constructor
  · intro h
    by_cases h1 : manyF cs.length vin.length vout.length its.length = true
    · rw [if_pos h1] at h; simp at h
    · rw [if_neg h1] at h
      by_cases h2 : partsF cs vin its ≠ 0
      · rw [if_pos h2] at h; exact absurd h h2
      · rw [if_neg h2] at h
        by_cases h3 : (namesOK [] (vnames cs vin its) && foundF cs (onames vout) (vnames cs vin its)) = false
        · rw [if_pos h3] at h; simp at h
        · rw [if_neg h3] at h
          by_cases h4 : (lineF cs vin its).length < cs.length
          · rw [if_pos h4] at h; simp at h
          · have h5 : (namesOK [] (vnames cs vin its) && foundF cs (onames vout) (vnames cs vin its)) = true := by simpa using h3
            rw [Bool.and_eq_true] at h5
            exact ⟨by simpa using h1, by simpa using h2, h5.1, h5.2, by omega⟩
  · rintro ⟨h1, h2, h3, h4, h5⟩
    rw [if_neg (by simp [h1]), if_neg (by simp [h2]), if_neg (by simp [h3, h4]), if_neg (by omega)]

theorem orderR_of {cs : List Nc} {vin vout : List (Val × List Int)} {its : List (Nam × List Int × List Int)} (h1 : manyF cs.length vin.length vout.length its.length = false) (h2 : partsF cs vin its = 0) (h3 : namesOK [] (vnames cs vin its) = true) (h4 : foundF cs (onames vout) (vnames cs vin its) = true) (h5 : (lineF cs vin its).length = cs.length) : orderR cs vin vout its = (lineF cs vin its, 0) := by
  unfold orderR
  rw [if_neg (by simp [h1]), if_neg (by simp [h2]), if_neg (by simp [h3, h4]), if_neg (by omega)]
end Go.Proofs.YtmdpeckeliplkaaDoor
