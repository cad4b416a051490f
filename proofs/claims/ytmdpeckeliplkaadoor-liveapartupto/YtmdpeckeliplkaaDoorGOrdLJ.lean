/- What GraphOrders says of the order, in pure words. -/
import Derived.Test.YtmdpeckeliplkaaDoorGOpenJ
namespace Go.Proofs.YtmdpeckeliplkaaDoor
open Go.RowKit

theorem ordF_len (R : List (List Int)) : ∀ (f : Nat) (W : List Int), (ordF f W R).length ≤ f
  | 0, W => Nat.le_refl _
  | f + 1, W => by
    unfold ordF
    cases W.findIdx? (fun z => z == 0) with
    | none => exact Nat.zero_le _
    | some k => exact Nat.succ_le_succ (ordF_len R f _)

theorem orderR_ok {cs : List Nc} {vin vout : List (Val × List Int)} {its : List (Nam × List Int × List Int)} (h : (orderR cs vin vout its).2 = 0) :
    (orderR cs vin vout its).1 = lineF cs vin its ∧ (lineF cs vin its).length = cs.length ∧ namesOK [] (vnames cs vin its) = true ∧ foundF cs (onames vout) (vnames cs vin its) = true ∧ cs.length ≤ 1000 := by
  have e : orderR cs vin vout its = if manyF cs.length vin.length vout.length its.length = true then ([], 6) else if partsF cs vin its ≠ 0 then ([], partsF cs vin its) else if (namesOK [] (vnames cs vin its) && foundF cs (onames vout) (vnames cs vin its)) = false then ([], 4) else if (lineF cs vin its).length < cs.length then ([], 4) else (lineF cs vin its, 0) := rfl
  rw [e] at h ⊢
  by_cases h1 : manyF cs.length vin.length vout.length its.length = true
  · rw [if_pos h1] at h
    simp at h
  · rw [if_neg h1] at h ⊢
    by_cases h2 : partsF cs vin its ≠ 0
    · rw [if_pos h2] at h
      exact absurd h h2
    · rw [if_neg h2] at h ⊢
      by_cases h3 : (namesOK [] (vnames cs vin its) && foundF cs (onames vout) (vnames cs vin its)) = false
      · rw [if_pos h3] at h
        simp at h
      · rw [if_neg h3] at h ⊢
        by_cases h4 : (lineF cs vin its).length < cs.length
        · rw [if_pos h4] at h
          simp at h
        · rw [if_neg h4]
          have h5 : (namesOK [] (vnames cs vin its) && foundF cs (onames vout) (vnames cs vin its)) = true := by simpa using h3
          rw [Bool.and_eq_true] at h5
          refine ⟨rfl, ?_, h5.1, h5.2, ?_⟩
          · have : (lineF cs vin its).length ≤ cs.length := ordF_len _ _ _
            omega
          · unfold manyF at h1
            simp only [Bool.or_eq_true, decide_eq_true_eq, not_or] at h1
            omega

theorem orderR_err {cs : List Nc} {vin vout : List (Val × List Int)} {its : List (Nam × List Int × List Int)} (h : (orderR cs vin vout its).2 ≠ 0) : (orderR cs vin vout its).1 = [] := by
  have e : orderR cs vin vout its = if manyF cs.length vin.length vout.length its.length = true then ([], 6) else if partsF cs vin its ≠ 0 then ([], partsF cs vin its) else if (namesOK [] (vnames cs vin its) && foundF cs (onames vout) (vnames cs vin its)) = false then ([], 4) else if (lineF cs vin its).length < cs.length then ([], 4) else (lineF cs vin its, 0) := rfl
  rw [e] at h ⊢
  split
  · rfl
  · split
    · rfl
    · split
      · rfl
      · split
        · rfl
        · rename_i h1 h2 h3 h4
          rw [if_neg h1, if_neg h2, if_neg h3, if_neg h4] at h
          exact absurd rfl h

theorem unlike_of : ∀ {l acc : List ByteArray}, namesOK acc l = true → ∀ (i : Nat) (hi : i < l.length), inL l[i] (acc ++ l.take i) = false
  | [], _, _, i, hi => by simp at hi
  | x :: l, acc, h, 0, _ => by
    unfold namesOK at h
    simp only [Bool.and_eq_true, Bool.not_eq_true'] at h
    simpa using h.1.1
  | x :: l, acc, h, i + 1, hi => by
    unfold namesOK at h
    simp only [Bool.and_eq_true] at h
    have := unlike_of (l := l) h.2 i (by simpa using hi)
    rw [List.append_assoc] at this
    simpa using this

theorem pos_self {l : List ByteArray} (h : namesOK [] l = true) {i : Nat} (hi : i < l.length) : pos l l[i] = i := by
  have hu := unlike_of h i hi
  rw [List.nil_append] at hu
  unfold inL at hu
  rw [List.any_eq_false] at hu
  unfold pos
  rw [List.findIdx_eq hi]
  refine ⟨by simp, fun j hj => ?_⟩
  have := hu l[j] (List.mem_take_iff_getElem.2 ⟨j, by omega, rfl⟩)
  simpa using this

theorem pos_out {cs : List Nc} {vin : List (Val × List Int)} {its : List (Nam × List Int × List Int)} (h : namesOK [] (vnames cs vin its) = true) {k : Nat} (hk : k < cs.length) : pos (vnames cs vin its) cs[k].n.out = vin.length + its.length + k := by
  have hl := vnames_len cs vin its
  have e : (vnames cs vin its)[vin.length + its.length + k]'(by omega) = cs[k].n.out := by
    unfold vnames
    rw [List.getElem_append_right (by simp)]
    simp
  rw [← e]
  exact pos_self h (by omega)
end Go.Proofs.YtmdpeckeliplkaaDoor
