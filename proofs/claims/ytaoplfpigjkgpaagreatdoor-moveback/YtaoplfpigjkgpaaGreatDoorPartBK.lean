/- Joined texts: MvGathP. -/
import Derived.Test.YtaoplfpigjkgpaaGreatDoorPartBJ
import Derived.Laws.CopyOwn
namespace Go.Proofs.YtaoplfpigjkgpaaGreatDoor

open Go.RowKit

def rowL (xs : List Int) (W i : Nat) : List Int := (xs.drop (i * W)).take W

def rowsG (xs : List Int) (W dim A : Nat) (ps : List Int) : List (List Int) := (List.range A).flatMap fun h => ps.map fun p => rowL xs W (h * dim + p.toNat)

theorem rowL_len {xs : List Int} {W i : Nat} (h : i * W + W ≤ xs.length) : (rowL xs W i).length = W := by
  unfold rowL
  rw [List.length_take, List.length_drop]
  omega

theorem rowsG_len (xs : List Int) (W dim A : Nat) (ps : List Int) : (rowsG xs W dim A ps).length = A * ps.length := flat_len' _ _ _ fun i _ => by simp

theorem rowsG_at (xs : List Int) (W dim A : Nat) (ps : List Int) (h j : Nat) (hh : h < A) (hj : j < ps.length) : (rowsG xs W dim A ps).getD (h * ps.length + j) [] = rowL xs W (h * dim + (ps.getD j 0).toNat) := by
  have e := flat_part (fun h => ps.map fun p => rowL xs W (h * dim + p.toNat)) ps.length A (fun i _ => by simp) h hh
  have e2 : (((rowsG xs W dim A ps).drop (h * ps.length)).take ps.length).getD j [] = (ps.map fun p => rowL xs W (h * dim + p.toNat)).getD j [] := by unfold rowsG; rw [e]
  simp only [List.getD] at e2
  rw [List.getElem?_take_of_lt hj, List.getElem?_drop] at e2
  simp only [List.getD]
  rw [e2, List.getElem?_map]
  simp [hj]

def partG (rs : List (List Int)) (m N W : Nat) : List Int := (rs.take m).flatten ++ List.replicate (N - m * W) 0

theorem flat_take_len {rs : List (List Int)} {W : Nat} (hr : ∀ r ∈ rs, r.length = W) : ∀ m, m ≤ rs.length → (rs.take m).flatten.length = m * W
  | 0, _ => by simp
  | m + 1, h => by
    rw [List.take_add_one, List.getElem?_eq_getElem (by omega), Option.toList_some, List.flatten_append, List.length_append, flat_take_len hr m (by omega), List.flatten_singleton, hr _ (List.getElem_mem _), Nat.add_mul, Nat.one_mul]

theorem partG_len {rs : List (List Int)} {m N W : Nat} (hr : ∀ r ∈ rs, r.length = W) (hm : m ≤ rs.length) (hN : m * W ≤ N) : (partG rs m N W).length = N := by
  unfold partG
  rw [List.length_append, flat_take_len hr m hm, List.length_replicate]
  omega

theorem partG_done {rs : List (List Int)} {N W : Nat} (hN : N = rs.length * W) : partG rs rs.length N W = rs.flatten := by
  unfold partG
  rw [hN, Nat.sub_self, List.replicate_zero, List.append_nil, List.take_length]

theorem partG_step {rs : List (List Int)} {m N W : Nat} (hr : ∀ r ∈ rs, r.length = W) (hm : m < rs.length) (hN : m * W + W ≤ N) : splice (partG rs m N W) (m * W) (rs.getD m []) = partG rs (m + 1) N W := by
  have hl := flat_take_len hr m (by omega)
  have e : rs.getD m [] = rs[m] := by simp [List.getD, hm]
  have hw : (rs.getD m []).length = W := by rw [e]; exact hr _ (List.getElem_mem _)
  unfold splice partG
  rw [hw, List.take_append_of_le_length (by omega), List.take_of_length_le (by omega), List.drop_append, List.drop_of_length_le (by omega), List.nil_append, hl, List.drop_replicate, List.take_add_one, List.getElem?_eq_getElem hm, Option.toList_some, List.flatten_append, List.flatten_singleton, e, List.append_assoc]
  rw [show N - m * W - (m * W + W - m * W) = N - (m + 1) * W from by rw [Nat.add_mul]; omega]

theorem splice_map {L cs : List Int} {off : Nat} (f : Int → Value) : splice (L.map f) off (cs.map f) = (splice L off cs).map f := by
  unfold splice
  simp [List.map_take, List.map_drop]

end Go.Proofs.YtaoplfpigjkgpaaGreatDoor
