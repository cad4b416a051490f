/- Joined texts: VwWhole, VwPerm. -/
import Derived.Test.YtkefdkboejimeaaGreatDoorRartBB
import Derived.Test.YtkefdkboejimeaaGreatDoorRartAB
import Derived.Test.YtkefdkboejimeaaGreatDoorRartBD
namespace Go.Proofs.YtkefdkboejimeaaGreatDoor.Vw

open Go.RowKit

def iota (p : Int) (n : Nat) : List Int := (List.range n).map (fun (i : Nat) => p + i)

theorem iota_length (p : Int) (n : Nat) : (iota p n).length = n := by simp [iota]
theorem iota_add (p : Int) (a b : Nat) : iota p (a + b) = iota p a ++ iota (p + a) b := by
  simp only [iota, List.range_add, List.map_append, List.map_map]
  congr 1
  refine List.map_congr_left fun i _ => ?_
  simp only [Function.comp_apply, Int.natCast_add]
  omega
theorem iota_succ (p : Int) (n : Nat) : iota p (n + 1) = iota p n ++ [p + n] := by
  rw [iota_add]
  simp [iota]
theorem iota_getD (p : Int) (n i : Nat) (h : i < n) : (iota p n).getD i 0 = p + i := by simp [iota, List.getD, h]

end Go.Proofs.YtkefdkboejimeaaGreatDoor.Vw

namespace Go.Proofs.YtkefdkboejimeaaGreatDoor.Vw

theorem nodup_le : ∀ (l m : List Int), l.Nodup → (∀ x ∈ l, x ∈ m) → l.length ≤ m.length
  | [], _, _, _ => by simp
  | a :: l, m, hn, hs => by
    rw [List.nodup_cons] at hn
    have h1 := hs a (by simp)
    have ih := nodup_le l (m.erase a) hn.2 fun x hx => (List.mem_erase_of_ne (fun e => hn.1 (by rw [← e]; exact hx))).2 (hs x (by simp [hx]))
    rw [List.length_erase_of_mem h1] at ih
    have := List.length_pos_of_mem h1
    simp only [List.length_cons]
    omega

theorem mem_iota {p x : Int} {n : Nat} : x ∈ iota p n ↔ p ≤ x ∧ x < p + n := by
  simp only [iota, List.mem_map, List.mem_range]
  exact ⟨fun ⟨i, hi, e⟩ => by omega, fun ⟨h1, h2⟩ => ⟨(x - p).toNat, by omega, by omega⟩⟩

theorem iota_nodup (p : Int) : ∀ n : Nat, (iota p n).Nodup
  | 0 => by simp [iota]
  | n + 1 => by
    rw [iota_succ, List.nodup_append]
    refine ⟨iota_nodup p n, by simp, fun a ha b hb e => ?_⟩
    have h1 := mem_iota.1 ha
    simp only [List.mem_singleton] at hb
    omega

theorem IsPerm.perm {perm : List Int} {n : Nat} (h : IsPerm perm n) : perm.Perm (iota 0 n) := by
  refine (List.perm_ext_iff_of_nodup h.once (iota_nodup 0 n)).2 fun x => ⟨fun hx => mem_iota.2 (by have := h.rng x hx; omega), fun hx => ?_⟩
  by_cases hm : x ∈ perm
  · exact hm
  · have h1 := nodup_le (x :: perm) (iota 0 n) (List.nodup_cons.2 ⟨hm, h.once⟩) (fun y hy => by
      rcases List.mem_cons.1 hy with rfl | hy
      · exact hx
      · exact mem_iota.2 (by have := h.rng y hy; omega))
    rw [iota_length, List.length_cons, h.len] at h1
    omega

end Go.Proofs.YtkefdkboejimeaaGreatDoor.Vw
