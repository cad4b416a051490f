/- Joined texts: LnPile, LnBlock. -/
import Derived.Test.YtaoplfpigjkgpaaGreatDoorPartBG
import Derived.Test.YtaoplfpigjkgpaaGreatDoorPartBA
import Derived.Deep.RegionHeld3
namespace Go.Proofs.YtaoplfpigjkgpaaGreatDoor

open Go.RowKit

theorem ints_part {w : World} {b off n c : Nat} {zs : List Int} (h : IsInts w (.slice (some ⟨b, off, none⟩) n c) zs) (p m c' : Nat) (hp : p + m ≤ zs.length) (hc : p + c' ≤ c) (hm : m ≤ c') : IsInts w (.slice (some ⟨b, off + p, none⟩) m c') ((zs.drop p).take m) := by
  obtain ⟨a, c0, e, h1, h2, h3, -, h5, h6⟩ := h
  simp only [Value.slice.injEq] at e
  obtain ⟨rfl, -, rfl⟩ := e
  have hl : ((zs.drop p).take m).length = m := by rw [List.length_take, List.length_drop]; omega
  refine ⟨_, _, by rw [hl], by rw [hl]; exact hm, by omega, by rw [hl]; omega, (fun h => by cases h), fun _ => ⟨b, off + p, rfl, fun t ht => ?_⟩, fun z hz => h6 z (List.mem_of_mem_drop (List.mem_of_mem_take hz))⟩
  rw [hl] at ht
  obtain ⟨b', off', e', hcell⟩ := h5 (by omega)
  simp only [Option.some.injEq, Addr.mk.injEq] at e'
  obtain ⟨rfl, rfl, -⟩ := e'
  rw [Nat.add_assoc, hcell (p + t) (by omega)]
  congr 2
  simp only [List.getD]
  rw [List.getElem?_take_of_lt ht, List.getElem?_drop]

end Go.Proofs.YtaoplfpigjkgpaaGreatDoor

namespace Go.Proofs.YtaoplfpigjkgpaaGreatDoor

open Go.RowKit

theorem wrap64_id {x : Int} (h1 : 0 ≤ x) (h2 : x ≤ 1000000) : wrap64 x = x := by
  unfold wrap64
  omega

end Go.Proofs.YtaoplfpigjkgpaaGreatDoor
