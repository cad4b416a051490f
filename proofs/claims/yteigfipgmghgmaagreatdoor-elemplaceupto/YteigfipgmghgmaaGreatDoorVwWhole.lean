/- The places of the whole: plain facts. -/
import Derived.Test.YteigfipgmghgmaaGreatDoorVwSpread
import Derived.Test.YteigfipgmghgmaaGreatDoorVwRead
namespace Go.Proofs.YteigfipgmghgmaaGreatDoor.Vw
open Go.RowKit

/-- n numbers from p on. -/
def iota (p : Int) (n : Nat) : List Int := (List.range n).map (fun (i : Nat) => p + i)

theorem iota_length (p : Int) (n : Nat) : (iota p n).length = n := by simp [iota]
theorem iota_add (p : Int) (a b : Nat) : iota p (a + b) = iota p a ++ iota (p + a) b := by
  simp only [iota, List.range_add, List.map_append, List.map_map]
  congr 1
  refine List.map_congr_left fun i _ => ?_
  simp only [Function.comp_apply, Int.natCast_add]
  omega
theorem iota_succ (p : Int) (n : Nat) : iota p (n + 1) = iota p n ++ [p + n] := by
  rw [iota_add]
  simp [iota]
theorem iota_getD (p : Int) (n i : Nat) (h : i < n) : (iota p n).getD i 0 = p + i := by simp [iota, List.getD, h]

theorem iota_flat (p : Int) (m : Nat) : ∀ d : Nat, (List.range d).flatMap (fun (i : Nat) => iota (p + i * (m : Int)) m) = iota p (d * m)
  | 0 => by simp [iota]
  | d + 1 => by
    rw [range_flat_succ, iota_flat p m d, Nat.add_mul, Nat.one_mul, iota_add, Int.natCast_mul]

theorem plc_whole : ∀ (ds : List Int) (p : Int), (∀ d ∈ ds, 1 ≤ d) → plc ds (strd ds) p = iota p (prod ds).toNat
  | [], p, _ => by simp [plc, prod, iota]
  | d :: ds, p, h => by
    have hd := h d (by simp)
    have hp := prod_pos ds fun y hy => h y (by simp [hy])
    obtain ⟨a, rfl⟩ : ∃ a : Nat, d = a := ⟨d.toNat, by omega⟩
    obtain ⟨b, hb⟩ : ∃ b : Nat, prod ds = b := ⟨(prod ds).toNat, by omega⟩
    simp only [plc, strd, prod]
    rw [show (fun (i : Nat) => plc ds (strd ds) (p + i * prod ds)) = fun (i : Nat) => iota (p + i * (b : Int)) b from by
      funext i
      rw [plc_whole ds _ fun y hy => h y (by simp [hy]), hb]
      simp, hb, ← Int.natCast_mul]
    simp only [Int.toNat_natCast]
    exact iota_flat p b a

theorem lst_whole : ∀ (ds : List Int), (∀ d ∈ ds, 1 ≤ d) → lst ds (strd ds) = prod ds - 1
  | [], _ => by simp [lst, prod]
  | d :: ds, h => by
    have ih := lst_whole ds fun y hy => h y (by simp [hy])
    simp only [lst, strd, prod, ih, Int.sub_mul, Int.one_mul]
    omega

theorem may_whole {ds : List Int} (h : Fine ds) : MayV 0 ds (strd ds) :=
  ⟨h, strd_length ds, by omega, by omega, fun s hs => by have := strd_le h s hs; omega⟩

/-- Spread to what it has, a view is as it was. -/
theorem spr_same {ds ss : List Int} (h : ss.length = ds.length) : spr ds ss ds = ss := by
  unfold spr
  rw [Nat.sub_self]
  refine List.ext_getElem (by simp [h]) fun i h1 h2 => ?_
  simp only [List.getElem_map, List.getElem_range, Nat.zero_le, Nat.sub_zero, true_and, if_true]
  simp [List.getD, List.getElem?_eq_getElem h2]

theorem map_all (l : List Int) : (iota 0 l.length).map (fun x => l.getD x.toNat 0) = l := by
  refine List.ext_getElem (by simp [iota_length]) fun i h1 h2 => ?_
  have e : (iota 0 l.length)[i]'(by rw [iota_length]; exact h2) = (i : Int) := by simp [iota]
  rw [List.getElem_map, e, Int.toNat_natCast]
  simp [List.getD, List.getElem?_eq_getElem h2]

/-- The whole, read: all elements in their order. -/
theorem rd_all {ds ts : List Int} (h : Fine ds) (hl : (ts.length : Int) = prod ds) : rdE 0 ds (strd ds) ts = 0 ∧ rdL 0 ds (strd ds) ts = ts := by
  have hp := h.prod_pos
  have hok : rdOk 0 ds (strd ds) ts = true := by
    simp only [rdOk, mayB_iff.2 (may_whole h), Bool.true_and, lst_whole ds h.pos, decide_eq_true_eq]
    omega
  refine ⟨by simp [rdE, hok], ?_⟩
  simp only [rdL, hok, if_true, shows, plc_whole ds 0 h.pos]
  rw [show (prod ds).toNat = ts.length from by omega]
  exact map_all ts
end Go.Proofs.YteigfipgmghgmaaGreatDoor.Vw
