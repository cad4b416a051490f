/- A part. -/
import Derived.Test.YtkefdkboejimeaaGreatDoorPartAZ
import Derived.Test.YtkefdkboejimeaaGreatDoorPartBB
import Derived.Test.YtkefdkboejimeaaGreatDoorPartAB
namespace Go.Proofs.YtkefdkboejimeaaGreatDoor.Vw
open Go.RowKit
def jd7 (p : Int) (n : Nat) : List Int := (List.range n).map (fun (i : Nat) => p + i)
theorem jdm (p : Int) (n : Nat) : (jd7 p n).length = n := by simp [jd7]
theorem jiD (p : Int) (a b : Nat) : jd7 p (a + b) = jd7 p a ++ jd7 (p + a) b := by
 simp only [jd7, List.range_add, List.map_append, List.map_map]
 congr 1
 refine List.map_congr_left fun i _ => ?_
 simp only [Function.comp_apply, Int.natCast_add]
 omega
theorem jlq (p : Int) (n : Nat) : jd7 p (n + 1) = jd7 p n ++ [p + n] := by
 rw [jiD]
 simp [jd7]
theorem jp6 (p : Int) (n i : Nat) (h : i < n) : (jd7 p n).getD i 0 = p + i := by simp [jd7, List.getD, h]
theorem jgR (p : Int) (m : Nat) : ∀ d : Nat, (List.range d).flatMap (fun (i : Nat) => jd7 (p + i * (m : Int)) m) = jd7 p (d * m)
 | 0 => by simp [jd7]
 | d + 1 => by
  rw [jcL, jgR p m d, Nat.add_mul, Nat.one_mul, jiD, Int.natCast_mul]
theorem jgS : ∀ (ds : List Int) (p : Int), (∀ d ∈ ds, 1 ≤ d) → plc ds (jbs ds) p = jd7 p (jaF ds).toNat
 | [], p, _ => by simp [plc, jaF, jd7]
 | d :: ds, p, h => by
  have hd := h d (by simp)
  have hp := prod_pos ds fun y hy => h y (by simp [hy])
  obtain ⟨a, rfl⟩ : ∃ a : Nat, d = a := ⟨d.toNat, by omega⟩
  obtain ⟨b, hb⟩ : ∃ b : Nat, jaF ds = b := ⟨(jaF ds).toNat, by omega⟩
  simp only [plc, jbs, jaF]
  rw [show (fun (i : Nat) => plc ds (jbs ds) (p + i * jaF ds)) = fun (i : Nat) => jd7 (p + i * (b : Int)) b from by
   funext i
   rw [jgS ds _ fun y hy => h y (by simp [hy]), hb]
   simp, hb, ← Int.natCast_mul]
  simp only [Int.toNat_natCast]
  exact jgR p b a
theorem jgT : ∀ (ds : List Int), (∀ d ∈ ds, 1 ≤ d) → lst ds (jbs ds) = jaF ds - 1
 | [], _ => by simp [lst, jaF]
 | d :: ds, h => by
  have ih := jgT ds fun y hy => h y (by simp [hy])
  simp only [lst, jbs, jaF, ih, Int.sub_mul, Int.one_mul]
  omega
theorem may_whole {ds : List Int} (h : Fine ds) : MayV 0 ds (jbs ds) :=
 ⟨h, jct ds, by omega, by omega, fun s hs => by have := jjR h s hs; omega⟩
theorem spr_same {ds ss : List Int} (h : ss.length = ds.length) : spr ds ss ds = ss := by
 unfold spr
 rw [Nat.sub_self]
 refine List.ext_getElem (by simp [h]) fun i h1 h2 => ?_
 simp only [List.getElem_map, List.getElem_range, Nat.zero_le, Nat.sub_zero, true_and, if_true]
 simp [List.getD, List.getElem?_eq_getElem h2]
theorem jpd (l : List Int) : (jd7 0 l.length).map (fun x => l.getD x.toNat 0) = l := by
 refine List.ext_getElem (by simp [jdm]) fun i h1 h2 => ?_
 have e : (jd7 0 l.length)[i]'(by rw [jdm]; exact h2) = (i : Int) := by simp [jd7]
 rw [List.getElem_map, e, Int.toNat_natCast]
 simp [List.getD, List.getElem?_eq_getElem h2]
theorem rd_all {ds ts : List Int} (h : Fine ds) (hl : (ts.length : Int) = jaF ds) : rdE 0 ds (jbs ds) ts = 0 ∧ rdL 0 ds (jbs ds) ts = ts := by
 have hp := h.prod_pos
 have hok : rdOk 0 ds (jbs ds) ts = true := by
  simp only [rdOk, mayB_iff.2 (may_whole h), Bool.true_and, jgT ds h.pos, decide_eq_true_eq]
  omega
 refine ⟨by simp [rdE, hok], ?_⟩
 simp only [rdL, hok, if_true, shows, jgS ds 0 h.pos]
 rw [show (jaF ds).toNat = ts.length from by omega]
 exact jpd ts
end Go.Proofs.YtkefdkboejimeaaGreatDoor.Vw
namespace Go.Proofs.YtkefdkboejimeaaGreatDoor.Vw
theorem jiE : ∀ (l m : List Int), l.Nodup → (∀ x ∈ l, x ∈ m) → l.length ≤ m.length
 | [], _, _, _ => by simp
 | a :: l, m, hn, hs => by
  rw [List.nodup_cons] at hn
  have h1 := hs a (by simp)
  have ih := jiE l (m.erase a) hn.2 fun x hx => (List.mem_erase_of_ne (fun e => hn.1 (by rw [← e]; exact hx))).2 (hs x (by simp [hx]))
  rw [List.length_erase_of_mem h1] at ih
  have := List.length_pos_of_mem h1
  simp only [List.length_cons]
  omega
theorem jf7 {p x : Int} {n : Nat} : x ∈ jd7 p n ↔ p ≤ x ∧ x < p + n := by
 simp only [jd7, List.mem_map, List.mem_range]
 exact ⟨fun ⟨i, hi, e⟩ => by omega, fun ⟨h1, h2⟩ => ⟨(x - p).toNat, by omega, by omega⟩⟩
theorem jfy (p : Int) : ∀ n : Nat, (jd7 p n).Nodup
 | 0 => by simp [jd7]
 | n + 1 => by
  rw [jlq, List.nodup_append]
  refine ⟨jfy p n, by simp, fun a ha b hb e => ?_⟩
  have h1 := jf7.1 ha
  simp only [List.mem_singleton] at hb
  omega
theorem IsPerm.perm {perm : List Int} {n : Nat} (h : IsPerm perm n) : perm.Perm (jd7 0 n) := by
 refine (List.perm_ext_iff_of_nodup h.once (jfy 0 n)).2 fun x => ⟨fun hx => jf7.2 (by have := h.rng x hx; omega), fun hx => ?_⟩
 by_cases hm : x ∈ perm
 ·exact hm
 ·have h1 := jiE (x :: perm) (jd7 0 n) (List.nodup_cons.2 ⟨hm, h.once⟩) (fun y hy => by
    rcases List.mem_cons.1 hy with rfl | hy
    ·exact hx
    ·exact jf7.2 (by have := h.rng y hy; omega))
  rw [jdm, List.length_cons, h.len] at h1
  omega
end Go.Proofs.YtkefdkboejimeaaGreatDoor.Vw
