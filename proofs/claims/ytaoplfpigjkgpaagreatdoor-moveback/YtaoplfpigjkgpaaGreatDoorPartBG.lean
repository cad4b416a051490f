/- Joined texts: VwWhole, VwPerm. -/
import Derived.Test.YtaoplfpigjkgpaaGreatDoorPartBC
import Derived.Test.YtaoplfpigjkgpaaGreatDoorPartAB
import Derived.Test.YtaoplfpigjkgpaaGreatDoorPartBF
namespace Go.Proofs.YtaoplfpigjkgpaaGreatDoor.Vw

open Go.RowKit

def iota (p : Int) (n : Nat) : List Int := (List.range n).map (fun (i : Nat) => p + i)

theorem iota_length (p : Int) (n : Nat) : (iota p n).length = n := by simp [iota]
theorem iota_add (p : Int) (a b : Nat) : iota p (a + b) = iota p a ++ iota (p + a) b := by
  simp only [iota, List.range_add, List.map_append, List.map_map]
  congr 1
  refine List.map_congr_left fun i _ => ?_
  simp only [Function.comp_apply, Int.natCast_add]
  omega
theorem iota_succ (p : Int) (n : Nat) : iota p (n + 1) = iota p n ++ [p + n] := by
  rw [iota_add]
  simp [iota]
theorem iota_getD (p : Int) (n i : Nat) (h : i < n) : (iota p n).getD i 0 = p + i := by simp [iota, List.getD, h]

theorem iota_flat (p : Int) (m : Nat) : ∀ d : Nat, (List.range d).flatMap (fun (i : Nat) => iota (p + i * (m : Int)) m) = iota p (d * m)
  | 0 => by simp [iota]
  | d + 1 => by
    rw [range_flat_succ, iota_flat p m d, Nat.add_mul, Nat.one_mul, iota_add, Int.natCast_mul]

theorem plc_whole : ∀ (ds : List Int) (p : Int), (∀ d ∈ ds, 1 ≤ d) → plc ds (strd ds) p = iota p (prod ds).toNat
  | [], p, _ => by simp [plc, prod, iota]
  | d :: ds, p, h => by
    have hd := h d (by simp)
    have hp := prod_pos ds fun y hy => h y (by simp [hy])
    obtain ⟨a, rfl⟩ : ∃ a : Nat, d = a := ⟨d.toNat, by omega⟩
    obtain ⟨b, hb⟩ : ∃ b : Nat, prod ds = b := ⟨(prod ds).toNat, by omega⟩
    simp only [plc, strd, prod]
    rw [show (fun (i : Nat) => plc ds (strd ds) (p + i * prod ds)) = fun (i : Nat) => iota (p + i * (b : Int)) b from by
      funext i
      rw [plc_whole ds _ fun y hy => h y (by simp [hy]), hb]
      simp, hb, ← Int.natCast_mul]
    simp only [Int.toNat_natCast]
    exact iota_flat p b a

theorem may_whole {ds : List Int} (h : Fine ds) : MayV 0 ds (strd ds) :=
  ⟨h, strd_length ds, by omega, by omega, fun s hs => by have := strd_le h s hs; omega⟩

end Go.Proofs.YtaoplfpigjkgpaaGreatDoor.Vw

namespace Go.Proofs.YtaoplfpigjkgpaaGreatDoor.Vw

theorem flat_append_perm {α β : Type} (f g : α → List β) : ∀ l : List α, (l.flatMap f ++ l.flatMap g).Perm (l.flatMap fun x => f x ++ g x)
  | [] => by simp
  | x :: l => by
    have ih := flat_append_perm f g l
    simp only [List.flatMap_cons, List.append_assoc]
    refine List.Perm.append_left _ ?_
    refine (List.perm_append_comm_assoc _ _ _).trans ?_
    exact List.Perm.append_left _ ih

theorem flat_comm {α β γ : Type} (f : α → β → List γ) (m : List β) : ∀ l : List α, (l.flatMap fun a => m.flatMap fun b => f a b).Perm (m.flatMap fun b => l.flatMap fun a => f a b)
  | [] => by simp
  | a :: l => by
    simp only [List.flatMap_cons]
    exact (List.Perm.append_left _ (flat_comm f m l)).trans (flat_append_perm _ _ m)

theorem flat_perm {α β : Type} {f g : α → List β} : ∀ l : List α, (∀ a, (f a).Perm (g a)) → (l.flatMap f).Perm (l.flatMap g)
  | [], _ => by simp
  | a :: l, h => by
    simp only [List.flatMap_cons]
    exact (h a).append (flat_perm l h)

def plcP : List (Int × Int) → Int → List Int
  | [], p => [p]
  | x :: l, p => (List.range x.1.toNat).flatMap (fun (i : Nat) => plcP l (p + i * x.2))

theorem plc_zip : ∀ (ds ss : List Int) (p : Int), ss.length = ds.length → plc ds ss p = plcP (ds.zip ss) p
  | [], [], _, _ => rfl
  | d :: ds, s :: ss, p, h => by
    simp only [plc, List.zip_cons_cons, plcP]
    congr 1
    funext i
    exact plc_zip ds ss _ (by simpa using h)
  | [], _ :: _, _, h => by simp at h
  | _ :: _, [], _, h => by simp at h

theorem plcP_perm {l m : List (Int × Int)} (h : l.Perm m) : ∀ p, (plcP l p).Perm (plcP m p) := by
  induction h with
  | nil => intro p; exact List.Perm.refl _
  | cons x _ ih => intro p; exact flat_perm _ fun i => ih _
  | swap x y l =>
    intro p
    simp only [plcP]
    refine (flat_comm (fun (i : Nat) (j : Nat) => plcP l (p + i * y.2 + j * x.2)) _ _).trans (flat_perm _ fun j => flat_perm _ fun i => ?_)
    rw [show p + (i : Int) * y.2 + j * x.2 = p + j * x.2 + i * y.2 by omega]
  | trans _ _ ih1 ih2 => intro p; exact (ih1 p).trans (ih2 p)

theorem nodup_le : ∀ (l m : List Int), l.Nodup → (∀ x ∈ l, x ∈ m) → l.length ≤ m.length
  | [], _, _, _ => by simp
  | a :: l, m, hn, hs => by
    rw [List.nodup_cons] at hn
    have h1 := hs a (by simp)
    have ih := nodup_le l (m.erase a) hn.2 fun x hx => (List.mem_erase_of_ne (fun e => hn.1 (by rw [← e]; exact hx))).2 (hs x (by simp [hx]))
    rw [List.length_erase_of_mem h1] at ih
    have := List.length_pos_of_mem h1
    simp only [List.length_cons]
    omega

theorem mem_iota {p x : Int} {n : Nat} : x ∈ iota p n ↔ p ≤ x ∧ x < p + n := by
  simp only [iota, List.mem_map, List.mem_range]
  exact ⟨fun ⟨i, hi, e⟩ => by omega, fun ⟨h1, h2⟩ => ⟨(x - p).toNat, by omega, by omega⟩⟩

theorem iota_nodup (p : Int) : ∀ n : Nat, (iota p n).Nodup
  | 0 => by simp [iota]
  | n + 1 => by
    rw [iota_succ, List.nodup_append]
    refine ⟨iota_nodup p n, by simp, fun a ha b hb e => ?_⟩
    have h1 := mem_iota.1 ha
    simp only [List.mem_singleton] at hb
    omega

theorem IsPerm.perm {perm : List Int} {n : Nat} (h : IsPerm perm n) : perm.Perm (iota 0 n) := by
  refine (List.perm_ext_iff_of_nodup h.once (iota_nodup 0 n)).2 fun x => ⟨fun hx => mem_iota.2 (by have := h.rng x hx; omega), fun hx => ?_⟩
  by_cases hm : x ∈ perm
  · exact hm
  · have h1 := nodup_le (x :: perm) (iota 0 n) (List.nodup_cons.2 ⟨hm, h.once⟩) (fun y hy => by
      rcases List.mem_cons.1 hy with rfl | hy
      · exact hx
      · exact mem_iota.2 (by have := h.rng y hy; omega))
    rw [iota_length, List.length_cons, h.len] at h1
    omega

theorem zip_iota (ds ss : List Int) (h : ss.length = ds.length) : (iota 0 ds.length).map (fun p => (ds.getD p.toNat 0, ss.getD p.toNat 0)) = ds.zip ss := by
  refine List.ext_getElem (by simp [iota_length, h]) fun i h1 h2 => ?_
  have hi : i < ds.length := by simpa [iota_length] using h1
  have e : (iota 0 ds.length)[i]'(by rw [iota_length]; exact hi) = (i : Int) := by simp [iota]
  rw [List.getElem_map, e, List.getElem_zip]
  simp [List.getD, hi, show i < ss.length by omega]

theorem pick_zip (ds ss perm : List Int) : (pickL ds perm).zip (pickL ss perm) = perm.map (fun p => (ds.getD p.toNat 0, ss.getD p.toNat 0)) := by
  simp only [pickL]
  induction perm with
  | nil => rfl
  | cons p l ih => simp only [List.map_cons, List.zip_cons_cons, ih]

theorem pick_length (l perm : List Int) : (pickL l perm).length = perm.length := by simp [pickL]

theorem plc_pick {ds ss perm : List Int} (hl : ss.length = ds.length) (hp : IsPerm perm ds.length) (p : Int) : (plc (pickL ds perm) (pickL ss perm) p).Perm (plc ds ss p) := by
  rw [plc_zip _ _ _ (by rw [pick_length, pick_length]), plc_zip _ _ _ hl, pick_zip, ← zip_iota ds ss hl]
  exact plcP_perm (hp.perm.map _) p

theorem plc_last : ∀ (ds ss : List Int) (p : Int), ss.length = ds.length → (∀ d ∈ ds, 1 ≤ d) → p + lst ds ss ∈ plc ds ss p
  | [], [], p, _, _ => by simp [plc, lst]
  | d :: ds, s :: ss, p, hl, h => by
    have hd := h d (by simp)
    simp only [plc, lst, List.mem_flatMap, List.mem_range]
    refine ⟨(d - 1).toNat, by omega, ?_⟩
    have ih := plc_last ds ss (p + ((d - 1).toNat : Int) * s) (by simpa using hl) fun y hy => h y (by simp [hy])
    rw [show (((d - 1).toNat : Nat) : Int) = d - 1 by omega] at ih ⊢
    rw [← Int.add_assoc]
    exact ih
  | [], _ :: _, _, hl, _ => by simp at hl
  | _ :: _, [], _, hl, _ => by simp at hl

theorem pick_mem {l perm : List Int} {n : Nat} (hp : IsPerm perm n) (hn : l.length = n) : ∀ z ∈ pickL l perm, z ∈ l := by
  intro z hz
  obtain ⟨p, hp', rfl⟩ := List.mem_map.1 hz
  have := hp.rng p hp'
  rw [List.getD, List.getElem?_eq_getElem (by omega)]
  simp

theorem turned_whole {ds perm : List Int} (hF : Fine ds) (hp : IsPerm perm ds.length) :
    MayV 0 (pickL ds perm) (pickL (strd ds) perm) ∧ rdE 0 (pickL ds perm) (pickL (strd ds) perm) (iota 0 (prod ds).toNat) = 0 ∧
    (rdL 0 (pickL ds perm) (pickL (strd ds) perm) (iota 0 (prod ds).toNat)).Perm (iota 0 (prod ds).toNat) := by
  have hP := plc_pick (strd_length ds) hp 0
  rw [plc_whole ds 0 hF.pos] at hP
  have hpos : ∀ d ∈ pickL ds perm, 1 ≤ d := fun d hd => hF.pos d (pick_mem hp rfl d hd)
  have hlen : (pickL (strd ds) perm).length = (pickL ds perm).length := by rw [pick_length, pick_length]
  have hprod : prod (pickL ds perm) = prod ds := by
    have h1 := hP.length_eq
    rw [plc_length _ _ _ hlen hpos, iota_length] at h1
    have h2 := prod_pos _ hpos
    have h3 := hF.prod_pos
    omega
  have hM : MayV 0 (pickL ds perm) (pickL (strd ds) perm) :=
    ⟨⟨hpos, by rw [pick_length, hp.len]; exact hF.few, by rw [hprod]; exact hF.le⟩, hlen, by omega, by omega, fun s hs => by have := strd_le hF s (pick_mem hp (strd_length ds) s hs); omega⟩
  have hin : ∀ x ∈ plc (pickL ds perm) (pickL (strd ds) perm) 0, 0 ≤ x ∧ x < (prod ds).toNat := fun x hx => by have := mem_iota.1 (hP.mem_iff.1 hx); omega
  have hlast := hin _ (plc_last _ _ 0 hlen hpos)
  have hok : rdOk 0 (pickL ds perm) (pickL (strd ds) perm) (iota 0 (prod ds).toNat) = true := by
    simp only [rdOk, mayB_iff.2 hM, Bool.true_and, iota_length, decide_eq_true_eq]
    exact hlast.2
  refine ⟨hM, by simp [rdE, hok], ?_⟩
  simp only [rdL, hok, if_true, shows]
  rw [List.map_congr_left (g := id) fun x hx => by
    have h1 := hin x hx
    rw [iota_getD 0 _ x.toNat (by omega)]
    simp only [id]
    omega]
  simpa using hP

end Go.Proofs.YtaoplfpigjkgpaaGreatDoor.Vw
