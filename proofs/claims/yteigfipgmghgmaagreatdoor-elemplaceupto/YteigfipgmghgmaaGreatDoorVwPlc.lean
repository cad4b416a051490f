/- The places that a view shows, one behind the other; no program stands here. -/
import Derived.Test.YteigfipgmghgmaaGreatDoorVwBase
namespace Go.Proofs.YteigfipgmghgmaaGreatDoor.Vw

/-- How far the last place stands behind the first one. -/
def lst : List Int → List Int → Int
  | d :: ds, s :: ss => (d - 1) * s + lst ds ss
  | _, _ => 0

/-- The places, row by row, from p on. -/
def plc : List Int → List Int → Int → List Int
  | [], _, p => [p]
  | d :: ds, s :: ss, p => (List.range d.toNat).flatMap (fun (i : Nat) => plc ds ss (p + i * s))
  | _ :: _, [], _ => []

theorem flat_length {α : Type} (f : Nat → List α) (n : Nat) : ∀ (t : Nat), (∀ i, i < t → (f i).length = n) → ((List.range t).flatMap f).length = t * n
  | 0, _ => by simp
  | t + 1, h => by
    rw [List.range_succ, List.flatMap_append, List.length_append, flat_length f n t fun i hi => h i (by omega)]
    simp only [List.flatMap_cons, List.flatMap_nil, List.append_nil, h t (by omega)]
    rw [Nat.add_mul, Nat.one_mul]

theorem plc_length : ∀ (ds ss : List Int) (p : Int), ss.length = ds.length → (∀ d ∈ ds, 1 ≤ d) → (plc ds ss p).length = (prod ds).toNat
  | [], _, _, _, _ => by simp [plc, prod]
  | d :: ds, s :: ss, p, hl, hp => by
    have h1 := hp d (by simp)
    have h2 := prod_pos ds fun y hy => hp y (by simp [hy])
    rw [plc, flat_length _ (prod ds).toNat _ fun i _ => plc_length ds ss _ (by simpa using hl) fun y hy => hp y (by simp [hy]), prod]
    obtain ⟨a, rfl⟩ : ∃ a : Nat, d = a := ⟨d.toNat, by omega⟩
    obtain ⟨b, hb⟩ : ∃ b : Nat, prod ds = b := ⟨(prod ds).toNat, by omega⟩
    rw [hb, ← Int.natCast_mul]
    simp only [Int.toNat_natCast]
  | _ :: _, [], _, hl, _ => by simp at hl

theorem lst_nonneg : ∀ (ds ss : List Int), (∀ d ∈ ds, 1 ≤ d) → (∀ s ∈ ss, 0 ≤ s) → 0 ≤ lst ds ss
  | [], _, _, _ => by simp [lst]
  | _ :: _, [], _, _ => by simp [lst]
  | d :: ds, s :: ss, hd, hs => by
    have h1 := hd d (by simp)
    have h2 := hs s (by simp)
    have h3 := lst_nonneg ds ss (fun y hy => hd y (by simp [hy])) (fun y hy => hs y (by simp [hy]))
    have h4 : 0 ≤ (d - 1) * s := Int.mul_nonneg (by omega) h2
    simp only [lst]
    omega

theorem step_bound {d s : Int} {i : Nat} (hi : (i : Int) < d) (hs : 0 ≤ s) : 0 ≤ (i : Int) * s ∧ (i : Int) * s ≤ (d - 1) * s :=
  ⟨Int.mul_nonneg (by omega) hs, Int.mul_le_mul_of_nonneg_right (by omega) hs⟩

theorem plc_mem : ∀ (ds ss : List Int) (p : Int), (∀ s ∈ ss, 0 ≤ s) → (∀ d ∈ ds, 1 ≤ d) → ∀ x ∈ plc ds ss p, p ≤ x ∧ x ≤ p + lst ds ss
  | [], ss, p, _, _, x, hx => by
    simp only [plc, List.mem_singleton] at hx
    simp [lst, hx]
  | d :: ds, s :: ss, p, hs, hd, x, hx => by
    simp only [plc, List.mem_flatMap, List.mem_range] at hx
    obtain ⟨i, hi, hx⟩ := hx
    have h1 := hd d (by simp)
    have h2 := hs s (by simp)
    obtain ⟨h3, h4⟩ := plc_mem ds ss _ (fun y hy => hs y (by simp [hy])) (fun y hy => hd y (by simp [hy])) x hx
    obtain ⟨h5, h6⟩ := step_bound (d := d) (i := i) (by omega) h2
    simp only [lst]
    omega
  | _ :: _, [], _, _, _, x, hx => by simp [plc] at hx

theorem range_prefix {α : Type} (f : Nat → List α) {t n : Nat} (h : t < n) {q : List α} (hq : q <+: f t) : (List.range t).flatMap f ++ q <+: (List.range n).flatMap f := by
  obtain ⟨r, hr⟩ := hq
  have e : List.range n = List.range t ++ (t :: (List.range (n - t - 1)).map (fun i => t + 1 + i)) := by
    have e1 : n = t + (1 + (n - t - 1)) := by omega
    rw [e1, List.range_add, List.range_add]
    simp [Nat.add_assoc, Function.comp_def]
  rw [e, List.flatMap_append, List.flatMap_cons, ← hr]
  refine ⟨r ++ ((List.range (n - t - 1)).map (fun i => t + 1 + i)).flatMap f, ?_⟩
  simp [List.append_assoc]

theorem range_flat_succ {α : Type} (f : Nat → List α) (t : Nat) : (List.range (t + 1)).flatMap f = (List.range t).flatMap f ++ f t := by
  rw [List.range_succ, List.flatMap_append]
  simp

theorem lst_drop {ds ss : List Int} (hl : ss.length = ds.length) {k : Nat} (hk : k < ds.length) : lst (ds.drop k) (ss.drop k) = (ds.getD k 0 - 1) * ss.getD k 0 + lst (ds.drop (k + 1)) (ss.drop (k + 1)) := by
  rw [drop_step ds k hk, drop_step ss k (by omega)]
  rfl

theorem plc_drop {ds ss : List Int} (hl : ss.length = ds.length) {k : Nat} (hk : k < ds.length) (p : Int) :
    plc (ds.drop k) (ss.drop k) p = (List.range (ds.getD k 0).toNat).flatMap (fun (i : Nat) => plc (ds.drop (k + 1)) (ss.drop (k + 1)) (p + i * ss.getD k 0)) := by
  rw [drop_step ds k hk, drop_step ss k (by omega)]
  rfl

theorem plc_end {ds ss : List Int} {k : Nat} (hk : ds.length ≤ k) (p : Int) : plc (ds.drop k) (ss.drop k) p = [p] := by
  rw [List.drop_of_length_le hk]
  rfl
end Go.Proofs.YteigfipgmghgmaaGreatDoor.Vw
