/- Orders of dimensions turned back, and one behind another; no program stands here. -/
import Derived.Test.YtankpkbneojgdaaVPick
namespace Go.Proofs.Ytankpkbneojgdaa

theorem nodup_le' : ∀ (l m : List Int), l.Nodup → (∀ x ∈ l, x ∈ m) → l.length ≤ m.length
  | [], _, _, _ => by simp
  | a :: l, m, hn, hs => by
    rw [List.nodup_cons] at hn
    have h1 := hs a (by simp)
    have ih := nodup_le' l (m.erase a) hn.2 fun x hx => (List.mem_erase_of_ne (fun e => hn.1 (by rw [← e]; exact hx))).2 (hs x (by simp [hx]))
    rw [List.length_erase_of_mem h1] at ih
    have := List.length_pos_of_mem h1
    simp only [List.length_cons]
    omega

theorem IsPerm.hits {perm : List Int} {n : Nat} (h : IsPerm perm n) (j : Nat) (hj : j < n) : ∃ i, i < n ∧ perm.getD i 0 = j := by
  have hm : (j : Int) ∈ perm := by
    by_cases hm : (j : Int) ∈ perm
    · exact hm
    · have h1 := nodup_le' ((j : Int) :: perm) ((List.range n).map (fun (i : Nat) => (i : Int))) (List.nodup_cons.2 ⟨hm, h.once⟩) (fun y hy => by
        rcases List.mem_cons.1 hy with rfl | hy
        · exact List.mem_map.2 ⟨j, List.mem_range.2 hj, rfl⟩
        · have := h.rng y hy
          exact List.mem_map.2 ⟨y.toNat, List.mem_range.2 (by omega), by omega⟩)
      simp [h.len] at h1
      omega
  obtain ⟨i, hi, e⟩ := List.mem_iff_getElem.1 hm
  exact ⟨i, by rw [← h.len]; exact hi, by simp [List.getD, hi, e]⟩

theorem IsPerm.at {perm : List Int} {n : Nat} (h : IsPerm perm n) (i : Nat) (hi : i < n) : ∃ j : Nat, j < n ∧ perm.getD i 0 = j := by
  have hl := h.len
  have := h.rng (perm.getD i 0) (by rw [List.getD, List.getElem?_eq_getElem (by omega)]; simp)
  exact ⟨(perm.getD i 0).toNat, by omega, by omega⟩

theorem IsPerm.inj {perm : List Int} {n : Nat} (h : IsPerm perm n) {i j : Nat} (hi : i < n) (hj : j < n) (e : perm.getD i 0 = perm.getD j 0) : i = j := by
  have hl := h.len
  have h1 : perm[i]'(by omega) = perm[j]'(by omega) := by simpa [List.getD, show i < perm.length by omega, show j < perm.length by omega] using e
  exact (List.getElem_inj h.once).1 h1

/-- The list l turns the order perm back. -/
def Turns (perm l : List Int) (n : Nat) : Prop := l.length = n ∧ ∀ i : Nat, i < n → l.getD (perm.getD i 0).toNat 0 = i

theorem Turns.perm {perm l : List Int} {n : Nat} (h : IsPerm perm n) (ht : Turns perm l n) : IsPerm l n := by
  have hat : ∀ j, j < n → ∃ i : Nat, i < n ∧ l.getD j 0 = i ∧ perm.getD i 0 = j := fun j hj => by
    obtain ⟨i, hi, e⟩ := h.hits j hj
    refine ⟨i, hi, ?_, e⟩
    have := ht.2 i hi
    rw [e, Int.toNat_natCast] at this
    exact this
  refine ⟨ht.1, fun p hp => ?_, ?_⟩
  · obtain ⟨j, hj, e⟩ := List.mem_iff_getElem.1 hp
    obtain ⟨i, hi, e1, _⟩ := hat j (by rw [← ht.1]; exact hj)
    have : p = (i : Int) := by rw [← e, ← e1]; simp [List.getD, hj]
    omega
  · rw [List.nodup_iff_pairwise_ne, List.pairwise_iff_getElem]
    intro a b ha hb hab e
    obtain ⟨i, hi, e1, e2⟩ := hat a (by rw [← ht.1]; exact ha)
    obtain ⟨k, hk, e3, e4⟩ := hat b (by rw [← ht.1]; exact hb)
    have h1 : l.getD a 0 = l.getD b 0 := by simp [List.getD, ha, hb, e]
    have : i = k := by omega
    subst this
    omega

theorem pickL_at (l perm : List Int) (i : Nat) (hi : i < perm.length) : (pickL l perm).getD i 0 = l.getD (perm.getD i 0).toNat 0 := by simp [pickL, List.getD, hi]
theorem pickL_len (l perm : List Int) : (pickL l perm).length = perm.length := by simp [pickL]

theorem pick_back {perm b l : List Int} {n : Nat} (h : IsPerm perm n) (ht : Turns perm b n) (hl : l.length = n) : pickL (pickL l perm) b = l := by
  refine list_eq_of (by rw [pickL_len, ht.1, hl]) fun j hj => ?_
  rw [pickL_len, ht.1] at hj
  obtain ⟨i, hi, e⟩ := h.hits j hj
  have h1 := ht.2 i hi
  rw [e, Int.toNat_natCast] at h1
  rw [pickL_at _ _ _ (by rw [ht.1]; exact hj), h1, Int.toNat_natCast, pickL_at _ _ _ (by rw [h.len]; exact hi), e, Int.toNat_natCast]

theorem both_perm {p q : List Int} {n : Nat} (hp : IsPerm p n) (hq : IsPerm q n) : IsPerm (pickL p q) n := by
  refine ⟨by rw [pickL_len, hq.len], fun x hx => ?_, ?_⟩
  · obtain ⟨y, hy, rfl⟩ := List.mem_map.1 hx
    have h1 := hq.rng y hy
    have h2 := hp.len
    exact hp.rng _ (by rw [List.getD, List.getElem?_eq_getElem (by omega)]; simp)
  · rw [List.nodup_iff_pairwise_ne, List.pairwise_iff_getElem]
    intro a b ha hb hab e
    have ha' : a < n := by rw [pickL_len, hq.len] at ha; exact ha
    have hb' : b < n := by rw [pickL_len, hq.len] at hb; exact hb
    have h1 : (pickL p q).getD a 0 = (pickL p q).getD b 0 := by simp [List.getD, ha, hb, e]
    rw [pickL_at _ _ _ (by rw [hq.len]; exact ha'), pickL_at _ _ _ (by rw [hq.len]; exact hb')] at h1
    obtain ⟨x, hx, ex⟩ := hq.at a ha'
    obtain ⟨y, hy, ey⟩ := hq.at b hb'
    rw [ex, ey, Int.toNat_natCast, Int.toNat_natCast] at h1
    have h2 := hp.inj hx hy h1
    have h3 := hq.inj ha' hb' (by rw [ex, ey, h2])
    omega

theorem pick_both {p q l : List Int} {n : Nat} (hp : IsPerm p n) (hq : IsPerm q n) : pickL (pickL l p) q = pickL l (pickL p q) := by
  refine list_eq_of (by rw [pickL_len, pickL_len, pickL_len]) fun j hj => ?_
  rw [pickL_len, hq.len] at hj
  obtain ⟨x, hx, ex⟩ := hq.at j hj
  have h1 : (pickL (pickL l p) q).getD j 0 = (pickL l p).getD x 0 := by rw [pickL_at (pickL l p) q j (by rw [hq.len]; exact hj), ex, Int.toNat_natCast]
  have h2 : (pickL l p).getD x 0 = l.getD (p.getD x 0).toNat 0 := pickL_at l p x (by rw [hp.len]; exact hx)
  have h3 : (pickL l (pickL p q)).getD j 0 = l.getD ((pickL p q).getD j 0).toNat 0 := pickL_at l (pickL p q) j (by rw [pickL_len, hq.len]; exact hj)
  have h4 : (pickL p q).getD j 0 = p.getD x 0 := by rw [pickL_at p q j (by rw [hq.len]; exact hj), ex, Int.toNat_natCast]
  rw [h1, h2, h3, h4]

/-- A view that is turned may be. -/
theorem may_pick {off : Int} {ds ss perm : List Int} (hm : MayV off ds ss) (hp : IsPerm perm ds.length) (hprod : prod (pickL ds perm) = prod ds) : MayV off (pickL ds perm) (pickL ss perm) := by
  have hmem : ∀ (l : List Int), l.length = ds.length → ∀ z ∈ pickL l perm, z ∈ l := fun l hl z hz => by
    obtain ⟨p, hp', rfl⟩ := List.mem_map.1 hz
    have := hp.rng p hp'
    rw [List.getD, List.getElem?_eq_getElem (by omega)]
    simp
  exact ⟨⟨fun d hd => hm.fine.pos d (hmem ds rfl d hd), by rw [pickL_len, hp.len]; exact hm.fine.few, by rw [hprod]; exact hm.fine.le⟩, by rw [pickL_len, pickL_len], hm.lo, hm.hi, fun s hs => hm.str s (hmem ss hm.len s hs)⟩

theorem prod_perm {l m : List Int} (h : l.Perm m) : prod l = prod m := by
  induction h with
  | nil => rfl
  | cons x _ ih => simp only [prod, ih]
  | swap x y l => simp only [prod, ← Int.mul_assoc, Int.mul_comm x y]
  | trans _ _ ih1 ih2 => exact ih1.trans ih2

theorem prod_pick {ds perm : List Int} (hp : IsPerm perm ds.length) : prod (pickL ds perm) = prod ds := by
  have h1 : perm.Perm ((List.range ds.length).map (fun (i : Nat) => (i : Int))) := by
    refine (List.perm_ext_iff_of_nodup hp.once ?_).2 fun x => ⟨fun hx => ?_, fun hx => ?_⟩
    · rw [List.nodup_iff_pairwise_ne, List.pairwise_iff_getElem]
      intro i j hi hj hij
      simp only [List.getElem_map, List.getElem_range]
      omega
    · have := hp.rng x hx
      exact List.mem_map.2 ⟨x.toNat, List.mem_range.2 (by omega), by omega⟩
    · obtain ⟨j, hj, rfl⟩ := List.mem_map.1 hx
      obtain ⟨i, hi, e⟩ := hp.hits j (List.mem_range.1 hj)
      have hl := hp.len
      rw [← e, List.getD, List.getElem?_eq_getElem (by omega)]
      simp
  have h2 : pickL ds ((List.range ds.length).map (fun (i : Nat) => (i : Int))) = ds := by
    refine list_eq_of (by simp [pickL]) fun t ht => ?_
    have ht' : t < ds.length := by simpa [pickL] using ht
    simp [pickL, List.getD, ht']
  have h3 := prod_perm (h1.map (fun p => ds.getD p.toNat 0))
  simp only [pickL] at h2 ⊢
  rw [h3, h2]

theorem MayV.turn {off : Int} {ds ss perm : List Int} (hm : MayV off ds ss) (hp : IsPerm perm ds.length) : MayV off (pickL ds perm) (pickL ss perm) := may_pick hm hp (prod_pick hp)
end Go.Proofs.Ytankpkbneojgdaa
