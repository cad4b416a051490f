/- What a column shows at a place, over plain lists. -/
import Derived.Test.YteigfipgmghgmaaGreatDoorVwSpreadP
import Derived.Test.YteigfipgmghgmaaGreatDoorSROff
import Derived.Test.YteigfipgmghgmaaGreatDoorEPure
namespace Go.Proofs.YteigfipgmghgmaaGreatDoor
open Go.RowKit

theorem msk_insideE : ∀ (ds ls cs : List Int), ds.length = ls.length → inside ls cs = true → (∀ j, j < ds.length → ds.getD j 0 = ls.getD j 0 ∨ ds.getD j 0 = 1) → inside ds (Vw.msk ds cs) = true
  | [], [], cs, _, hi, _ => by cases cs <;> simp_all [inside, Vw.msk]
  | d :: ds, l :: ls, [], _, hi, _ => by simp [inside] at hi
  | d :: ds, l :: ls, c :: cs, hl, hi, h => by
    have h0 := h 0 (by simp)
    simp only [List.getD_cons_zero] at h0
    simp only [inside, Bool.and_eq_true, decide_eq_true_eq] at hi
    have ih := msk_insideE ds ls cs (by simpa using hl) hi.2 fun j hj => by simpa using h (j + 1) (by simpa using hj)
    simp only [Vw.msk, inside, Bool.and_eq_true, decide_eq_true_eq]
    refine ⟨?_, ih⟩
    split <;> omega

theorem msk_lenE : ∀ (ds cs : List Int), (Vw.msk ds cs).length = cs.length
  | [], cs => by simp [Vw.msk]
  | _ :: _, [] => by simp [Vw.msk]
  | d :: ds, c :: cs => by simp [Vw.msk, msk_lenE ds cs]

theorem msk_atE : ∀ (ds cs : List Int) (t : Nat), cs.length = ds.length → t < ds.length → (Vw.msk ds cs).getD t 0 = if ds.getD t 0 = 1 then 0 else cs.getD t 0
  | [], _, t, _, h => by simp at h
  | d :: ds, [], t, h, _ => by simp at h
  | d :: ds, c :: cs, 0, _, _ => by simp [Vw.msk]
  | d :: ds, c :: cs, t + 1, h1, h2 => by
    have ih := msk_atE ds cs t (by simpa using h1) (by simpa using h2)
    simpa [Vw.msk] using ih

theorem inside_memE : ∀ {zs cs : List Int}, inside zs cs = true → ∀ c ∈ cs, 0 ≤ c ∧ ∃ z ∈ zs, c < z
  | [], [], _, c, hc => by simp at hc
  | z :: zs, x :: cs, h, c, hc => by
    simp only [inside, Bool.and_eq_true, decide_eq_true_eq] at h
    rcases List.mem_cons.1 hc with rfl | hc
    · exact ⟨h.1.1, z, by simp, h.1.2⟩
    · obtain ⟨h1, y, hy, h2⟩ := inside_memE h.2 c hc
      exact ⟨h1, y, by simp [hy], h2⟩
  | [], _ :: _, h, _, _ => by simp [inside] at h
  | _ :: _, [], h, _, _ => by simp [inside] at h

theorem le_prodE : ∀ {zs : List Int}, (∀ z ∈ zs, 1 ≤ z) → ∀ z ∈ zs, z ≤ prod zs
  | y :: zs, h, z, hz => by
    have h1 := h y (by simp)
    have h2 := prod_pos zs (fun x hx => h x (by simp [hx]))
    rcases List.mem_cons.1 hz with rfl | hz
    · have := le_mul_right h2 (show 0 ≤ z by omega)
      simpa [prod] using this
    · have h3 := le_prodE (fun x hx => h x (by simp [hx])) z hz
      have h4 := le_mul_left h1 (show 0 ≤ prod zs by omega)
      simp only [prod]
      omega

theorem off_inE {ds cs : List Int} (hd : Fine ds) (h : inside ds cs = true) : offE ds cs = 0 ∧ offN ds cs = offs ds cs := by
  have h1 : offE ds cs = 0 := by simp [offE, hd.ok, h]
  exact ⟨h1, by simp [offN, h1]⟩

/-- The coordinates of an element of what is spread to l, at a place of l. -/
def ownC (ds l : List Int) (j : Nat) : List Int := Vw.msk ds ((crds l j).drop (l.length - ds.length))

theorem as_at {ds ts l : List Int} (h : asE ds ts l = 0) (j : Nat) (hj : (j : Int) < prod l) : (asL ds ts l).getD j 0 = ts.getD (offs ds (ownC ds l j)).toNat 0 ∧ inside ds (ownC ds l j) = true ∧ cntE ds = 0 ∧ ds.length ≤ l.length ∧ (offs ds (ownC ds l j)).toNat < ts.length := by
  have h0 := h
  obtain ⟨hok, hl⟩ := asE_inv h
  unfold asE at h
  by_cases h1 : cntE ds ≠ 0
  · rw [if_pos h1] at h; exact absurd h h1
  rw [if_neg h1] at h
  by_cases h2 : bcE ds l ≠ 0
  · rw [if_pos h2] at h; exact absurd h h2
  rw [if_neg h2] at h
  by_cases h3 : bcR ds l = l
  · have hc : cntE ds = 0 := by omega
    have hE : bcE ds l = 0 := by omega
    have hd := fine_of hc
    obtain ⟨hroom, hcl⟩ := Vw.bc_room hE h3
    have hF := fine_of hcl
    have hdl : (l.drop (l.length - ds.length)).length = ds.length := by simp; omega
    have hin : inside ds (ownC ds l j) = true := by
      refine msk_insideE ds (l.drop (l.length - ds.length)) _ hdl.symm (by rw [Vw.crds_drop]; exact crds_inside _ _ fun z hz => hF.pos z (List.mem_of_mem_drop hz)) fun i hi => ?_
      have h3 := Vw.bc_fits hd hE h3 i hi
      rw [show (l.drop (l.length - ds.length)).getD i 0 = l.getD (l.length - ds.length + i) 0 by simp only [List.getD, List.getElem?_drop]]
      exact h3
    have hat := Vw.spread_at hd hE h3 j hj
    have hpl := Vw.plc_length l (Vw.spr ds (strd ds) l) 0 (Vw.spr_length _ _ _) hF.pos
    have hn2 : j < (Vw.plc l (Vw.spr ds (strd ds) l) 0).length := by rw [hpl]; omega
    refine ⟨?_, hin, hc, hroom, ?_⟩
    · rw [hl]
      unfold Vw.shows
      rw [List.getD, List.getElem?_map, List.getElem?_eq_getElem hn2]
      rw [List.getD, List.getElem?_eq_getElem hn2] at hat
      simp only [Option.map_some, Option.getD_some] at hat ⊢
      rw [hat]
      rfl
    · have hlt := offs_lt hin
      simp only [Vw.rdOk, Bool.and_eq_true, decide_eq_true_eq] at hok
      have hm := Vw.mayB_iff.1 hok.1
      obtain ⟨-, hx⟩ := Vw.plc_mem l (Vw.spr ds (strd ds) l) 0 (fun y hy => (hm.str y hy).1) hm.fine.pos _ (List.getElem_mem hn2)
      rw [List.getD, List.getElem?_eq_getElem hn2] at hat
      simp only [Option.getD_some] at hat
      rw [hat] at hx
      unfold ownC at hlt ⊢
      omega
  · rw [if_neg h3] at h
    exact absurd h (by decide)
end Go.Proofs.YteigfipgmghgmaaGreatDoor
