/- What Read answers of a whole view that is spread; no program is walked here. -/
import Derived.Test.YthphkgnigfmlaaaVSpreadP
import Derived.Test.YthphkgnigfmlaaaVPerm
import Derived.Test.YthphkgnigfmlaaaSOff
namespace Go.Proofs.Ythphkgnigfmlaaa
open Go.RowKit

theorem msk_inside : ∀ (ds ls cs : List Int), ds.length = ls.length → inside ls cs = true → (∀ j, j < ds.length → ds.getD j 0 = ls.getD j 0 ∨ ds.getD j 0 = 1) → inside ds (msk ds cs) = true
  | [], [], cs, _, hi, _ => by cases cs <;> simp_all [inside, msk]
  | d :: ds, l :: ls, [], _, hi, _ => by simp [inside] at hi
  | d :: ds, l :: ls, c :: cs, hl, hi, h => by
    have h0 := h 0 (by simp)
    simp only [List.getD_cons_zero] at h0
    simp only [inside, Bool.and_eq_true, decide_eq_true_eq] at hi
    have ih := msk_inside ds ls cs (by simpa using hl) hi.2 fun j hj => by simpa using h (j + 1) (by simpa using hj)
    simp only [msk, inside, Bool.and_eq_true, decide_eq_true_eq]
    refine ⟨?_, ih⟩
    split <;> omega

theorem spread_inside {ds l : List Int} (hd : Fine ds) (hE : bcE ds l = 0) (hR : bcR ds l = l) (n : Int) : inside ds (msk ds ((crds l n).drop (l.length - ds.length))) = true := by
  obtain ⟨hroom, hcl⟩ := bc_room hE hR
  have hF := fine_of hcl
  have hdl : (l.drop (l.length - ds.length)).length = ds.length := by simp; omega
  refine msk_inside ds (l.drop (l.length - ds.length)) _ hdl.symm (by rw [crds_drop]; exact crds_inside _ _ fun z hz => hF.pos z (List.mem_of_mem_drop hz)) fun j hj => ?_
  have h3 := bc_fits hd hE hR j hj
  rw [show (l.drop (l.length - ds.length)).getD j 0 = l.getD (l.length - ds.length + j) 0 by simp only [List.getD, List.getElem?_drop]]
  exact h3

theorem spread_rd {ds l : List Int} (hd : Fine ds) (hE : bcE ds l = 0) (hR : bcR ds l = l) :
    MayV 0 l (spr ds (strd ds) l) ∧ rdE 0 l (spr ds (strd ds) l) (iota 0 (prod ds).toNat) = 0 ∧ (rdL 0 l (spr ds (strd ds) l) (iota 0 (prod ds).toNat)).length = (prod l).toNat ∧
    ∀ n : Nat, (n : Int) < prod l → (rdL 0 l (spr ds (strd ds) l) (iota 0 (prod ds).toNat)).getD n 0 = offs ds (msk ds ((crds l n).drop (l.length - ds.length))) := by
  obtain ⟨hroom, hcl⟩ := bc_room hE hR
  have hF := fine_of hcl
  have hlen := spr_length ds (strd ds) l
  have hM : MayV 0 l (spr ds (strd ds) l) := ⟨hF, hlen, by omega, by omega, spr_wf fun s hs => by have := strd_le hd s hs; omega⟩
  have hpl := plc_length l _ 0 hlen hF.pos
  have hpp := hF.prod_pos
  have hat : ∀ n : Nat, (n : Int) < prod l → 0 ≤ (plc l (spr ds (strd ds) l) 0).getD n 0 ∧ (plc l (spr ds (strd ds) l) 0).getD n 0 < prod ds := fun n hn => by
    rw [spread_at hd hE hR n hn]
    exact offs_lt (spread_inside hd hE hR n)
  have hok : rdOk 0 l (spr ds (strd ds) l) (iota 0 (prod ds).toNat) = true := by
    simp only [rdOk, mayB_iff.2 hM, Bool.true_and, iota_length, decide_eq_true_eq]
    obtain ⟨n, hn, e⟩ := List.getElem_of_mem (plc_last l _ 0 hlen hF.pos)
    have h1 := hat n (by rw [hpl] at hn; omega)
    rw [List.getD, List.getElem?_eq_getElem hn, Option.getD_some, e] at h1
    omega
  refine ⟨hM, by simp [rdE, hok], by simp only [rdL, hok, if_true, shows, List.length_map, hpl], fun n hn => ?_⟩
  have h1 := hat n hn
  have hn2 : n < (plc l (spr ds (strd ds) l) 0).length := by rw [hpl]; omega
  rw [← spread_at hd hE hR n hn]
  simp only [rdL, hok, if_true, shows]
  rw [List.getD, List.getElem?_map, List.getElem?_eq_getElem hn2]
  rw [List.getD, List.getElem?_eq_getElem hn2] at h1 ⊢
  simp only [Option.map_some, Option.getD_some] at h1 ⊢
  rw [iota_getD 0 _ _ (by omega)]
  omega
end Go.Proofs.Ythphkgnigfmlaaa
