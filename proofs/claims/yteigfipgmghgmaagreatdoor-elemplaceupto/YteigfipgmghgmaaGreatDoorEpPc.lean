/- Inputs cut to one place, over plain lists. -/
import Derived.Test.YteigfipgmghgmaaGreatDoorEpDo
import Derived.Test.YteigfipgmghgmaaGreatDoorEpPl
namespace Go.Proofs.YteigfipgmghgmaaGreatDoor
open Go.RowKit

theorem vin_scal : ∀ (vs us : List (Val × List Int)), vinP vs = .ok () → us.map (·.1.ty) = vs.map (·.1.ty) → (∀ u ∈ us, u.2 = []) → vinP us = .ok ()
  | [], [], _, _, _ => rfl
  | v :: vs, u :: us, h, ht, hd => by
    simp only [List.map_cons, List.cons.injEq] at ht
    simp only [vinP] at h ⊢
    obtain ⟨a, h1, h⟩ := bind_ok h
    obtain ⟨b, h2, h⟩ := bind_ok h
    rw [ht.1, h1, hd u (List.mem_cons_self ..), vin_scal vs us h ht.2 (fun q hq => hd q (List.mem_cons_of_mem _ hq))]
    rfl
  | [], u :: us, _, h, _ => by simp at h
  | v :: vs, [], _, h, _ => by simp at h

theorem dims_scal {n : Nod} {A : At} {D : List (List Int)} (h : ElOp n) (hD : ∀ d ∈ D, d = []) : dimsG A D (grp n.op).2 = .ok [] := by
  have g : ∀ i, D.getD i [] = [] := fun i => by
    by_cases hi : i < D.length
    · rw [List.getD, List.getElem?_eq_getElem hi]; exact hD _ (List.getElem_mem hi)
    · rw [List.getD, List.getElem?_eq_none (by omega)]; rfl
  have s : spreadP [] [] = .ok [] := by kernel_rfl
  rcases h with h | h | h <;> rw [h]
  · show Except.ok (D.getD 0 []) = _; rw [g]
  · show spreadP (D.getD 0 []) (D.getD 1 []) = _; rw [g, g, s]
  · show (spreadP (D.getD 0 []) (D.getD 1 [])).bind (fun l => spreadP l (D.getD 2 [])) = _; rw [g, g, g, s]; exact s

/-- Of scalars of the same types the node makes a scalar of the same type. -/
theorem out_scal {n : Nod} {ins : List ByteArray} {A : At} {ps us : List (Ten × Tq)} {ty : Int} {l : List Int} (ok : OutOk n ins A (ps.map tvOf) (ty, l)) (he : ElOp n) (ht : us.map (·.1.ty) = ps.map (·.1.ty)) (hd : ∀ u ∈ us, u.2.1 = []) : outF n ins A (us.map tvOf) = .ok (ty, []) := by
  have hl : us.length = ps.length := by simpa using congrArg List.length ht
  have e1 : tysOf (us.map tvOf) = tysOf (ps.map tvOf) := by rw [tys_of, tys_of, ht]
  have e2 : dimsG A (dimsOf (us.map tvOf)) (grp n.op).2 = .ok [] := dims_scal he fun d hm => by
    unfold dimsOf at hm
    rw [List.map_map] at hm
    obtain ⟨u, hu, rfl⟩ := List.mem_map.1 hm
    exact hd u hu
  have e3 : vinP (us.map tvOf) = .ok () := vin_scal (ps.map tvOf) (us.map tvOf) ok.vin (by rw [List.map_map, List.map_map]; exact ht) fun u hu => by
    obtain ⟨p, hp, rfl⟩ := List.mem_map.1 hu
    exact hd p hp
  have h2 := ok.len
  rw [List.length_map] at h2
  have e4 : decide ((us.map tvOf).length = ins.length) = true := by rw [List.length_map, hl]; simpa using h2
  have ht2 := ok.typ
  rw [← e1] at ht2
  unfold outF valueP
  rw [ok.chk, e4, e3, ht2, e2]
  have h3 := ok.thn
  show (thenP ty (thenL (A.xs.find? (isA ⟨#[116, 104, 101, 110]⟩ 3)))).bind (fun _ => .ok (ty, ([] : List Int))) = _
  rw [show thenP ty (thenL (A.xs.find? (isA ⟨#[116, 104, 101, 110]⟩ 3))) = .ok () from h3]
  rfl

/-- The inputs' elements at a place. -/
def cutP (l : List Int) (j : Nat) (p : Ten × Tq) : Int := (colP l p).getD j 0

theorem as_scal (z : Int) : asE [] [z] [] = 0 ∧ asL [] [z] [] = [z] := as_self (by decide) (by simp [prod])

theorem ok_scal {l : List Int} {p u : Ten × Tq} {j : Nat} (h : okT p = true) (ht : u.1.ty = p.1.ty) (hd : u.2.1 = []) (hz : u.2.2 = [cutP l j p]) : okT u = true := by
  have h1 := col_chk (l := l) h j
  obtain ⟨h0, -⟩ := okT_inv h
  unfold okT
  rw [ht, hd, hz]
  have : pbE p.1.ty [] [cutP l j p] = 0 := by
    unfold pbE
    rw [if_neg (by simp [h0]), if_neg (by decide), if_neg (by simp [cnt, prod]; decide), if_pos]
    simp only [List.all_cons, List.all_nil, Bool.and_true]
    exact h1
  rw [this]
  rfl

theorem place_law {F : List Int → Int × Int} {ps us : List (Ten × Tq)} {l zs : List Int} (h : madeR F ps l (prod l).toNat = .ok zs) (j : Nat) (hj : j < zs.length) (hd : us.map (·.2) = ps.map (fun p => (([] : List Int), [cutP l j p]))) : madeR F us [] (prod []).toNat = .ok [zs.getD j 0] := by
  obtain ⟨ha, he⟩ := made_ok h
  obtain ⟨hz, h0⟩ := evL_inv F (ps.map (colP l)) (prod l).toNat 0 zs he
  have hN : zs.length = (prod l).toNat := by rw [hz]; simp
  have hu : ∀ u ∈ us, u.2.1 = [] ∧ ∃ z, u.2.2 = [z] := fun u hu => by
    have hm : u.2 ∈ ps.map (fun p => (([] : List Int), [cutP l j p])) := by rw [← hd]; exact List.mem_map.2 ⟨u, hu, rfl⟩
    obtain ⟨p, hp, e⟩ := List.mem_map.1 hm
    rw [← e]
    exact ⟨rfl, _, rfl⟩
  have a1 : us.all (asOk []) = true := List.all_eq_true.2 fun u hm => by
    obtain ⟨q1, z, q2⟩ := hu u hm
    unfold asOk
    rw [q1, q2, (as_scal z).1]
    rfl
  have a2 : (us.map (colP [])).map (·.getD 0 0) = (ps.map (colP l)).map (·.getD j 0) := by
    have e1 : ∀ vs : List (Ten × Tq), (∀ u ∈ vs, u.2.1 = [] ∧ ∃ z, u.2.2 = [z]) → (vs.map (colP [])).map (·.getD 0 0) = (vs.map (·.2)).map (fun q => q.2.getD 0 0) := by
      intro vs
      induction vs with
      | nil => intro _; rfl
      | cons u vs ih =>
        intro hv
        obtain ⟨q1, z, q2⟩ := hv u (List.mem_cons_self ..)
        simp only [List.map_cons]
        rw [ih fun q hq => hv q (List.mem_cons_of_mem _ hq)]
        congr 1
        unfold colP
        rw [q1, q2, (as_scal z).2]
    rw [e1 us hu, hd, List.map_map, List.map_map]
    rfl
  unfold madeR
  rw [if_pos a1]
  have hj2 : j ∈ List.range' 0 (prod l).toNat := by rw [List.mem_range']; exact ⟨j, by omega, by omega⟩
  have hz2 : zs.getD j 0 = (F ((ps.map (colP l)).map (·.getD j 0))).1 := by
    rw [hz, List.getD, List.getElem?_map, List.getElem?_range' (by omega)]
    simp
  rw [show (prod []).toNat = 1 from rfl]
  simp only [evL]
  rw [a2, if_pos (h0 j hj2), hz2]
  rfl
end Go.Proofs.YteigfipgmghgmaaGreatDoor
