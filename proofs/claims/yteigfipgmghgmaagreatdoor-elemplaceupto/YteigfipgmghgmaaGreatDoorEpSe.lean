/- What the first elem.Do answers, and the one of inputs cut to one place. -/
import Derived.Test.YteigfipgmghgmaaGreatDoorEpPc
namespace Go.Proofs.YteigfipgmghgmaaGreatDoor
open Go.RowKit

theorem do_xe (n : Nod) (ins : List ByteArray) (A : At) (u : Sl) (ps : List (Ten × Tq)) (w : World) (c : Int) (hl : Laid w) (hn : NodeAll w n ins A) (hv : TensIn w u.v ps) (hp1 : ps.length ≤ 1000) (h : nodeP ps (outF n ins A (ps.map tvOf)) = .error c) :
    Calls Tryz.prog 8 #[nval n, .slice u.a u.n u.c] w (DoQ w (.error c)) := by
  refine edo_any n u _ w fun wx hx => ?_
  have key := bdo_any n u (nodeP ps (outF n ins A (ps.map tvOf))) (fun _ => .error 5) wx (nz_node fun c h => outF_err h) (fun _ c h => by cases h; decide) (fun wy hy => by
    refine bnode_any n u ps _ wy (hv.more (grown_trans hx hy)) (by omega) fun wz s vs hz hvs h1 h2 => ?_
    have key := out_of n ins A s vs wz (hl.more (grown_trans (grown_trans hx hy) hz)) (hn.more (grown_trans (grown_trans hx hy) hz)) hvs
    rw [outF_same (us := ps.map tvOf) (by rw [h1, List.map_map]; rfl) (by rw [h2, List.map_map]; rfl)] at key
    exact key) (fun wy ty dv l hy hr hd => by rw [h] at hr; cases hr)
  rw [h] at key
  exact key

/-- What is known once the first one answers. -/
structure Sec (n : Nod) (ps : List (Ten × Tq)) (w : World) (ty : Int) (l zs : List Int) : Prop where
  cnt : cntE l = 0
  len : (zs.length : Int) = prod l
  asok : ∀ p ∈ ps, asE p.2.1 p.2.2 l = 0
  again : ∀ (u : Sl) (us : List (Ten × Tq)) (wx : World) (j : Nat), w.grownBy wx none → TensIn wx u.v us → us.map (·.1.ty) = ps.map (·.1.ty) → j < zs.length → us.map (·.2) = ps.map (fun p => (([] : List Int), [cutP l j p])) → Calls Tryz.prog 8 #[nval n, .slice u.a u.n u.c] wx (DoQ wx (.ok (ty, [], [zs.getD j 0])))

theorem first_x (n : Nod) (ins : List ByteArray) (A : At) (u : Sl) (ps : List (Ten × Tq)) (w : World) (hl : Laid w) (hn : NodeAll w n ins A) (hv : TensIn w u.v ps) (hp1 : ps.length ≤ 1000) : ∃ r : R (Int × List Int × List Int), (∀ wx, w.grownBy wx none → Calls Tryz.prog 8 #[nval n, .slice u.a u.n u.c] wx (DoQ wx r)) ∧ (∀ c, r = .error c → c ≠ 0) ∧ ∀ ty l zs, r = .ok (ty, l, zs) → Sec n ps w ty l zs := by
  cases h0 : nodeP ps (outF n ins A (ps.map tvOf)) with
  | error c => exact ⟨.error c, fun wx hx => do_xe n ins A u ps wx c (hl.more hx) (hn.more hx) (hv.more hx) hp1 h0, fun d e => by cases e; exact nz_node (fun c h => outF_err h) _ h0, fun ty l zs e => by cases e⟩
  | ok rr =>
    obtain ⟨ty, l⟩ := rr
    obtain ⟨hok, hr⟩ := node_inv h0
    have ok := outF_ok hr
    rcases elem_x n ins A ps ty l hn.op ok with ⟨he, hp, F, hF⟩ | hE
    · refine ⟨doR (.ok (ty, l)) (fun l => madeR F ps l (prod l).toNat), fun wx hx => ?_, ?_, ?_⟩
      · have key := hF u ps wx (hl.more hx) (hn.more hx) (hv.more hx) hp1 rfl
        rw [h0] at key
        exact key
      · intro c h
        replace h : (madeR F ps l (prod l).toNat).map (fun zs => (ty, l, zs)) = .error c := h
        cases hm : madeR F ps l (prod l).toNat with
        | error d => rw [hm] at h; cases h; exact nz_made _ _ _ _ _ hm
        | ok zs => rw [hm] at h; cases h
      · intro ty' l' zs h
        replace h : (madeR F ps l (prod l).toNat).map (fun zs => (ty, l, zs)) = .ok (ty', l', zs) := h
        cases hm : madeR F ps l (prod l).toNat with
        | error d => rw [hm] at h; cases h
        | ok zs' =>
          rw [hm] at h
          cases h
          obtain ⟨ha, hev⟩ := made_ok hm
          have hpr : 1 ≤ prod l := prod_pos l (fine_of ok.cnt).pos
          have hz := (evL_inv F _ _ _ _ hev).1
          have hzl : zs.length = (prod l).toNat := by rw [hz]; simp
          refine ⟨ok.cnt, by omega, fun p hp => by simpa [asOk] using List.all_eq_true.1 ha p hp, fun v us wx j hx hus ht hj hd => ?_⟩
          have hul : us.length = ps.length := by simpa using congrArg List.length ht
          have key := hF v us wx (hl.more hx) (hn.more hx) hus (by omega) ht
          have hu1 : ∀ q ∈ us, q.2.1 = [] := fun q hq => by
            have hm2 : q.2 ∈ us.map (·.2) := List.mem_map.2 ⟨q, hq, rfl⟩
            rw [hd] at hm2
            obtain ⟨p, -, e⟩ := List.mem_map.1 hm2
            rw [← e]
          have hall : us.all okT = true := List.all_eq_true.2 fun q hq => by
            obtain ⟨i, hi, e⟩ := List.mem_iff_getElem.1 hq
            have e1 : q.1.ty = (ps[i]'(by omega)).1.ty := by
              have := congrArg (fun l => l[i]?) ht
              simp only [List.getElem?_map] at this
              rw [List.getElem?_eq_getElem hi, List.getElem?_eq_getElem (by omega), e] at this
              exact Option.some.inj this
            have e2 : q.2 = ([], [cutP l j (ps[i]'(by omega))]) := by
              have := congrArg (fun l => l[i]?) hd
              simp only [List.getElem?_map] at this
              rw [List.getElem?_eq_getElem hi, List.getElem?_eq_getElem (by omega), e] at this
              exact Option.some.inj this
            exact ok_scal (List.all_eq_true.1 hok _ (List.getElem_mem (show i < ps.length by omega))) e1 (by rw [e2]) (by rw [e2])
          have hn2 : nodeP us (outF n ins A (us.map tvOf)) = .ok (ty, []) := by
            unfold nodeP
            rw [if_pos hall]
            exact out_scal ok he ht hu1
          rw [hn2] at key
          have hm3 := place_law hm j hj hd
          have e3 : doR (.ok (ty, [])) (fun l => madeR F us l (prod l).toNat) = .ok (ty, [], [zs.getD j 0]) := by
            show (madeR F us [] (prod []).toNat).map _ = _
            rw [hm3]
            rfl
          rw [e3] at key
          exact key
    · refine ⟨.error 5, fun wx hx => ?_, fun c h => by cases h; decide, fun ty l zs h => by cases h⟩
      have key := hE u ps wx (hl.more hx) (hn.more hx) (hv.more hx) hp1 rfl
      rw [h0] at key
      exact key
end Go.Proofs.YteigfipgmghgmaaGreatDoor
