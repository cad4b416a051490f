/- ElemNot, over plain lists. -/
import Derived.Test.YteigfipgmghgmaaGreatDoorEElem
namespace Go.Proofs.YteigfipgmghgmaaGreatDoor
open Go.RowKit

theorem bcL_self (l : List Int) : ∀ k, k ≤ l.length → bcL l l k = l.drop (l.length - k)
  | 0, _ => by simp [bcL]
  | k + 1, h => by
    have ih := bcL_self l k (by omega)
    rw [bcL, ih]
    have e : bh l k = l[l.length - (k + 1)] := by
      simp only [bh]
      rw [List.getD, List.getElem?_eq_getElem (by omega)]
      simp [show l.length - 1 - k = l.length - (k + 1) by omega]
      intro h'
      omega
    rw [e, List.drop_eq_getElem_cons (by omega : l.length - (k + 1) < l.length), show l.length - (k + 1) + 1 = l.length - k by omega]
    simp

theorem bad_self (l : List Int) : ∀ k, bcBad l l k = false
  | 0 => rfl
  | k + 1 => by simp [bcBad, apartAt, bad_self l k]

/-- Spread to what they are, dims stay. -/
theorem bc_self {l : List Int} (h : cntE l = 0) : bcE l l = 0 ∧ bcR l l = l := by
  have e : bcL l l (rank l l) = l := by
    rw [rank, Nat.max_self, bcL_self l _ (Nat.le_refl _)]
    simp
  have h1 : bcE l l = 0 := by
    unfold bcE
    rw [if_neg (by simp [h]), if_neg (by simp [h]), bad_self, if_neg (by simp), e, h]
  exact ⟨h1, by rw [bcR, if_pos h1, e]⟩

/-- A tensor, gone through by its own dims. -/
theorem as_self {l zs : List Int} (h : cntE l = 0) (hl : (zs.length : Int) = prod l) : asE l zs l = 0 ∧ asL l zs l = zs := by
  obtain ⟨b1, b2⟩ := bc_self h
  obtain ⟨r1, r2⟩ := Vw.rd_all (fine_of h) hl
  have e : Vw.spr l (strd l) l = strd l := Vw.spr_same (strd_length l)
  have h1 : asE l zs l = 0 := by
    unfold asE
    rw [if_neg (by simp [h]), if_neg (by simp [b1]), if_pos b2, e, r1]
  exact ⟨h1, by rw [asL, if_pos h1, e, r2]⟩

theorem asE_len {ds ts us l : List Int} (h : ts.length = us.length) : asE ds ts l = asE ds us l := by
  unfold asE Vw.rdE Vw.rdOk
  rw [h]

theorem asE_inv {ds ts l : List Int} (h : asE ds ts l = 0) : Vw.rdOk 0 l (Vw.spr ds (strd ds) l) ts = true ∧ asL ds ts l = Vw.shows 0 l (Vw.spr ds (strd ds) l) ts := by
  have h0 := h
  unfold asE at h
  by_cases h1 : cntE ds ≠ 0
  · rw [if_pos h1] at h; exact absurd h h1
  rw [if_neg h1] at h
  by_cases h2 : bcE ds l ≠ 0
  · rw [if_pos h2] at h; exact absurd h h2
  rw [if_neg h2] at h
  by_cases h3 : bcR ds l = l
  · rw [if_pos h3] at h
    unfold Vw.rdE at h
    by_cases h4 : Vw.rdOk 0 l (Vw.spr ds (strd ds) l) ts = true
    · refine ⟨h4, ?_⟩
      rw [asL, if_pos h0, Vw.rdL, if_pos h4]
    · rw [if_neg h4] at h; omega
  · rw [if_neg h3] at h; omega

/-- Where something is done to each element ahead, it is as if it were done behind. -/
theorem as_map {ds ts l : List Int} (f : Int → Int) (h : asE ds ts l = 0) : asE ds (ts.map f) l = 0 ∧ asL ds (ts.map f) l = (asL ds ts l).map f ∧ ∀ z ∈ asL ds ts l, z ∈ ts := by
  have h1 : asE ds (ts.map f) l = 0 := by rw [asE_len (us := ts) (by simp), h]
  obtain ⟨a1, a2⟩ := asE_inv h
  obtain ⟨b1, b2⟩ := asE_inv h1
  have hm : Vw.MayV 0 l (Vw.spr ds (strd ds) l) := Vw.mayB_iff.1 (by unfold Vw.rdOk at a1; exact (Bool.and_eq_true_iff.1 a1).1)
  have hl : 0 + Vw.lst l (Vw.spr ds (strd ds) l) < ts.length := by
    unfold Vw.rdOk at a1
    simpa using (Bool.and_eq_true_iff.1 a1).2
  have hx : ∀ x ∈ Vw.plc l (Vw.spr ds (strd ds) l) 0, x.toNat < ts.length := by
    intro x hx
    obtain ⟨g1, g2⟩ := Vw.plc_mem l _ 0 (fun y hy => (hm.str y hy).1) hm.fine.pos x hx
    omega
  refine ⟨h1, ?_, ?_⟩
  · rw [a2, b2]
    unfold Vw.shows
    rw [List.map_map]
    refine List.map_congr_left fun x hx' => ?_
    have := hx x hx'
    simp [List.getD, this]
  · rw [a2]
    intro z hz
    obtain ⟨x, hx', rfl⟩ := List.mem_map.1 hz
    have := hx x hx'
    simp [List.getD, this]

theorem evL_inv (F : List Int → Int × Int) (cs : List (List Int)) : ∀ (m k : Nat) (zs : List Int), evL F cs k m = .ok zs → zs = (List.range' k m).map (fun j => (F (cs.map (·.getD j 0))).1) ∧ ∀ j ∈ List.range' k m, (F (cs.map (·.getD j 0))).2 = 0
  | 0, _, zs, h => by cases h; simp
  | m + 1, k, zs, h => by
    simp only [evL] at h
    split at h
    · rename_i h0
      cases he : evL F cs (k + 1) m with
      | error d => rw [he] at h; cases h
      | ok us =>
        rw [he] at h
        cases h
        obtain ⟨h1, h2⟩ := evL_inv F cs m (k + 1) us he
        refine ⟨by rw [h1]; simp [List.range'_succ], fun j hj => ?_⟩
        rw [List.range'_succ] at hj
        rcases List.mem_cons.1 hj with rfl | hj
        · exact h0
        · exact h2 j hj
    · cases h

theorem evL_ok (F : List Int → Int × Int) (cs : List (List Int)) : ∀ (m k : Nat), (∀ j ∈ List.range' k m, (F (cs.map (·.getD j 0))).2 = 0) → evL F cs k m = .ok ((List.range' k m).map (fun j => (F (cs.map (·.getD j 0))).1))
  | 0, _, _ => by simp [evL]
  | m + 1, k, h => by
    have ih := evL_ok F cs m (k + 1) (fun j hj => h j (by rw [List.range'_succ]; exact List.mem_cons_of_mem _ hj))
    simp only [evL]
    rw [if_pos (h k (by rw [List.range'_succ]; simp)), ih]
    simp [Except.map, List.range'_succ]

def nt (z : Int) : Int := 1 - z

def bit (z : Int) : Prop := z = 0 ∨ z = 1

theorem chk9 {z : Int} : chk 9 z = true ↔ bit z := by
  unfold chk bit
  simp

theorem nchk9 {z : Int} : Nu.chk 9 z = true ↔ bit z := by
  unfold Nu.chk bit
  simp

theorem pb9 {x xs : List Int} (h : pbE 9 x xs = 0) : cntE x = 0 ∧ (xs.length : Int) = prod x ∧ ∀ z ∈ xs, bit z := by
  unfold pbE at h
  rw [if_neg (by simp [chk])] at h
  by_cases h1 : cntE x ≠ 0
  · rw [if_pos h1] at h; exact absurd h h1
  rw [if_neg h1] at h
  have h1' : cntE x = 0 := by omega
  by_cases h2 : (xs.length : Int) ≠ cnt x
  · rw [if_pos h2] at h; omega
  rw [if_neg h2] at h
  by_cases h3 : xs.all (chk 9) = true
  · refine ⟨h1', ?_, fun z hz => chk9.1 (List.all_eq_true.1 h3 z hz)⟩
    have : (xs.length : Int) = cnt x := by omega
    rw [this, cnt, if_pos h1']
  · rw [if_neg h3] at h; omega

theorem pb9' {x xs : List Int} (h1 : cntE x = 0) (h2 : (xs.length : Int) = prod x) (h3 : ∀ z ∈ xs, bit z) : pbE 9 x xs = 0 := by
  unfold pbE
  rw [if_neg (by simp [chk]), if_neg (by simp [h1]), if_neg (by rw [cnt, if_pos h1, h2]; simp), if_pos (List.all_eq_true.2 fun z hz => chk9.2 (h3 z hz))]

theorem bit_nt {z : Int} (h : bit z) : bit (nt z) := by
  unfold bit nt at *
  omega

theorem getD_bit {zs : List Int} (h : ∀ z ∈ zs, bit z) (j : Nat) : bit (zs.getD j 0) := by
  by_cases hj : j < zs.length
  · rw [List.getD, List.getElem?_eq_getElem hj]
    exact h _ (List.getElem_mem hj)
  · rw [List.getD, List.getElem?_eq_none (by omega)]
    exact Or.inl rfl

theorem getD_nt {zs : List Int} {j : Nat} (hj : j < zs.length) : (zs.map nt).getD j 0 = nt (zs.getD j 0) := by
  simp [List.getD, hj]

theorem F1_nt {z : Int} (h : bit z) : F1 3 9 [z] = (nt z, 0) := by
  unfold F1 Nu.un
  simp only [List.getD_cons_zero]
  rw [if_pos (nchk9.2 h)]
  rfl

theorem F2_and {a b : Int} (ha : bit a) (hb : bit b) : F2 6 9 [a, b] = (a * b, 0) := by
  unfold F2 Nu.bin
  simp only [List.getD_cons_zero, List.getD_cons_succ]
  rw [if_pos (by rw [nchk9.2 ha, nchk9.2 hb]; rfl)]
  rfl

theorem F2_or {a b : Int} (ha : bit a) (hb : bit b) : F2 7 9 [a, b] = (a + b - a * b, 0) := by
  unfold F2 Nu.bin
  simp only [List.getD_cons_zero, List.getD_cons_succ]
  rw [if_pos (by rw [nchk9.2 ha, nchk9.2 hb]; rfl)]
  rfl

theorem iota_map (zs : List Int) (f : Int → Int) : (List.range' 0 zs.length).map (fun j => f (zs.getD j 0)) = zs.map f := by
  refine List.ext_getElem (by simp) fun i h1 h2 => ?_
  simp [List.getD, show i < zs.length by simpa using h2]

/-- Not of a tensor of yes and no. -/
theorem not_ok {x xs : List Int} (h : pbE 9 x xs = 0) : el1 ⟨#[78, 111, 116]⟩ 3 9 x xs = .ok (9, x, xs.map nt) := by
  obtain ⟨h1, h2, h3⟩ := pb9 h
  obtain ⟨a1, a2⟩ := as_self h1 h2
  have hn : nodeP [tq 9 x xs] (out1F ⟨#[78, 111, 116]⟩ 9 x) = .ok (9, x) := by
    unfold nodeP
    rw [if_pos (by simp [tq, okT, h])]
    unfold out1F
    rw [show countP x = .ok (prod x) from if_pos h1, show oneOK (ByteArray.toList ⟨#[78, 111, 116]⟩) 9 = true from by kernel_rfl]
    rfl
  have hm : madeR (F1 3 9) [tq 9 x xs] x (prod x).toNat = .ok (xs.map nt) := by
    unfold madeR
    rw [if_pos (by simp [tq, asOk, a1])]
    have e : (prod x).toNat = xs.length := by omega
    rw [e, evL_ok]
    · congr 1
      rw [← iota_map xs nt]
      refine List.map_congr_left fun j hj => ?_
      simp only [tq, colP, List.map_cons, List.map_nil, a2]
      rw [F1_nt (getD_bit h3 j)]
    · intro j hj
      simp only [tq, colP, List.map_cons, List.map_nil, a2]
      rw [F1_nt (getD_bit h3 j)]
  unfold el1 doR
  rw [hn]
  simp only [hm]
  rfl

theorem two9 {t : Int} (h : twoOK (ByteArray.toList ⟨#[65, 110, 100]⟩) t = true) : t = 9 := by
  rw [show ByteArray.toList ⟨#[65, 110, 100]⟩ = [65, 110, 100] from by kernel_rfl] at h
  unfold twoOK at h
  by_cases h9 : t = 9
  · exact h9
  · simp [h9] at h

/-- What ElemNot says. -/
theorem not_law {t0 t1 t : Int} {x y xs ys l zs : List Int} (h : el2 ⟨#[65, 110, 100]⟩ 6 t0 t1 x y xs ys = .ok (t, l, zs)) :
    t0 = 9 ∧ t1 = 9 ∧ t = 9 ∧ el1 ⟨#[78, 111, 116]⟩ 3 9 l zs = .ok (9, l, zs.map nt) ∧ el1 ⟨#[78, 111, 116]⟩ 3 9 x xs = .ok (9, x, xs.map nt) ∧ el1 ⟨#[78, 111, 116]⟩ 3 9 y ys = .ok (9, y, ys.map nt) ∧ el2 ⟨#[79, 114]⟩ 7 9 9 x y (xs.map nt) (ys.map nt) = .ok (9, l, zs.map nt) := by
  unfold el2 doR at h
  split at h
  · rename_i ty l' hn
    obtain ⟨hok, ho⟩ := node_inv hn
    obtain ⟨e1, e2, e3, cx, cy, hs, cl⟩ := out2_inv ho
    have h9 := two9 e3
    subst h9
    subst e2
    dsimp only at h
    cases hm : madeR (F2 6 9) [tq 9 x xs, tq 9 y ys] l' (prod l').toNat with
    | error c => rw [hm] at h; cases h
    | ok us =>
      rw [hm] at h
      cases h
      simp only [tq, okT, List.all_cons, List.all_nil, Bool.and_true, Bool.and_eq_true, beq_iff_eq] at hok
      obtain ⟨px, py⟩ := hok
      obtain ⟨-, lx, bx⟩ := pb9 px
      obtain ⟨-, ly, by'⟩ := pb9 py
      unfold madeR at hm
      split at hm
      · rename_i hall
        simp only [tq, asOk, List.all_cons, List.all_nil, Bool.and_true, Bool.and_eq_true, beq_iff_eq] at hall
        obtain ⟨sx, sy⟩ := hall
        obtain ⟨n1, -⟩ := asL_len sx
        obtain ⟨n2, -⟩ := asL_len sy
        obtain ⟨mx1, mx2, mx3⟩ := as_map nt sx
        obtain ⟨my1, my2, my3⟩ := as_map nt sy
        obtain ⟨z1, z2⟩ := evL_inv _ _ _ _ _ hm
        simp only [tq, colP, List.map_cons, List.map_nil] at z1
        have bA : ∀ z ∈ asL x xs l, bit z := fun z hz => bx z (mx3 z hz)
        have bB : ∀ z ∈ asL y ys l, bit z := fun z hz => by' z (my3 z hz)
        have z3 : zs = (List.range' 0 (prod l).toNat).map (fun j => (asL x xs l).getD j 0 * (asL y ys l).getD j 0) := by
          rw [z1]
          refine List.map_congr_left fun j hj => ?_
          rw [F2_and (getD_bit bA j) (getD_bit bB j)]
        have zl : (zs.length : Int) = prod l := by
          rw [z3, List.length_map, List.length_range']
          have := (fine_of cl).prod_pos
          omega
        have zb : ∀ z ∈ zs, bit z := by
          intro z hz
          rw [z3] at hz
          obtain ⟨j, -, rfl⟩ := List.mem_map.1 hz
          have p := getD_bit bA j
          have q := getD_bit bB j
          unfold bit at *
          rcases p with p | p <;> rcases q with q | q <;> rw [p, q] <;> decide
        refine ⟨rfl, rfl, e1, not_ok (pb9' cl zl zb), not_ok px, not_ok py, ?_⟩
        have px' : pbE 9 x (xs.map nt) = 0 := pb9' cx (by rw [List.length_map]; exact lx) (fun z hz => by obtain ⟨a, ha, rfl⟩ := List.mem_map.1 hz; exact bit_nt (bx a ha))
        have py' : pbE 9 y (ys.map nt) = 0 := pb9' cy (by rw [List.length_map]; exact ly) (fun z hz => by obtain ⟨a, ha, rfl⟩ := List.mem_map.1 hz; exact bit_nt (by' a ha))
        have hn' : nodeP [tq 9 x (xs.map nt), tq 9 y (ys.map nt)] (out2F ⟨#[79, 114]⟩ 9 9 x y) = .ok (9, l) := by
          unfold nodeP
          rw [if_pos (by simp [tq, okT, px', py'])]
          unfold out2F
          rw [show twoOK (ByteArray.toList ⟨#[79, 114]⟩) = twoOK [79, 114] from by rw [show ByteArray.toList ⟨#[79, 114]⟩ = [79, 114] from by kernel_rfl], show countP x = .ok (prod x) from if_pos cx, show countP y = .ok (prod y) from if_pos cy, hs]
          show (Except.bind (countP l) fun _ => (Except.ok (9, l) : R (Int × List Int))) = .ok (9, l)
          rw [show countP l = .ok (prod l) from if_pos cl]
          rfl
        have hm' : madeR (F2 7 9) [tq 9 x (xs.map nt), tq 9 y (ys.map nt)] l (prod l).toNat = .ok (zs.map nt) := by
          unfold madeR
          rw [if_pos (by simp [tq, asOk, mx1, my1])]
          have step : ∀ j ∈ List.range' 0 (prod l).toNat, F2 7 9 ([colP l (tq 9 x (xs.map nt)), colP l (tq 9 y (ys.map nt))].map (·.getD j 0)) = (nt ((asL x xs l).getD j 0 * (asL y ys l).getD j 0), 0) := by
            intro j hj
            have hj' : j < (prod l).toNat := by
              have := List.mem_range'_1.1 hj
              omega
            simp only [tq, colP, List.map_cons, List.map_nil, mx2, my2]
            rw [getD_nt (by omega), getD_nt (by omega), F2_or (bit_nt (getD_bit bA j)) (bit_nt (getD_bit bB j))]
            congr 1
            have p := getD_bit bA j
            have q := getD_bit bB j
            unfold bit at *
            unfold nt
            rcases p with p | p <;> rcases q with q | q <;> rw [p, q] <;> decide
          rw [show [tq 9 x (xs.map nt), tq 9 y (ys.map nt)].map (colP l) = [colP l (tq 9 x (xs.map nt)), colP l (tq 9 y (ys.map nt))] from rfl, evL_ok _ _ _ _ (fun j hj => by rw [step j hj])]
          congr 1
          rw [z3, List.map_map]
          refine List.map_congr_left fun j hj => ?_
          rw [step j hj]
          rfl
        unfold el2 doR
        rw [hn']
        simp only [hm']
        rfl
      · cases hm
  · cases h
end Go.Proofs.YteigfipgmghgmaaGreatDoor
