/- Joined texts: MvJdK, MvPadD, MvCutK. -/
import Derived.Test.YtaoplfpigjkgpaaGreatDoorPartBJ
import Derived.Test.YtaoplfpigjkgpaaGreatDoorPartBM
import Derived.Test.YtaoplfpigjkgpaaGreatDoorPartBS
import Derived.Test.YtaoplfpigjkgpaaGreatDoorPartBB
import Derived.Test.YtaoplfpigjkgpaaGreatDoorPartAY
import Derived.Test.YtaoplfpigjkgpaaGreatDoorPartBT
namespace Go.Proofs.YtaoplfpigjkgpaaGreatDoor

open Go.RowKit

theorem do_past {w w' : World} {r : R (Int × List Int × List Int)} {e : Ending} (h : DoQ w r e w') : w.grownBy w' none ∧ ∃ d t : Sl, e = .returned (.tuple #[.agg #[.int .i64 (rTy r), .slice d.a d.n d.c, .slice t.a t.n t.c], .int .i64 (rC r)]) ∧ ∀ C wx, C < w.heap.size → w'.grownBy wx (some C) → IsInts wx d.v (rL r) ∧ IsInts wx t.v (rZ r) := by
  obtain ⟨hg, h⟩ := h
  refine ⟨hg, ?_⟩
  cases r with
  | error c => exact ⟨⟨none, 0, 0⟩, ⟨none, 0, 0⟩, h, fun C wx _ _ => ⟨(owns_nil wx 0).ints, (owns_nil wx 0).ints⟩⟩
  | ok rr =>
    obtain ⟨ty, l, zs⟩ := rr
    obtain ⟨⟨ty', d, t⟩, e1, e2, od, ot⟩ := h
    simp only at e1
    subst e1
    refine ⟨d, t, e2, fun C wx hC hx => ⟨Owns.ints ⟨od.1.kept hx ?_, od.2⟩, OwnsE.ints ⟨ot.1.kept hx ?_, ot.2⟩⟩⟩
    · cases e : d.v.ownBlock with
      | none => exact .inl rfl
      | some k => exact .inr (fun e2 => by have := (od.1.lt k e).1; cases e2; omega)
    · cases e : t.v.ownBlock with
      | none => exact .inl rfl
      | some k => exact .inr (fun e2 => by have := (ot.1.lt k e).1; cases e2; omega)

theorem own_attrs {w : World} {base : Nat} {v : Value} {xs : List Atr} (h : w.ownsRow base 41 9 v xs.length (xs.flatMap acells)) (hl : xs.length ≤ 1000) : IsAttrs w v xs := OwnsL.isL (bytes := 136) acells_len h (by omega)

end Go.Proofs.YtaoplfpigjkgpaaGreatDoor

namespace Go.Proofs.YtaoplfpigjkgpaaGreatDoor

open Go.RowKit

theorem pad_each {r : Nat} : ∀ {ps : List Int} {i : Nat} {dims l : List Int}, dims.length = r → padL r ps i dims = .ok l → l.length = r ∧ (∀ p ∈ ps, 0 ≤ p ∧ p ≤ 65536) ∧ (∀ j, dims.getD j 0 ≤ l.getD j 0) ∧ ∀ k, k < ps.length → dims.getD ((i + k) % r) 0 + ps.getD k 0 ≤ l.getD ((i + k) % r) 0 ∨ r = 0
  | [], i, dims, l, hd, h => by
    cases h
    exact ⟨hd, fun p hp => by simp at hp, fun j => Int.le_refl _, fun k hk => by simp at hk⟩
  | p :: ps, i, dims, l, hd, h => by
    simp only [padL] at h
    obtain ⟨_, hm, h⟩ := bind_ok h
    have hp : 0 ≤ p ∧ p ≤ 65536 := by
      unfold mustP at hm
      split at hm
      · rename_i q; simpa using q
      · cases hm
    obtain ⟨h1, h2, h3, h4⟩ := pad_each (r := r) (ps := ps) (i := i + 1) (by rw [List.length_set]; exact hd) h
    have gs : ∀ j, (dims.set (i % r) (dims.getD (i % r) 0 + p)).getD j 0 = if i % r = j ∧ j < dims.length then dims.getD j 0 + p else dims.getD j 0 := fun j => by
      simp only [List.getD]
      by_cases e : i % r = j
      · subst e
        by_cases hl : i % r < dims.length
        · rw [if_pos ⟨rfl, hl⟩, List.getElem?_set_self hl]
          rfl
        · rw [if_neg (fun h => hl h.2), List.getElem?_eq_none (by rw [List.length_set]; omega), List.getElem?_eq_none (by omega)]
      · rw [if_neg (fun h => e h.1), List.getElem?_set_ne e]
    have ge : ∀ j, dims.getD j 0 ≤ (dims.set (i % r) (dims.getD (i % r) 0 + p)).getD j 0 := fun j => by
      rw [gs]
      split <;> omega
    refine ⟨h1, fun q hq => ?_, fun j => Int.le_trans (ge j) (h3 j), fun k hk => ?_⟩
    · rcases List.mem_cons.1 hq with rfl | hq
      · exact hp
      · exact h2 q hq
    · by_cases hr : r = 0
      · exact .inr hr
      · refine .inl ?_
        cases k with
        | zero =>
          have e := h3 (i % r)
          rw [gs, if_pos ⟨rfl, by rw [hd]; exact Nat.mod_lt _ (by omega)⟩] at e
          simpa using e
        | succ k =>
          have e := (h4 k (by simpa using hk)).resolve_right hr
          have g := ge ((i + 1 + k) % r)
          rw [show i + (k + 1) = i + 1 + k by omega]
          simp only [List.getD_cons_succ]
          omega

theorem padded_ok {x pads l : List Int} (F : Fine x) (h : paddedP x pads = .ok l) : pads.length = 2 * l.length ∧ l.length = x.length ∧ Parts l (pads.take l.length) x ∧ ∀ p ∈ pads, 0 ≤ p ∧ p ≤ 65536 := by
  unfold paddedP at h
  obtain ⟨_, hm, h⟩ := bind_ok h
  have hl : pads.length = 2 * x.length := by
    unfold mustP at hm
    split at hm
    · rename_i q; simpa using q
    · cases hm
  obtain ⟨h1, h2, h3, h4⟩ := pad_each rfl h
  refine ⟨by rw [h1]; exact hl, h1, ⟨by rw [List.length_take]; omega, h1.symm, fun i hi => ?_⟩, h2⟩
  rw [h1] at hi ⊢
  have e : (pads.take x.length).getD i 0 = pads.getD i 0 := by simp only [List.getD]; rw [List.getElem?_take_of_lt hi]
  have k := (h4 i (by omega)).resolve_right (by omega)
  rw [Nat.zero_add, Nat.mod_eq_of_lt hi] at k
  have p1 := h2 (pads.getD i 0) (getD_mem3 (by omega))
  have f1 := F.at i hi
  rw [e]
  omega

set_option maxRecDepth 100000 in
set_option maxHeartbeats 8000000 in
theorem moved_pad (n : Nod) (A : At) (hop : n.op = ⟨#[80, 97, 100]⟩) (u : Sl) (T0 : Ten) (x xs : List Int) (nam0 : ByteArray) (vty : Int) (dv : Sl) (l : List Int) (w : World) (hno : NodeOk w n A) (hv : TensIn w u.v [(T0, (x, xs))]) (hd : IsInts w dv.v l) (cl : cntE l = 0) (hpl : (A.ints ⟨#[112, 97, 100, 115]⟩ []).length = 2 * l.length) (hP : Parts l ((A.ints ⟨#[112, 97, 100, 115]⟩ []).take l.length) x) (hxl : (xs.length : Int) = prod x) (hvr : -9223372036854775808 ≤ bitsV A.xs ⟨#[118, 97, 108, 117, 101]⟩ 0 ∧ bitsV A.xs ⟨#[118, 97, 108, 117, 101]⟩ 0 ≤ 9223372036854775807) :
    Calls Tryz.prog 18 #[nval n, .slice u.a u.n u.c, .agg #[.string nam0, .int .i64 vty, .slice dv.a dv.n dv.c]] w (EvQ w (.ok (padL' l ((A.ints ⟨#[112, 97, 100, 115]⟩ []).take l.length) x (bitsV A.xs ⟨#[118, 97, 108, 117, 101]⟩ 0) xs))) := by
  obtain ⟨RS, hRS⟩ : ∃ z, z = padL' l ((A.ints ⟨#[112, 97, 100, 115]⟩ []).take l.length) x (bitsV A.xs ⟨#[118, 97, 108, 117, 101]⟩ 0) xs := ⟨_, rfl⟩
  rw [← hRS]
  have PA : Hid (∀ wx, w.grownBy wx none → Calls Tryz.prog 31 #[nval n, tval T0, .slice dv.a dv.n dv.c] wx (EvQ wx (.ok RS))) := fun wx hg => by
    rw [hRS]
    have hh := hv.has (T0, (x, xs)) (by simp)
    exact mpadded_any n A T0 x xs dv l wx (hno.more hg) (hh.1.more hg) (hh.2.more hg) (hd.more hg) cl hpl hP hxl hvr
  obtain ⟨za, zn, zc⟩ := dv
  obtain ⟨xa, xc, e1, p1, p2, p3⟩ := hv.vals.form
  obtain ⟨ua, un, uc⟩ := u
  simp only [Sl.v, List.map_cons, List.map_nil, List.length_cons, List.length_nil, Value.slice.injEq] at e1
  obtain ⟨rfl, rfl, rfl⟩ := e1
  obtain ⟨ub, uo, rfl⟩ := hv.vals.addr (k := 0) (by simp)
  obtain ⟨t0, t1, t2⟩ := hv.at 0 (by simp)
  obtain ⟨tx, ⟨xda, xdn, xdc⟩, ⟨xta, xtn, xtc⟩⟩ := T0
  simp only [List.getElem_cons_zero, Nat.zero_mul, Nat.add_zero] at t0 t1 t2
  obtain ⟨op, nam, ⟨ia, il, ic⟩, out, ⟨ao, al, cap⟩⟩ := n
  simp only at hop
  subst hop
  unfold nval at PA ⊢
  unfold tval at PA
  simp only at PA ⊢
  obtain ⟨w0, hw0⟩ : ∃ w0, w0 = (w.alloc (.cells #[.string ⟨#[80, 97, 100]⟩, .string nam, .slice ia il ic, .string out, .slice ao al cap] 25)).alloc (.cells #[.string nam0, .int .i64 vty, .slice za zn zc] 50) := ⟨_, rfl⟩
  have g0 : w.grownBy w0 none := by rw [hw0]; exact grown_trans (grown_new _ _) (grown_new _ _)
  have hbx := two_boxes w (.cells #[.string ⟨#[80, 97, 100]⟩, .string nam, .slice ia il ic, .string out, .slice ao al cap] 25) (.cells #[.string nam0, .int .i64 vty, .slice za zn zc] 50)
  rw [← hw0] at hbx
  obtain ⟨n0, n1, n2, n3, n4⟩ := nod_cells (n := ⟨⟨#[80, 97, 100]⟩, nam, ⟨ia, il, ic⟩, out, ⟨ao, al, cap⟩⟩) hbx.1
  obtain ⟨v0, v1, v2⟩ := ten_cells hbx.2
  have t0 := cell_still t0 g0
  have t1 := cell_still t1 g0
  have t2 := cell_still t2 g0
  have G0 := hide g0
  have i0' : (0 : Int) < 1 := by decide
  clear hbx hv hd hno hP hpl hvr hxl cl hRS g0 p1 p2 p3
  rw [hw0] at n0
  go_enter Tryz.func18, Tryz.ntmps18
  go_wp2_with fail
  rw [← hw0]
  rw [← hw0] at n0
  clear hw0
  refine wp_region_held_drew (S := fun w' => w0.grownBy w' none) (by kernel_rfl) (grown_drew (grown_refl _)) (fun hHeld => ?_)
  refine wpAnyH_take (i := 0) (v := ?_) rfl (by kernel_rfl) (by kernel_rfl) (by kernel_rfl) (fun _ _ _ h => h) (Or.inl ⟨by kernel_rfl, ?_⟩) (by assumption) ?_
  rotate_left 1
  · (intro wS hSw; have c0 := cell_still n0 hSw; have c1 := cell_still n1 hSw; have c2 := cell_still n2 hSw; have c3 := cell_still n3 hSw; have c4 := cell_still n4 hSw; go_simp; (try with_reducible rfl))
  try simp only [Act.put]
  refine wpAnyH_take (i := 1) (v := ?_) rfl (by kernel_rfl) (by kernel_rfl) (by kernel_rfl) (fun _ _ _ h => h) (Or.inl ⟨by kernel_rfl, ?_⟩) (by assumption) ?_
  rotate_left 1
  · (intro wS hSw; go_simp; (try with_reducible rfl))
  try simp only [Act.put]
  refine wpAnyH_take (i := 2) (v := ?_) rfl (by kernel_rfl) (by kernel_rfl) (by kernel_rfl) (fun _ _ _ h => h) (Or.inl ⟨by kernel_rfl, ?_⟩) (by assumption) ?_
  rotate_left 1
  · (intro wS hSw; go_simp; (try with_reducible rfl))
  try simp only [Act.put]
  refine wpAnyH_take (i := 3) (v := ?_) rfl (by kernel_rfl) (by kernel_rfl) (by kernel_rfl) (fun _ _ _ h => h) (Or.inl ⟨by kernel_rfl, ?_⟩) (by assumption) ?_
  rotate_left 1
  · (intro wS hSw; have c0 := cell_still t0 hSw; have c1 := cell_still t1 hSw; have c2 := cell_still t2 hSw; go_simp; (try with_reducible rfl))
  try simp only [Act.put]
  refine wpAnyH_take (i := 4) (v := ?_) rfl (by kernel_rfl) (by kernel_rfl) (by kernel_rfl) (fun _ _ _ h => h) (Or.inl ⟨by kernel_rfl, ?_⟩) (by assumption) ?_
  rotate_left 1
  · (intro wS hSw; go_simp; (try with_reducible rfl))
  try simp only [Act.put]
  refine wpAnyH_take (i := 5) (v := ?_) rfl (by kernel_rfl) (by kernel_rfl) (by kernel_rfl) (fun _ _ _ h => h) (Or.inl ⟨by kernel_rfl, ?_⟩) (by assumption) ?_
  rotate_left 1
  · (intro wS hSw; have c0 := cell_still v2 hSw; go_simp; (try with_reducible rfl))
  try simp only [Act.put]
  refine wpAnyH_ready (rs := [6]) (by kernel_rfl) (by simp) ?_
  refine AllReadyH.cons rfl (fun K hK => ?_) AllReadyH.nil
  go_simp
  refine (PA.out w0.drew (grown_drew G0.out)).mono ?_
  intro e w3 hq
  obtain ⟨hg3, hq⟩ := hq
  obtain ⟨ru, hre, ho3⟩ := hq
  obtain ⟨ra, rn, rc⟩ := ru
  subst hre
  have g3 : w0.grownBy w3 none := grown_trans (grown_drew (grown_refl _)) hg3
  refine hK.out _ _ g3 (fun hHeld => ?_)
  clear hK K
  refine wpAnyH_take (i := 7) (v := ?_) rfl (by kernel_rfl) (by kernel_rfl) (by kernel_rfl) (fun _ _ _ h => h) (Or.inl ⟨by kernel_rfl, ?_⟩) (by assumption) ?_
  rotate_left 1
  · (intro wS hSw; go_simp; (try with_reducible rfl))
  try simp only [Act.put]
  refine wpAnyH_take (i := 8) (v := ?_) rfl (by kernel_rfl) (by kernel_rfl) (by kernel_rfl) (fun _ _ _ h => h) (Or.inl ⟨by kernel_rfl, ?_⟩) (by assumption) ?_
  rotate_left 1
  · (intro wS hSw; go_simp; (try with_reducible rfl))
  try simp only [Act.put]
  refine wpAnyH_take (i := 9) (v := ?_) rfl (by kernel_rfl) (by kernel_rfl) (by kernel_rfl) (fun _ _ _ h => h) (Or.inl ⟨by kernel_rfl, ?_⟩) (by assumption) ?_
  rotate_left 1
  · (intro wS hSw; go_simp; (try with_reducible rfl))
  try simp only [Act.put]
  refine wpAnyH_take (i := 10) (v := ?_) rfl (by kernel_rfl) (by kernel_rfl) (by kernel_rfl) (fun _ _ _ h => h) (Or.inl ⟨by kernel_rfl, ?_⟩) (by assumption) ?_
  rotate_left 1
  · (intro wS hSw; go_simp; (try with_reducible rfl))
  try simp only [Act.put]
  refine wpAnyH_done (by kernel_rfl) ?_ _
  have HO : Hid (OwnsE w3 w.heap.size (.slice ra rn rc) RS) := ⟨ownsRow_base ho3.1 G0.out.size, ho3.2⟩
  have HG := hide (grown_trans G0.out g3)
  clear ho3 hg3 g3 t0 t1 t2 n0 n1 n2 n3 n4 v0 v1 v2 hHeld
  go_simp
  go_wp2
  go_ret2
  exact ev_ok rfl HG.out ⟨⟨ra, rn, rc⟩, rfl, HO.out⟩

def outP (t : Int) (x : List Int) (d : R (List Int)) : R (Int × List Int) :=
  (typP t).bind fun _ => (countP x).bind fun _ => (sameP [t]).bind fun s => (mustP (s == 1)).bind fun _ => d.bind fun d => (countP d).bind fun _ => .ok (1, d)

theorem valuePd (v0 : Val) (x : List Int) (d : R (List Int)) : valueP 0 true [(v0, x)] ((sameP (tysOf [(v0, x)])).bind (fun t => (mustP (t == 1)).bind (fun _ => .ok (1 : Int)))) d [] = outP v0.ty x d := by
  unfold valueP outP
  simp only [stopP, mustP, if_true, vinP, tysOf, List.map_cons, List.map_nil, thenP, bind_assocE]
  rfl

theorem outP_inv {t ty : Int} {x l : List Int} {d : R (List Int)} (h : outP t x d = .ok (ty, l)) : ty = 1 ∧ t = 1 ∧ cntE x = 0 ∧ d = .ok l ∧ cntE l = 0 := by
  unfold outP at h
  obtain ⟨_, -, h⟩ := bind_ok h
  obtain ⟨_, hx, h⟩ := bind_ok h
  obtain ⟨s, hs, h⟩ := bind_ok h
  obtain ⟨_, hm, h⟩ := bind_ok h
  obtain ⟨d', hd, h⟩ := bind_ok h
  obtain ⟨_, hc, h⟩ := bind_ok h
  cases h
  have e1 : s = t := by simp only [sameP, List.all_nil, if_true] at hs; cases hs; rfl
  have e2 : s = 1 := by
    unfold mustP at hm
    split at hm
    · rename_i q; simpa using q
    · cases hm
  exact ⟨rfl, by omega, count_ok hx, hd, count_ok hc⟩

theorem nz_padL (r : Nat) (c : Int) : ∀ (ps : List Int) (i : Nat) (dims : List Int), padL r ps i dims = .error c → c ≠ 0
  | [], _, _, h => by cases h
  | p :: ps, i, dims, h => by
    simp only [padL] at h
    rcases bindE h with h | ⟨_, -, h⟩
    · exact nz_mustE h
    · exact nz_padL r c ps _ _ h

theorem nz_outP (t : Int) (x pads : List Int) : ∀ c, outP t x (paddedP x pads) = .error c → c ≠ 0 := by
  intro c h
  unfold outP at h
  rcases bindE h with h | ⟨_, -, h⟩
  · exact nz_typT h
  rcases bindE h with h | ⟨_, -, h⟩
  · exact nz_cntT h
  rcases bindE h with h | ⟨_, -, h⟩
  · simp only [sameP] at h
    split at h
    · cases h
    · cases h; decide
  rcases bindE h with h | ⟨_, -, h⟩
  · exact nz_mustE h
  rcases bindE h with h | ⟨_, -, h⟩
  · unfold paddedP at h
    rcases bindE h with h | ⟨_, -, h⟩
    · exact nz_mustE h
    · exact nz_padL _ _ _ _ _ h
  rcases bindE h with h | ⟨_, -, h⟩
  · exact nz_cntT h
  · cases h

theorem poutG (n : Nod) (A : At) (i1 : ByteArray) (hop : n.op = ⟨#[80, 97, 100]⟩) (u : Sl) (v0 : Val) (x : List Int) (w : World) (hl : Laid w) (hni : NodeIn w n [i1] A.xs A.cs) (hno : NodeOk w n A) (hck : checkF (ruleF n.op) n.op [i1] n.out A.xs A.cs = 0) (hth : thenL (A.xs.find? (isA ⟨#[116, 104, 101, 110]⟩ 3)) = []) (ho : n.out.size ≤ 1048576) (hv : ValsIn w u.v [(v0, x)]) :
    Calls Tryz.prog 38 #[nval n, .slice u.a u.n u.c] w (AttQ n.out w (outP v0.ty x (paddedP x (A.ints ⟨#[112, 97, 100, 115]⟩ [])))) := by
  refine out_any n u _ w fun wx hx => ?_
  have key := valueof_any n A [i1] u [(v0, x)] wx (hl.more hx) (hni.more hx) (hv.more hx) (by omega) _ _ (fun hc hll hin wy hy => ((type_float n A u [(v0, x)] wy (by rw [hop]; simp) (hno.more (grown_trans hx hy)) (hv.more (grown_trans hx hy)) (by simp) (by simp) (vinT hin).1).mono fun e w' he => ended_monoE he fun t v e1 e2 => ⟨e2, by
    obtain ⟨_, -, e1⟩ := bind_ok e1
    obtain ⟨_, -, e1⟩ := bind_ok e1
    cases e1
    rfl⟩)) (fun hc hll hin wy hy => dims_pad n A u v0 x wy (by rw [hop]; simp) (hno.more (grown_trans hx hy)) (hv.more (grown_trans hx hy)) (fine_of (vinT hin).2))
  rw [hck, hth] at key
  have e := valuePd v0 x (paddedP x (A.ints ⟨#[112, 97, 100, 115]⟩ []))
  refine key.mono fun e' w' he => ?_
  rw [← e]
  exact ended_monoE he fun r v _ e2 => e2

def padG (A : At) (t : Int) (x xs : List Int) : R (Int × List Int × List Int) :=
  doR (nodeP [tq t x xs] (outP t x (paddedP x (A.ints ⟨#[112, 97, 100, 115]⟩ [])))) fun l => .ok (padL' l ((A.ints ⟨#[112, 97, 100, 115]⟩ []).take l.length) x (bitsV A.xs ⟨#[118, 97, 108, 117, 101]⟩ 0) xs)

theorem pad_do (n : Nod) (A : At) (i1 : ByteArray) (hop : n.op = ⟨#[80, 97, 100]⟩) (u : Sl) (T0 : Ten) (x xs : List Int) (w : World) (hl : Laid w) (hni : NodeIn w n [i1] A.xs A.cs) (hno : NodeOk w n A) (hck : checkF (ruleF n.op) n.op [i1] n.out A.xs A.cs = 0) (hth : thenL (A.xs.find? (isA ⟨#[116, 104, 101, 110]⟩ 3)) = []) (ho : n.out.size ≤ 1048576) (hv : TensIn w u.v [(T0, (x, xs))]) (hvr : -9223372036854775808 ≤ bitsV A.xs ⟨#[118, 97, 108, 117, 101]⟩ 0 ∧ bitsV A.xs ⟨#[118, 97, 108, 117, 101]⟩ 0 ≤ 9223372036854775807) :
    Calls Tryz.prog 11 #[nval n, .slice u.a u.n u.c] w (DoQ w (padG A T0.ty x xs)) := by
  refine mdo_any _ u _ w fun wx hx => mbdo_any _ u _ _ wx (nz_node (nz_outP _ _ _)) (fun l => nz_ok _) (fun wy hy => ?_) (fun wy ty dv l hy hr hd => ?_)
  · have hg := grown_trans hx hy
    refine bnode_any n u [(T0, (x, xs))] _ wy (hv.more hg) (by simp) fun wz s vs hz hvs h1 h2 => ?_
    obtain ⟨v0, rfl, e0⟩ := one_valT h1 h2
    have key := poutG n A i1 hop s v0 x wz (hl.more (grown_trans hg hz)) (hni.more (grown_trans hg hz)) (hno.more (grown_trans hg hz)) hck hth ho hvs
    rw [e0] at key
    exact key
  · have hg := grown_trans hx hy
    obtain ⟨hall, hr⟩ := node_inv hr
    obtain ⟨-, -, c1, hp, c3⟩ := outP_inv hr
    obtain ⟨k1, k2, k3, -⟩ := padded_ok (fine_of c1) hp
    simp only [tq, okT, List.all_cons, List.all_nil, Bool.and_true, beq_iff_eq] at hall
    exact moved_pad n A hop u T0 x xs _ ty dv l wy (hno.more hg) (hv.more hg) hd c3 k1 k3 (pb_inv hall).2 hvr

theorem padG_inv {A : At} {t ty : Int} {x xs l zs : List Int} (h : padG A t x xs = .ok (ty, l, zs)) : ty = 1 ∧ t = 1 ∧ cntE x = 0 ∧ cntE l = 0 ∧ paddedP x (A.ints ⟨#[112, 97, 100, 115]⟩ []) = .ok l ∧ zs = padL' l ((A.ints ⟨#[112, 97, 100, 115]⟩ []).take l.length) x (bitsV A.xs ⟨#[118, 97, 108, 117, 101]⟩ 0) xs ∧ pbE t x xs = 0 := by
  unfold padG doR at h
  split at h
  · rename_i ty' l' hn
    obtain ⟨hall, ho⟩ := node_inv hn
    obtain ⟨e1, e2, c1, hp, c3⟩ := outP_inv ho
    simp only [tq, okT, List.all_cons, List.all_nil, Bool.and_true, beq_iff_eq] at hall
    cases h
    exact ⟨e1, e2, c1, c3, hp, rfl, hall⟩
  · cases h

theorem nz_padG (A : At) (t : Int) (x xs : List Int) : ∀ c, padG A t x xs = .error c → c ≠ 0 := by
  intro c h
  unfold padG doR at h
  split at h
  · cases h
  · rename_i c' hn
    cases h
    exact nz_node (nz_outP _ _ _) _ hn

end Go.Proofs.YtaoplfpigjkgpaaGreatDoor

namespace Go.Proofs.YtaoplfpigjkgpaaGreatDoor

open Go.RowKit

def cutAt (s1 s2 : Sl) (S E : List Int) : At := ⟨⟨#[83, 108, 105, 99, 101]⟩, [inA ⟨#[115, 116, 97, 114, 116, 115]⟩ s1, inA ⟨#[101, 110, 100, 115]⟩ s2], [⟨[], [], S⟩, ⟨[], [], E⟩]⟩

theorem cu_has {w : World} {s1 s2 : Sl} {S E : List Int} (h1 : IsInts w s1.v S) (h2 : IsInts w s2.v E) : ∀ (j : Nat) (b : Atr), (cutAt s1 s2 S E).xs[j]? = some b → ∃ c, (cutAt s1 s2 S E).cs[j]? = some c ∧ Has w b c
  | 0, b, h => by
    cases h
    exact ⟨_, rfl, ⟨ints_nil w, ints_nil w, h1⟩⟩
  | 1, b, h => by
    cases h
    exact ⟨_, rfl, ⟨ints_nil w, ints_nil w, h2⟩⟩
  | _ + 2, b, h => by simp [cutAt] at h

theorem cu_ok {w : World} {out : ByteArray} {iv av s1 s2 : Sl} {S E : List Int} (h1 : IsInts w s1.v S) (h2 : IsInts w s2.v E) (h : IsAttrs w av.v [inA ⟨#[115, 116, 97, 114, 116, 115]⟩ s1, inA ⟨#[101, 110, 100, 115]⟩ s2]) : NodeOk w ⟨⟨#[83, 108, 105, 99, 101]⟩, ⟨#[]⟩, iv, out, av⟩ (cutAt s1 s2 S E) :=
  ⟨rfl, h, cu_has h1 h2, fun b hb => by
    simp only [cutAt, List.mem_cons, List.not_mem_nil, or_false] at hb
    rcases hb with rfl | rfl <;> (show -9223372036854775808 ≤ (0 : Int) ∧ (0 : Int) ≤ 9223372036854775807; omega)⟩

theorem cu_in {w : World} {out : ByteArray} {iv av s1 s2 : Sl} {S E : List Int} {ins : List ByteArray} (hi : IsStrs w iv.v ins) (h1 : IsInts w s1.v S) (h2 : IsInts w s2.v E) (h : IsAttrs w av.v [inA ⟨#[115, 116, 97, 114, 116, 115]⟩ s1, inA ⟨#[101, 110, 100, 115]⟩ s2]) : NodeIn w ⟨⟨#[83, 108, 105, 99, 101]⟩, ⟨#[]⟩, iv, out, av⟩ ins (cutAt s1 s2 S E).xs (cutAt s1 s2 S E).cs :=
  ⟨hi, h, cu_has h1 h2, by simp [cutAt], fun b hb => by
    simp only [cutAt, List.mem_cons, List.not_mem_nil, or_false] at hb
    rcases hb with rfl | rfl <;> (show 0 ≤ 1048576; omega)⟩

theorem cu_check (s1 s2 : Sl) (S E : List Int) : checkF (ruleF ⟨#[83, 108, 105, 99, 101]⟩) ⟨#[83, 108, 105, 99, 101]⟩ [⟨#[120]⟩] ⟨#[121]⟩ (cutAt s1 s2 S E).xs (cutAt s1 s2 S E).cs = 0 := by kernel_rfl

theorem cu_then (s1 s2 : Sl) (S E : List Int) : thenL ((cutAt s1 s2 S E).xs.find? (isA ⟨#[116, 104, 101, 110]⟩ 3)) = [] := by kernel_rfl

theorem cu_starts (s1 s2 : Sl) (S E : List Int) : At.ints (cutAt s1 s2 S E) ⟨#[115, 116, 97, 114, 116, 115]⟩ [] = S := by kernel_rfl
theorem cu_ends (s1 s2 : Sl) (S E : List Int) : At.ints (cutAt s1 s2 S E) ⟨#[101, 110, 100, 115]⟩ [] = E := by kernel_rfl
theorem cu_axes (s1 s2 : Sl) (S E : List Int) (zs : List Int) : At.ints (cutAt s1 s2 S E) ⟨#[97, 120, 101, 115]⟩ zs = zs := by kernel_rfl

theorem pd_check (s : Sl) (P : List Int) : checkF (ruleF ⟨#[80, 97, 100]⟩) ⟨#[80, 97, 100]⟩ [⟨#[120]⟩] ⟨#[121]⟩ (inAt ⟨#[80, 97, 100]⟩ ⟨#[112, 97, 100, 115]⟩ s P).xs (inAt ⟨#[80, 97, 100]⟩ ⟨#[112, 97, 100, 115]⟩ s P).cs = 0 := by kernel_rfl
theorem pd_then (s : Sl) (P : List Int) : thenL ((inAt ⟨#[80, 97, 100]⟩ ⟨#[112, 97, 100, 115]⟩ s P).xs.find? (isA ⟨#[116, 104, 101, 110]⟩ 3)) = [] := by kernel_rfl
theorem pd_pads (s : Sl) (P : List Int) : At.ints (inAt ⟨#[80, 97, 100]⟩ ⟨#[112, 97, 100, 115]⟩ s P) ⟨#[112, 97, 100, 115]⟩ [] = P := by kernel_rfl
theorem pd_bits (s : Sl) (P : List Int) : bitsV (inAt ⟨#[80, 97, 100]⟩ ⟨#[112, 97, 100, 115]⟩ s P).xs ⟨#[118, 97, 108, 117, 101]⟩ 0 = 0 := by kernel_rfl

theorem upToP_at {n k : Nat} (h : k < n) : (upToP n).getD k 0 = k := by
  simp only [upToP, List.getD]
  rw [List.getElem?_map, List.getElem?_range h]
  rfl

theorem axis_k {n k : Nat} (h : k < n) : axisO (k : Int) n = some k := by
  have hf : fromEndP (k : Int) n = k := by unfold fromEndP; rw [if_neg (by omega)]
  unfold axisO
  rw [hf, if_neg (by omega), if_neg (by omega), Int.toNat_natCast]

structure Cuts (l S E x : List Int) : Prop where
  l1 : S.length = l.length
  l2 : E.length = l.length
  l3 : x.length = l.length
  ok : ∀ i, i < l.length → boundedP (S.getD i 0) (l.getD i 0).toNat = S.getD i 0 ∧ boundedP (E.getD i 0) (l.getD i 0).toNat = S.getD i 0 + x.getD i 0 ∧ 1 ≤ x.getD i 0

theorem slice_all {l S E x : List Int} (h : Cuts l S E x) : ∀ m k, k + m = l.length → sliceL l ((upToP l.length).drop k) (S.drop k) (E.drop k) (cutD l x k) = .ok x
  | 0, k, hk => by
    rw [List.drop_of_length_le (by rw [upToP_len]; omega)]
    show Except.ok (cutD l x k) = _
    unfold cutD
    rw [List.drop_of_length_le (by omega), List.append_nil, List.take_of_length_le (by have := h.l3; omega)]
  | m + 1, k, hk => by
    have hlt : k < l.length := by omega
    obtain ⟨b1, b2, b3⟩ := h.ok k hlt
    rw [drop_step (upToP l.length) k (by rw [upToP_len]; exact hlt), drop_step S k (by rw [h.l1]; exact hlt), drop_step E k (by rw [h.l2]; exact hlt), upToP_at hlt]
    simp only [sliceL, axisP, axis_k hlt]
    show (mustP (decide (boundedP (S.getD k 0) (l.getD k 0).toNat < boundedP (E.getD k 0) (l.getD k 0).toNat))).bind (fun _ => sliceL l ((upToP l.length).drop (k + 1)) (S.drop (k + 1)) (E.drop (k + 1)) ((cutD l x k).set k (boundedP (E.getD k 0) (l.getD k 0).toNat - boundedP (S.getD k 0) (l.getD k 0).toNat))) = .ok x
    rw [b1, b2, show mustP (decide (S.getD k 0 < S.getD k 0 + x.getD k 0)) = .ok () from by unfold mustP; rw [if_pos (decide_eq_true (by omega))], show S.getD k 0 + x.getD k 0 - S.getD k 0 = x.getD k 0 by omega, ]
    show sliceL l ((upToP l.length).drop (k + 1)) (S.drop (k + 1)) (E.drop (k + 1)) ((cutD l x k).set k (x.getD k 0)) = .ok x
    rw [cutD_step h.l3]
    exact slice_all h m (k + 1) (by omega)

theorem starts_all {l S E x : List Int} (h : Cuts l S E x) : ∀ m k, k + m = l.length → stL l ((upToP l.length).drop k) (S.drop k) (cutD (List.replicate l.length 0) S k) = S
  | 0, k, hk => by
    rw [List.drop_of_length_le (by rw [upToP_len]; omega)]
    show cutD _ S k = _
    unfold cutD
    rw [List.drop_of_length_le (by rw [List.length_replicate]; omega), List.append_nil, List.take_of_length_le (by have := h.l1; omega)]
  | m + 1, k, hk => by
    have hlt : k < l.length := by omega
    obtain ⟨b1, b2, b3⟩ := h.ok k hlt
    rw [stL_step (by rw [upToP_len]; exact hlt) (by rw [h.l1]; exact hlt), upToP_at hlt, axis_k hlt, Option.getD_some, b1, cutD_step (by rw [h.l1, List.length_replicate])]
    exact starts_all h m (k + 1) (by omega)

theorem cuts_ok {s1 s2 : Sl} {l S E x : List Int} (h : Cuts l S E x) : slicedP (cutAt s1 s2 S E) l = .ok x ∧ startsP (cutAt s1 s2 S E) l = S := by
  have q1 := slice_all h l.length 0 (by omega)
  have q2 := starts_all h l.length 0 (by omega)
  simp only [List.drop_zero, cutD, List.take_zero, List.nil_append] at q1 q2
  constructor
  · unfold slicedP
    simp only
    rw [cu_starts, cu_ends, cu_axes, h.l1]
    obtain ⟨r, hr⟩ := axesO_some (rank := l.length) (l := upToP l.length) (is := List.replicate l.length false) (by simp) (List.pairwise_map.2 (List.nodup_range.imp fun h e => h (Int.ofNat.inj e))) (fun a ha => ⟨(upToP_mem ha).1, (upToP_mem ha).2, by simp only [List.getD]; rw [List.getElem?_replicate]; split <;> rfl⟩)
    rw [show mustP (decide (l.length = E.length ∧ l.length = (upToP l.length).length)) = .ok () from by unfold mustP; rw [if_pos (by simp [h.l2, upToP_len])], show axesP (upToP l.length) l.length = .ok r from by unfold axesP; rw [hr]]
    exact q1
  · unfold startsP
    rw [cu_starts, cu_axes, h.l1]
    exact q2

theorem bounded_in {z : Int} {d : Nat} (h1 : 0 ≤ z) (h2 : z ≤ d) : boundedP z d = z := by
  have hf : fromEndP z d = z := by unfold fromEndP; rw [if_neg (by omega)]
  unfold boundedP
  rw [hf, show (if z < 0 then (0 : Int) else z) = z from if_neg (by omega)]
  split <;> omega

def endsL (pads x : List Int) : List Int := addC (pads.take x.length) x

theorem endsL_len {pads x : List Int} (h : x.length ≤ pads.length) : (endsL pads x).length = x.length := by
  unfold endsL addC
  rw [List.length_zipWith, List.length_take]
  omega

theorem endsL_at {pads x : List Int} (h : x.length ≤ pads.length) (i : Nat) (hi : i < x.length) : (endsL pads x).getD i 0 = pads.getD i 0 + x.getD i 0 := by
  unfold endsL
  rw [addC_at _ _ _ (by rw [List.length_take]; omega) hi]
  congr 1
  simp only [List.getD]
  rw [List.getElem?_take_of_lt hi]

theorem pad_pb {l st x xs : List Int} (c : cntE l = 0) (F : Fine l) (hx : xs.all (chk 1) = true) : pbE 1 l (padL' l st x 0 xs) = 0 := by
  have hp := F.prod_pos
  unfold pbE
  rw [if_neg (by decide), if_neg (by simp [c]), if_neg (by rw [cnt, if_pos c, pad_len]; simp; omega), if_pos ?_]
  rw [List.all_eq_true] at hx ⊢
  intro z hz
  rcases putZ_mem _ _ z hz with hz | ⟨q, hq, rfl⟩
  · rw [(List.mem_replicate.1 hz).2]
    decide
  · exact hx _ (List.of_mem_zip hq).2

theorem cut_answer {s s1 s2 : Sl} {t ty : Int} {x xs l zs pads : List Int} (h : padG (inAt ⟨#[80, 97, 100]⟩ ⟨#[112, 97, 100, 115]⟩ s pads) t x xs = .ok (ty, l, zs)) : pads.length = 2 * x.length ∧ (∀ p ∈ pads, 0 ≤ p ∧ p ≤ 65536) ∧ slG (cutAt s1 s2 (pads.take x.length) (endsL pads x)) ty l zs = .ok (t, x, xs) := by
  obtain ⟨rfl, rfl, cx, cl, hp, hz, hpb⟩ := padG_inv h
  rw [pd_pads] at hp hz
  rw [pd_bits] at hz
  obtain ⟨k1, k2, k3, k4⟩ := padded_ok (fine_of cx) hp
  rw [k2] at k1 k3 hz
  refine ⟨k1, k4, ?_⟩
  have hC : Cuts l (pads.take x.length) (endsL pads x) x := ⟨by rw [List.length_take]; omega, by rw [endsL_len (by omega)]; omega, by omega, fun i hi => by
    have e : (pads.take x.length).getD i 0 = pads.getD i 0 := by simp only [List.getD]; rw [List.getElem?_take_of_lt (by omega)]
    have o := k3.ok i hi
    rw [endsL_at (by omega) i (by omega)]
    rw [e] at o ⊢
    exact ⟨bounded_in (by omega) (by omega), bounded_in (by omega) (by omega), o.2.1⟩⟩
  obtain ⟨c1, c2⟩ := cuts_ok (s1 := s1) (s2 := s2) hC
  have hxl := (pb_inv hpb).2
  have hx : xs.all (chk 1) = true := by
    unfold pbE at hpb
    rw [if_neg (by decide), if_neg (by simp [cx]), if_neg (by rw [cnt, if_pos cx, hxl]; simp)] at hpb
    split at hpb
    · assumption
    · cases hpb
  have hp2 : pbE 1 l zs = 0 := by rw [hz]; exact pad_pb cl (fine_of cl) hx
  have ho : outT 1 l (slicedP (cutAt s1 s2 (pads.take x.length) (endsL pads x)) l) = .ok (1, x) := by
    unfold outT
    rw [c1, show typP 1 = .ok () from rfl, show countP l = .ok (prod l) from if_pos cl]
    show (countP x).bind _ = _
    rw [show countP x = .ok (prod x) from if_pos cx]
    rfl
  unfold slG
  rw [c2]
  unfold nodeP
  rw [if_pos (by simp [tq, okT, hp2]), ho]
  show Except.ok (1, x, _) = _
  rw [hz, pad_cut (fine_of cl) k3 (pb_inv hpb).2]

end Go.Proofs.YtaoplfpigjkgpaaGreatDoor
