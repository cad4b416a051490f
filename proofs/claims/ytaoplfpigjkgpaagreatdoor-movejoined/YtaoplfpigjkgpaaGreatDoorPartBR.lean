/- Joined texts: MvCat, MvAllP, MvJdP. -/
import Derived.Test.YtaoplfpigjkgpaaGreatDoorPartBJ
import Derived.Test.YtaoplfpigjkgpaaGreatDoorPartBL
import Derived.Test.YtaoplfpigjkgpaaGreatDoorPartBP
import Derived.Test.YtaoplfpigjkgpaaGreatDoorPartBQ
import Derived.Test.YtaoplfpigjkgpaaGreatDoorPartBI
namespace Go.Proofs.YtaoplfpigjkgpaaGreatDoor

open Go.RowKit

set_option maxRecDepth 100000 in
set_option maxHeartbeats 8000000 in
theorem moved_cat (n : Nod) (A : At) (hop : n.op = ⟨#[67, 111, 110, 99, 97, 116]⟩) (u : Sl) (ps : List (Ten × Tq)) (nam0 : ByteArray) (vty : Int) (dv : Sl) (l : List Int) (ax A0 N : Nat) (w : World) (hno : NodeOk w n A) (hv : TensIn w u.v ps) (hd : IsInts w dv.v l) (hll : l.length ≤ 1000) (hzi : -9223372036854775808 ≤ A.int ⟨#[97, 120, 105, 115]⟩ 0) (hx : axisO (A.int ⟨#[97, 120, 105, 115]⟩ 0) l.length = some ax) (hA : cnt (l.take ax) = (A0 : Int)) (hA5 : A0 ≤ 65536) (hN : cnt l = (N : Int)) (hN5 : N ≤ 65536) (hNe : N = (joinR (pzJ ax ps) A0).length) (hok : ∀ p ∈ ps, RowOk ax A0 p) (hps : ps.length ≤ 1000000) :
    Calls Tryz.prog 18 #[nval n, .slice u.a u.n u.c, .agg #[.string nam0, .int .i64 vty, .slice dv.a dv.n dv.c]] w (EvQ w (.ok (joinR (pzJ ax ps) A0))) := by
  have lt := axisO_lt hx
  have AXO : Hid (∀ wx, w.grownBy wx none → Calls Tryz.prog 33 #[nval n, .slice dv.a dv.n dv.c] wx fun e w' => e = .returned (.int .i64 (ax : Int)) ∧ wx.grownBy w' none) := fun wx hg => by
    have k := maxis_any n A dv l wx (hno.more hg) (hd.more hg) hll hzi
    rw [hx, Option.getD_some] at k
    exact k
  have JO : Hid (∀ wx, w.grownBy wx none → Calls Tryz.prog 32 #[.slice u.a u.n u.c, .slice dv.a dv.n dv.c, .int .i64 ax] wx fun e w' => ∃ v : Sl, e = .returned v.v ∧ OwnsE w' wx.heap.size v.v (joinR (pzJ ax ps) A0) ∧ wx.grownBy w' none) := fun wx hg => mjoined_any u dv ps l ax A0 N wx (hv.more hg) (hd.more hg) (by omega) (by omega) hA hA5 hN hN5 hNe hok hps
  obtain ⟨za, zn, zc⟩ := dv
  obtain ⟨ua, un, uc⟩ := u
  obtain ⟨op, nam, ⟨ia, il, ic⟩, out, ⟨ao, al, cap⟩⟩ := n
  simp only at hop
  subst hop
  unfold nval at AXO ⊢
  simp only at AXO JO ⊢
  obtain ⟨w0, hw0⟩ : ∃ w0, w0 = (w.alloc (.cells #[.string ⟨#[67, 111, 110, 99, 97, 116]⟩, .string nam, .slice ia il ic, .string out, .slice ao al cap] 25)).alloc (.cells #[.string nam0, .int .i64 vty, .slice za zn zc] 50) := ⟨_, rfl⟩
  have g0 : w.grownBy w0 none := by rw [hw0]; exact grown_trans (grown_new _ _) (grown_new _ _)
  have hbx := two_boxes w (.cells #[.string ⟨#[67, 111, 110, 99, 97, 116]⟩, .string nam, .slice ia il ic, .string out, .slice ao al cap] 25) (.cells #[.string nam0, .int .i64 vty, .slice za zn zc] 50)
  rw [← hw0] at hbx
  obtain ⟨n0, n1, n2, n3, n4⟩ := nod_cells (n := ⟨⟨#[67, 111, 110, 99, 97, 116]⟩, nam, ⟨ia, il, ic⟩, out, ⟨ao, al, cap⟩⟩) hbx.1
  obtain ⟨v0, v1, v2⟩ := ten_cells hbx.2
  have G0 := hide g0
  clear hbx hv hd hno hx hA hA5 hN hN5 hNe hok hps g0 lt
  rw [hw0] at n0
  go_enter Tryz.func18, Tryz.ntmps18
  go_wp2_with fail
  rw [← hw0]
  rw [← hw0] at n0
  clear hw0
  refine wp_region_held_drew (S := fun w' => w0.grownBy w' none) (by kernel_rfl) (grown_drew (grown_refl _)) (fun hHeld => ?_)
  refine wpAnyH_take (i := 0) (v := ?_) rfl (by kernel_rfl) (by kernel_rfl) (by kernel_rfl) (fun _ _ _ h => h) (Or.inl ⟨by kernel_rfl, ?_⟩) (by assumption) ?_
  rotate_left 1
  · (intro wS hSw; go_simp; (try with_reducible rfl))
  try simp only [Act.put]
  refine wpAnyH_take (i := 1) (v := ?_) rfl (by kernel_rfl) (by kernel_rfl) (by kernel_rfl) (fun _ _ _ h => h) (Or.inl ⟨by kernel_rfl, ?_⟩) (by assumption) ?_
  rotate_left 1
  · (intro wS hSw; go_simp; (try with_reducible rfl))
  try simp only [Act.put]
  refine wpAnyH_take (i := 2) (v := ?_) rfl (by kernel_rfl) (by kernel_rfl) (by kernel_rfl) (fun _ _ _ h => h) (Or.inl ⟨by kernel_rfl, ?_⟩) (by assumption) ?_
  rotate_left 1
  · (intro wS hSw; have c0 := cell_still v2 hSw; go_simp; (try with_reducible rfl))
  try simp only [Act.put]
  refine wpAnyH_take (i := 3) (v := ?_) rfl (by kernel_rfl) (by kernel_rfl) (by kernel_rfl) (fun _ _ _ h => h) (Or.inl ⟨by kernel_rfl, ?_⟩) (by assumption) ?_
  rotate_left 1
  · (intro wS hSw; have c0 := cell_still n0 hSw; have c1 := cell_still n1 hSw; have c2 := cell_still n2 hSw; have c3 := cell_still n3 hSw; have c4 := cell_still n4 hSw; go_simp; (try with_reducible rfl))
  try simp only [Act.put]
  refine wpAnyH_take (i := 4) (v := ?_) rfl (by kernel_rfl) (by kernel_rfl) (by kernel_rfl) (fun _ _ _ h => h) (Or.inl ⟨by kernel_rfl, ?_⟩) (by assumption) ?_
  rotate_left 1
  · (intro wS hSw; go_simp; (try with_reducible rfl))
  try simp only [Act.put]
  refine wpAnyH_take (i := 5) (v := ?_) rfl (by kernel_rfl) (by kernel_rfl) (by kernel_rfl) (fun _ _ _ h => h) (Or.inl ⟨by kernel_rfl, ?_⟩) (by assumption) ?_
  rotate_left 1
  · (intro wS hSw; have c0 := cell_still v2 hSw; go_simp; (try with_reducible rfl))
  try simp only [Act.put]
  refine wpAnyH_ready (rs := [6]) (by kernel_rfl) (by simp) ?_
  refine AllReadyH.cons rfl (fun K hK => ?_) AllReadyH.nil
  go_simp
  refine (AXO.out w0.drew (grown_drew G0.out)).mono ?_
  rintro e w1 ⟨rfl, hg1⟩
  have g1 : w0.grownBy w1 none := grown_trans (grown_drew (grown_refl _)) hg1
  refine hK.out _ _ g1 (fun hHeld => ?_)
  clear hK K
  try simp only [Act.put]
  refine wpAnyH_ready (rs := [7]) (by kernel_rfl) (by simp) ?_
  refine AllReadyH.cons rfl (fun K hK => ?_) AllReadyH.nil
  go_simp
  refine (JO.out w1 (grown_trans G0.out g1)).mono ?_
  rintro e w3 ⟨⟨ra, rn, rc⟩, rfl, ho3, hg3⟩
  have g3 : w0.grownBy w3 none := grown_trans g1 hg3
  refine hK.out _ _ g3 (fun hHeld => ?_)
  clear hK K
  try simp only [Act.put]
  refine wpAnyH_take (i := 8) (v := ?_) rfl (by kernel_rfl) (by kernel_rfl) (by kernel_rfl) (fun _ _ _ h => h) (Or.inl ⟨by kernel_rfl, ?_⟩) (by assumption) ?_
  rotate_left 1
  · (intro wS hSw; go_simp; (try with_reducible rfl))
  try simp only [Act.put]
  refine wpAnyH_take (i := 9) (v := ?_) rfl (by kernel_rfl) (by kernel_rfl) (by kernel_rfl) (fun _ _ _ h => h) (Or.inl ⟨by kernel_rfl, ?_⟩) (by assumption) ?_
  rotate_left 1
  · (intro wS hSw; go_simp; (try with_reducible rfl))
  try simp only [Act.put]
  refine wpAnyH_done (by kernel_rfl) ?_ _
  have HO : Hid (OwnsE w3 w.heap.size (.slice ra rn rc) (joinR (pzJ ax ps) A0)) := ⟨ownsRow_base ho3.1 (Nat.le_trans G0.out.size g1.size), ho3.2⟩
  have HG := hide (grown_trans G0.out g3)
  clear ho3 hg3 g3 hg1 g1 n0 n1 n2 n3 n4 v0 v1 v2 hHeld
  go_simp
  go_wp2
  go_ret2
  exact ev_ok rfl HG.out ⟨⟨ra, rn, rc⟩, rfl, HO.out⟩

def outC (A : At) (t0 t1 : Int) (x y : List Int) : R (Int × List Int) :=
  (typP t0).bind fun _ => (countP x).bind fun _ => (typP t1).bind fun _ => (countP y).bind fun _ => (sameP [t0, t1]).bind fun t => (joinedP A x [y]).bind fun d => (countP d).bind fun _ => .ok (t, d)

theorem valueC (A : At) (v0 v1 : Val) (x y : List Int) : valueP 0 true [(v0, x), (v1, y)] (sameP (tysOf [(v0, x), (v1, y)])) (joinedP A x [y]) [] = outC A v0.ty v1.ty x y := by
  unfold valueP outC
  simp only [stopP, mustP, if_true, vinP, tysOf, List.map_cons, List.map_nil, thenP, bind_assocE]
  rfl

theorem cat_out (n : Nod) (A : At) (i1 i2 : ByteArray) (hop : n.op = ⟨#[67, 111, 110, 99, 97, 116]⟩) (u : Sl) (v0 v1 : Val) (x y : List Int) (w : World) (hl : Laid w) (hni : NodeIn w n [i1, i2] A.xs A.cs) (hno : NodeOk w n A) (hck : checkF (ruleF n.op) n.op [i1, i2] n.out A.xs A.cs = 0) (hth : thenL (A.xs.find? (isA ⟨#[116, 104, 101, 110]⟩ 3)) = []) (ho : n.out.size ≤ 1048576) (hv : ValsIn w u.v [(v0, x), (v1, y)]) :
    Calls Tryz.prog 38 #[nval n, .slice u.a u.n u.c] w (AttQ n.out w (outC A v0.ty v1.ty x y)) := by
  refine out_any n u _ w fun wx hx => ?_
  have key := valueof_any n A [i1, i2] u [(v0, x), (v1, y)] wx (hl.more hx) (hni.more hx) (hv.more hx) (by omega) _ _ (fun hc hll hin wy hy => ((type_same n A u [(v0, x), (v1, y)] wy (by rw [hop]; simp) (hno.more (grown_trans hx hy)) (hv.more (grown_trans hx hy)) (by simp) (by simp) (vin2 hin).1).mono fun e w' he => ended_monoE he fun t v e1 e2 => ⟨e2, sameP_typ e1 (by simp [tysOf]) (vin2 hin).1⟩)) (fun hc hll hin wy hy => dims_Concat n A u (v0, x) [(v1, y)] wy hop (hno.more (grown_trans hx hy)) (hv.more (grown_trans hx hy)) (by simp) (fun p hp => by
    simp only [List.mem_cons, List.not_mem_nil, or_false] at hp
    rcases hp with rfl | rfl
    · exact fine_of (vin2 hin).2.1
    · exact fine_of (vin2 hin).2.2))
  rw [hck, hth] at key
  have e := valueC A v0 v1 x y
  refine key.mono fun e' w' he => ?_
  rw [← e]
  exact ended_monoE he fun r v _ e2 => e2

theorem outC_inv {A : At} {t0 t1 ty : Int} {x y l : List Int} (h : outC A t0 t1 x y = .ok (ty, l)) : cntE x = 0 ∧ cntE y = 0 ∧ sameP [t0, t1] = .ok ty ∧ joinedP A x [y] = .ok l ∧ cntE l = 0 := by
  unfold outC at h
  obtain ⟨_, -, h⟩ := bind_ok h
  obtain ⟨_, hx, h⟩ := bind_ok h
  obtain ⟨_, -, h⟩ := bind_ok h
  obtain ⟨_, hy, h⟩ := bind_ok h
  obtain ⟨t, ht, h⟩ := bind_ok h
  obtain ⟨d, hd, h⟩ := bind_ok h
  obtain ⟨_, hc, h⟩ := bind_ok h
  cases h
  exact ⟨count_ok hx, count_ok hy, ht, hd, count_ok hc⟩

theorem joined_ok {A : At} {x y l : List Int} (h : joinedP A x [y] = .ok l) : ∃ ax, axisO (A.int ⟨#[97, 120, 105, 115]⟩ 0) x.length = some ax ∧ y.length = x.length ∧ (∀ i, i < x.length → i ≠ ax → y.getD i 0 = x.getD i 0) ∧ l = x.set ax (x.getD ax 0 + y.getD ax 0) := by
  unfold joinedP at h
  obtain ⟨ax, ha, h⟩ := bind_ok h
  simp only [joinL] at h
  obtain ⟨_, h1, h⟩ := bind_ok h
  obtain ⟨_, h2, h⟩ := bind_ok h
  cases h
  have hi : axisO (A.int ⟨#[97, 120, 105, 115]⟩ 0) x.length = some ax := by
    unfold axisP at ha
    split at ha
    · rename_i i hi; cases ha; exact hi
    · cases ha
  have e1 : y.length = x.length := by
    unfold mustP at h1
    split at h1
    · rename_i q; simpa using q
    · cases h1
  have e2 : likeP x ax y = true := by
    unfold mustP at h2
    split at h2
    · assumption
    · cases h2
  refine ⟨ax, hi, e1, fun i hi hne => ?_, rfl⟩
  unfold likeP at e2
  rw [List.all_eq_true] at e2
  have := e2 i (List.mem_range.2 (by omega))
  simpa [hne] using this

theorem nz_joined (A : At) (x y : List Int) (c : Int) (h : joinedP A x [y] = .error c) : c ≠ 0 := by
  unfold joinedP at h
  rcases bindE h with h | ⟨_, -, h⟩
  · exact nz_axisP h
  simp only [joinL] at h
  rcases bindE h with h | ⟨_, -, h⟩
  · exact nz_mustE h
  rcases bindE h with h | ⟨_, -, h⟩
  · exact nz_mustE h
  · cases h

theorem nz_outC (A : At) (t0 t1 : Int) (x y : List Int) : ∀ c, outC A t0 t1 x y = .error c → c ≠ 0 := by
  intro c h
  unfold outC at h
  rcases bindE h with h | ⟨_, -, h⟩
  · exact nz_typT h
  rcases bindE h with h | ⟨_, -, h⟩
  · exact nz_cntT h
  rcases bindE h with h | ⟨_, -, h⟩
  · exact nz_typT h
  rcases bindE h with h | ⟨_, -, h⟩
  · exact nz_cntT h
  rcases bindE h with h | ⟨_, -, h⟩
  · simp only [sameP] at h
    split at h
    · cases h
    · cases h; decide
  rcases bindE h with h | ⟨_, -, h⟩
  · exact nz_joined _ _ _ _ h
  rcases bindE h with h | ⟨_, -, h⟩
  · exact nz_cntT h
  · cases h

theorem prod_split (x : List Int) (ax : Nat) (h : ax < x.length) : prod x = prod (x.take ax) * (x.getD ax 0 * prod (x.drop (ax + 1))) := by
  have e : x = x.take ax ++ ([x.getD ax 0] ++ x.drop (ax + 1)) := by
    have e : x.getD ax 0 = x[ax] := by simp [List.getD, h]
    rw [e]
    simp
  conv => lhs; rw [e]
  rw [prod_append, prod_append]
  simp [prod]

theorem prod_drop_ax (x : List Int) (ax : Nat) (h : ax < x.length) : prod (x.drop ax) = x.getD ax 0 * prod (x.drop (ax + 1)) := prod_drop_step x ax h

theorem like_parts {x y : List Int} {ax : Nat} (hl : y.length = x.length) (h : ∀ i, i < x.length → i ≠ ax → y.getD i 0 = x.getD i 0) : y.take ax = x.take ax ∧ y.drop (ax + 1) = x.drop (ax + 1) := by
  have g : ∀ (L : List Int) (i : Nat) (h : i < L.length), L[i] = L.getD i 0 := fun L i h => by simp [List.getD, h]
  constructor
  · refine List.ext_getElem (by rw [List.length_take, List.length_take, hl]) fun i h1 h2 => ?_
    rw [List.getElem_take, List.getElem_take, g, g]
    rw [List.length_take] at h2
    exact h i (by omega) (by omega)
  · refine List.ext_getElem (by rw [List.length_drop, List.length_drop, hl]) fun i h1 h2 => ?_
    rw [List.getElem_drop, List.getElem_drop, g, g]
    rw [List.length_drop] at h2
    exact h _ (by omega) (by omega)

theorem set_like (x : List Int) (ax : Nat) (z : Int) : ∀ i, i < x.length → i ≠ ax → (x.set ax z).getD i 0 = x.getD i 0 := fun i _ hne => by
  simp only [List.getD]
  rw [List.getElem?_set_ne (fun e => hne e.symm)]

theorem cat_nums {x y l xs ys : List Int} {ax : Nat} (hlt : ax < x.length) (hyl : y.length = x.length) (hlike : ∀ i, i < x.length → i ≠ ax → y.getD i 0 = x.getD i 0) (hle : l = x.set ax (x.getD ax 0 + y.getD ax 0)) (cx : cntE x = 0) (cy : cntE y = 0) (cl : cntE l = 0) (lx : (xs.length : Int) = prod x) (ly : (ys.length : Int) = prod y) :
    ∃ A0 Wx Wy : Nat, cnt (l.take ax) = (A0 : Int) ∧ A0 ≤ 65536 ∧ cnt (x.drop ax) = (Wx : Int) ∧ cnt (y.drop ax) = (Wy : Int) ∧ 1 ≤ Wx ∧ 1 ≤ Wy ∧ xs.length = A0 * Wx ∧ ys.length = A0 * Wy ∧ cnt l = ((A0 * (Wx + Wy) : Nat) : Int) := by
  have Fx := fine_of cx
  have Fy := fine_of cy
  have Fl := fine_of cl
  obtain ⟨t1, t2⟩ := like_parts hyl hlike
  obtain ⟨t3, t4⟩ := like_parts (x := x) (y := l) (ax := ax) (by rw [hle, List.length_set]) (by rw [hle]; exact set_like x ax _)
  have hla : l.getD ax 0 = x.getD ax 0 + y.getD ax 0 := by rw [hle]; simp [List.getD, hlt]
  have pA : 1 ≤ prod (x.take ax) := prod_pos _ (pos_take Fx.pos ax)
  have pR : 1 ≤ prod (x.drop (ax + 1)) := prod_pos _ (pos_drop Fx.pos (ax + 1))
  have hx1 := Fx.at ax hlt
  have hy1 := Fy.at ax (by omega)
  have sx := prod_split x ax hlt
  have sy := prod_split y ax (by omega)
  have sl := prod_split l ax (by rw [hle, List.length_set]; exact hlt)
  rw [t1, t2] at sy
  rw [t3, t4, hla] at sl
  obtain ⟨A0, hA0⟩ : ∃ a : Nat, prod (x.take ax) = a := ⟨(prod (x.take ax)).toNat, by omega⟩
  obtain ⟨Wx, hWx⟩ : ∃ a : Nat, x.getD ax 0 * prod (x.drop (ax + 1)) = a := ⟨(x.getD ax 0 * prod (x.drop (ax + 1))).toNat, by have := Int.mul_le_mul hx1 pR (by omega) (by omega); omega⟩
  obtain ⟨Wy, hWy⟩ : ∃ a : Nat, y.getD ax 0 * prod (x.drop (ax + 1)) = a := ⟨(y.getD ax 0 * prod (x.drop (ax + 1))).toNat, by have := Int.mul_le_mul hy1 pR (by omega) (by omega); omega⟩
  have w1 : 1 ≤ Wx := by have := Int.mul_le_mul hx1 pR (by omega) (by omega); omega
  have w2 : 1 ≤ Wy := by have := Int.mul_le_mul hy1 pR (by omega) (by omega); omega
  have A5 : A0 ≤ 65536 := by
    have h1 := Fx.le
    rw [sx, hA0, hWx] at h1
    have h2 : A0 * Wx ≤ 65536 := by have : ((A0 * Wx : Nat) : Int) = (A0 : Int) * (Wx : Int) := Int.natCast_mul _ _; omega
    exact Nat.le_trans (Nat.le_mul_of_pos_right _ w1) h2
  have cT : cntE (l.take ax) = 0 := cntE_sub cl (a := []) (m := l.take ax) (b := l.drop ax) (by simp)
  have cX : cntE (x.drop ax) = 0 := cntE_sub cx (a := x.take ax) (m := x.drop ax) (b := []) (by simp)
  have cY : cntE (y.drop ax) = 0 := cntE_sub cy (a := y.take ax) (m := y.drop ax) (b := []) (by simp)
  refine ⟨A0, Wx, Wy, by rw [cnt, if_pos cT, t3, hA0], A5, by rw [cnt, if_pos cX, prod_drop_ax x ax hlt, hWx], by rw [cnt, if_pos cY, prod_drop_ax y ax (by omega), t2, hWy], w1, w2, ?_, ?_, ?_⟩
  · rw [sx, hA0, hWx] at lx
    have : ((A0 * Wx : Nat) : Int) = (A0 : Int) * (Wx : Int) := Int.natCast_mul _ _
    omega
  · rw [sy, hA0, hWy] at ly
    have : ((A0 * Wy : Nat) : Int) = (A0 : Int) * (Wy : Int) := Int.natCast_mul _ _
    omega
  · rw [cnt, if_pos cl, sl, hA0, Int.add_mul, hWx, hWy]
    simp [Int.natCast_mul]

theorem joinR_two (xs ys : List Int) (Wx Wy A0 : Nat) (hx : xs.length = A0 * Wx) (hy : ys.length = A0 * Wy) : (joinR [(xs, Wx), (ys, Wy)] A0).length = A0 * (Wx + Wy) := by
  unfold joinR
  refine flat_len' _ _ _ fun i hi => ?_
  have hr : ∀ (zs : List Int) (W : Nat), zs.length = A0 * W → (rowL zs W i).length = W := fun zs W h => rowL_len (by
    rw [h, show i * W + W = (i + 1) * W from by rw [Nat.add_mul]; omega]
    exact Nat.mul_le_mul_right _ hi)
  unfold rowsJ
  simp [hr xs Wx hx, hr ys Wy hy]

def catR (A : At) (t0 t1 : Int) (x y xs ys : List Int) : R (Int × List Int × List Int) :=
  doR (nodeP [tq t0 x xs, tq t1 y ys] (outC A t0 t1 x y)) fun _ => .ok (joinR [(xs, (cnt (x.drop ((axisO (A.int ⟨#[97, 120, 105, 115]⟩ 0) x.length).getD 0))).toNat), (ys, (cnt (y.drop ((axisO (A.int ⟨#[97, 120, 105, 115]⟩ 0) x.length).getD 0))).toNat)] (cnt (x.take ((axisO (A.int ⟨#[97, 120, 105, 115]⟩ 0) x.length).getD 0))).toNat)

theorem cat_do (n : Nod) (A : At) (i1 i2 : ByteArray) (hop : n.op = ⟨#[67, 111, 110, 99, 97, 116]⟩) (u : Sl) (T0 T1 : Ten) (x y xs ys : List Int) (w : World) (hl : Laid w) (hni : NodeIn w n [i1, i2] A.xs A.cs) (hno : NodeOk w n A) (hck : checkF (ruleF n.op) n.op [i1, i2] n.out A.xs A.cs = 0) (hth : thenL (A.xs.find? (isA ⟨#[116, 104, 101, 110]⟩ 3)) = []) (ho : n.out.size ≤ 1048576) (hv : TensIn w u.v [(T0, (x, xs)), (T1, (y, ys))]) (hzi : -9223372036854775808 ≤ A.int ⟨#[97, 120, 105, 115]⟩ 0) :
    Calls Tryz.prog 11 #[nval n, .slice u.a u.n u.c] w (DoQ w (catR A T0.ty T1.ty x y xs ys)) := by
  refine mdo_any _ u _ w fun wx hx => mbdo_any _ u _ _ wx (nz_node (nz_outC _ _ _ _ _)) (fun l => nz_ok _) (fun wy hy => ?_) (fun wy ty dv l hy hr hd => ?_)
  · have hg := grown_trans hx hy
    refine bnode_any n u [(T0, (x, xs)), (T1, (y, ys))] _ wy (hv.more hg) (by simp) fun wz z vs hz hvs h1 h2 => ?_
    obtain ⟨v0, v1, rfl, e0, e1⟩ := two_valsL h1 h2
    have key := cat_out n A i1 i2 hop z v0 v1 x y wz (hl.more (grown_trans hg hz)) (hni.more (grown_trans hg hz)) (hno.more (grown_trans hg hz)) hck hth ho hvs
    rw [e0, e1] at key
    exact key
  · have hg := grown_trans hx hy
    obtain ⟨hall, hr⟩ := node_inv hr
    obtain ⟨cx, cy, -, hj, cl⟩ := outC_inv hr
    obtain ⟨ax, hax, hyl, hlike, hle⟩ := joined_ok hj
    simp only [tq, okT, List.all_cons, List.all_nil, Bool.and_true, Bool.and_eq_true, beq_iff_eq] at hall
    have lt := axisO_lt hax
    obtain ⟨A0, Wx, Wy, hA, A5, hWx, hWy, w1, w2, hxl, hyl2, hN⟩ := cat_nums lt hyl hlike hle cx cy cl (pb_inv hall.1).2 (pb_inv hall.2).2
    have hll : l.length = x.length := by rw [hle, List.length_set]
    have htk : l.take ax = x.take ax := (like_parts (x := x) (y := l) hll (by rw [hle]; exact set_like x ax _)).1
    rw [hax, Option.getD_some, ← htk, hA, hWx, hWy]
    simp only [Int.toNat_natCast]
    have hz : pzJ ax [(T0, (x, xs)), (T1, (y, ys))] = [(xs, Wx), (ys, Wy)] := by
      unfold pzJ wdJ
      simp only [List.map_cons, List.map_nil, hWx, hWy, Int.toNat_natCast]
    have hx5 : xs.length ≤ 65536 := by have := (fine_of cx).le; have := (pb_inv hall.1).2; omega
    have hy5 : ys.length ≤ 65536 := by have := (fine_of cy).le; have := (pb_inv hall.2).2; omega
    have hN5 : A0 * (Wx + Wy) ≤ 65536 := by have h1 := (fine_of cl).le; rw [cnt, if_pos cl] at hN; rw [hN] at h1; omega
    have key := moved_cat n A hop u [(T0, (x, xs)), (T1, (y, ys))] n.out ty dv l ax A0 (A0 * (Wx + Wy)) wy (hno.more hg) (hv.more hg) hd (by have := (fine_of cx).few; omega) hzi (by rw [hll]; exact hax) hA A5 hN hN5 (by rw [hz, joinR_two xs ys Wx Wy A0 hxl hyl2]) (fun p hp => by
      simp only [List.mem_cons, List.not_mem_nil, or_false] at hp
      rcases hp with rfl | rfl
      · exact ⟨by show 1 ≤ x.length; omega, by show ax ≤ x.length; omega, by show 1 ≤ cnt (x.drop ax); rw [hWx]; omega, by show xs.length = A0 * (cnt (x.drop ax)).toNat; rw [hWx, Int.toNat_natCast]; exact hxl, hx5⟩
      · exact ⟨by show 1 ≤ y.length; omega, by show ax ≤ y.length; omega, by show 1 ≤ cnt (y.drop ax); rw [hWy]; omega, by show ys.length = A0 * (cnt (y.drop ax)).toNat; rw [hWy, Int.toNat_natCast]; exact hyl2, hy5⟩) (by simp)
    rw [hz] at key
    exact key

end Go.Proofs.YtaoplfpigjkgpaaGreatDoor

namespace Go.Proofs.YtaoplfpigjkgpaaGreatDoor

open Go.RowKit

def axA (a : Int) : Atr := ⟨⟨#[97, 120, 105, 115]⟩, 2, 0, a, ⟨#[]⟩, 0, nilS, nilS, nilS⟩
def axAt (op : ByteArray) (a : Int) : At := ⟨op, [axA a], [⟨[], [], []⟩]⟩

theorem ax_attrs {w : World} {B : Nat} {a : Int} (h : w.heap[B]? = some (.cells #[.string ⟨#[97, 120, 105, 115]⟩, .int .i64 2, .int .i64 0, .int .i64 a, .string ⟨#[]⟩, .int .i64 0, .slice none 0 0, .slice none 0 0, .slice none 0 0] 41 (0, 0))) : IsAttrs w (.slice (some ⟨B, 0, none⟩) 1 1) [axA a] :=
  lit_isLG (te := 41) (bytes := 136) (xs := [axA a]) acells_len h rfl rfl (Nat.le_of_ble_eq_true rfl) (Nat.le_of_ble_eq_true rfl)

theorem ax_has (w : World) (op : ByteArray) (a : Int) : ∀ (j : Nat) (b : Atr), (axAt op a).xs[j]? = some b → ∃ c, (axAt op a).cs[j]? = some c ∧ Has w b c
  | 0, b, h => by
    cases h
    exact ⟨_, rfl, ⟨ints_nil w, ints_nil w, ints_nil w⟩⟩
  | _ + 1, b, h => by simp [axAt] at h

theorem ax_ok {w : World} {op out : ByteArray} {iv : Sl} {B : Nat} {a : Int} (h1 : -9223372036854775808 ≤ a) (h2 : a ≤ 9223372036854775807) (h : IsAttrs w (.slice (some ⟨B, 0, none⟩) 1 1) [axA a]) : NodeOk w ⟨op, ⟨#[]⟩, iv, out, ⟨some ⟨B, 0, none⟩, 1, 1⟩⟩ (axAt op a) :=
  ⟨rfl, h, ax_has w op a, fun b hb => by
    simp only [axAt, List.mem_cons, List.not_mem_nil, or_false] at hb
    subst hb
    exact ⟨h1, h2⟩⟩

theorem ax_in {w : World} {op out : ByteArray} {iv : Sl} {B : Nat} {a : Int} {ins : List ByteArray} (hi : IsStrs w iv.v ins) (h : IsAttrs w (.slice (some ⟨B, 0, none⟩) 1 1) [axA a]) : NodeIn w ⟨op, ⟨#[]⟩, iv, out, ⟨some ⟨B, 0, none⟩, 1, 1⟩⟩ ins (axAt op a).xs (axAt op a).cs :=
  ⟨hi, h, ax_has w op a, by simp [axAt], fun b hb => by
    simp only [axAt, List.mem_cons, List.not_mem_nil, or_false] at hb
    subst hb
    show 0 ≤ 1048576
    omega⟩

theorem ax_int (op : ByteArray) (a : Int) : At.int (axAt op a) ⟨#[97, 120, 105, 115]⟩ 0 = a := by kernel_rfl

theorem ax_then (op : ByteArray) (a : Int) : thenL ((axAt op a).xs.find? (isA ⟨#[116, 104, 101, 110]⟩ 3)) = [] := by kernel_rfl

end Go.Proofs.YtaoplfpigjkgpaaGreatDoor

namespace Go.Proofs.YtaoplfpigjkgpaaGreatDoor

open Go.RowKit

theorem range_mul (f : Nat → List Int) (A : Nat) : ∀ z : Nat, (List.range z).flatMap (fun i => (List.range A).flatMap fun h => f (i * A + h)) = (List.range (z * A)).flatMap f
  | 0 => by simp
  | z + 1 => by
    rw [List.range_succ, List.flatMap_append, range_mul f A z, Nat.add_mul, Nat.one_mul, List.range_add, List.flatMap_append]
    congr 1
    rw [List.flatMap_cons, List.flatMap_nil, List.append_nil, List.flatMap_map]

theorem plc_setA : ∀ (X : List Int) (ax : Nat) (e p : Int), ax < X.length → (∀ d ∈ X, 1 ≤ d) → 1 ≤ e → Vw.plc (X.set ax e) (strd X) p = (List.range (prod (X.take ax)).toNat).flatMap fun (h : Nat) => Vw.iota (p + (h : Int) * (X.getD ax 0 * prod (X.drop (ax + 1)))) (e * prod (X.drop (ax + 1))).toNat
  | [], ax, _, _, h, _, _ => by simp at h
  | d :: ds, 0, e, p, _, hd, he => by
    have pR : 1 ≤ prod ds := prod_pos _ (fun z hz => hd z (by simp [hz]))
    obtain ⟨R, hR⟩ : ∃ R : Nat, prod ds = R := ⟨(prod ds).toNat, by omega⟩
    obtain ⟨E, rfl⟩ : ∃ E : Nat, e = E := ⟨e.toNat, by omega⟩
    have e1 : ∀ q : Int, Vw.plc ds (strd ds) q = Vw.iota q R := fun q => by rw [Vw.plc_whole ds q (fun z hz => hd z (by simp [hz])), hR, Int.toNat_natCast]
    simp only [List.set_cons_zero, strd, Vw.plc, List.take_zero, List.drop_succ_cons, List.drop_zero, prod]
    simp only [e1, hR, Int.toNat_natCast]
    rw [Vw.iota_flat p R E]
    simp only [Int.toNat_one, List.range_one, List.flatMap_cons, List.flatMap_nil, List.append_nil]
    rw [← Int.natCast_mul, Int.toNat_natCast]
    congr 1
    simp
  | z :: ds, ax + 1, e, p, h, hd, he => by
    have hlt : ax < ds.length := by simpa using h
    have hds : ∀ d ∈ ds, 1 ≤ d := fun d hd' => hd d (by simp [hd'])
    have hz := hd z (by simp)
    have ih := fun q => plc_setA ds ax e q hlt hds he
    have hs := prod_split ds ax hlt
    have pA : 1 ≤ prod (ds.take ax) := prod_pos _ (pos_take hds ax)
    obtain ⟨A, hA⟩ : ∃ A : Nat, prod (ds.take ax) = A := ⟨(prod (ds.take ax)).toNat, by omega⟩
    obtain ⟨Z, rfl⟩ : ∃ Z : Nat, z = Z := ⟨z.toNat, by omega⟩
    obtain ⟨D, hD⟩ : ∃ D, D = ds.getD ax 0 * prod (ds.drop (ax + 1)) := ⟨_, rfl⟩
    simp only [List.set_cons_succ, strd, Vw.plc, List.take_succ_cons, List.drop_succ_cons, List.getD_cons_succ, prod, ih]
    rw [← hD] at hs ⊢
    rw [hA] at hs ⊢
    rw [Int.toNat_natCast, ← Int.natCast_mul, Int.toNat_natCast, Int.toNat_natCast, ← range_mul _ A Z]
    congr 1
    funext i
    congr 1
    funext k
    congr 1
    rw [hs, Int.natCast_add, Int.natCast_mul, Int.add_mul, Int.mul_assoc, Int.add_assoc]

theorem iota_read (xs : List Int) (q n : Nat) (h : q + n ≤ xs.length) : (Vw.iota (q : Int) n).map (fun x => xs.getD x.toNat 0) = (xs.drop q).take n := by
  refine List.ext_getElem (by rw [List.length_map, Vw.iota_length, List.length_take, List.length_drop]; omega) fun i h1 h2 => ?_
  rw [List.length_map, Vw.iota_length] at h1
  rw [List.getElem_map, List.getElem_take, List.getElem_drop]
  unfold Vw.iota
  rw [List.getElem_map, List.getElem_range]
  rw [show ((q : Int) + (i : Int)).toNat = q + i by omega]
  simp [List.getD, show q + i < xs.length by omega]

def cutL (xs : List Int) (A0 d R s m : Nat) : List Int := (List.range A0).flatMap fun h => (xs.drop (s * R + h * (d * R))).take (m * R)

theorem cutL_len {xs : List Int} {A0 d R s m : Nat} (hl : xs.length = A0 * (d * R)) (hm : s + m ≤ d) : (cutL xs A0 d R s m).length = A0 * (m * R) ∧ ∀ h, h < A0 → s * R + h * (d * R) + m * R ≤ xs.length := by
  have key : ∀ h, h < A0 → s * R + h * (d * R) + m * R ≤ xs.length := fun h hh => by
    have h1 : (s + m) * R ≤ d * R := Nat.mul_le_mul_right _ hm
    have h2 : (h + 1) * (d * R) ≤ A0 * (d * R) := Nat.mul_le_mul_right _ hh
    rw [Nat.add_mul] at h1 h2
    omega
  refine ⟨?_, key⟩
  unfold cutL
  refine flat_len' _ _ _ fun i hi => ?_
  rw [List.length_take, List.length_drop]
  have := key i hi
  omega

theorem cut_rd {x xs : List Int} {ax A0 d R s m : Nat} (hlt : ax < x.length) (F : Fine x) (hA : prod (x.take ax) = (A0 : Int)) (hd : x.getD ax 0 = (d : Int)) (hR : prod (x.drop (ax + 1)) = (R : Int)) (hl : (xs.length : Int) = prod x) (hm : 1 ≤ m) (hsm : s + m ≤ d) : Vw.rdL (Vw.dot ((List.replicate x.length (0 : Int)).set ax s) (strd x)) (x.set ax m) (strd x) xs = cutL xs A0 d R s m := by
  have hxl : xs.length = A0 * (d * R) := by
    rw [prod_split x ax hlt, hA, hd, hR, ← Int.natCast_mul, ← Int.natCast_mul] at hl
    omega
  have hP : Parts x ((List.replicate x.length (0 : Int)).set ax s) (x.set ax m) := by
    refine ⟨by simp, by simp, fun i hi => ?_⟩
    have ga : ∀ (L : List Int) (z : Int), ax < L.length → (L.set ax z).getD i 0 = if ax = i then z else L.getD i 0 := fun L z hL => by
      simp only [List.getD]
      by_cases e : ax = i
      · subst e
        rw [if_pos rfl, List.getElem?_set_self hL]
        rfl
      · rw [if_neg e, List.getElem?_set_ne e]
    have hi1 := F.at i hi
    have e0 : (List.replicate x.length (0 : Int)).getD i 0 = 0 := by simp [List.getD, hi]
    rw [ga _ _ (by simpa using hlt), ga _ _ hlt, e0]
    by_cases e : ax = i
    · subst e
      rw [if_pos rfl, if_pos rfl, hd]
      omega
    · rw [if_neg e, if_neg e]
      omega
  have hdot : Vw.dot ((List.replicate x.length (0 : Int)).set ax s) (strd x) = ((s * R : Nat) : Int) := by
    have key : ∀ (n : Nat) (ss : List Int) (k : Nat), k < n → ss.length = n → Vw.dot ((List.replicate n (0 : Int)).set k s) ss = s * ss.getD k 0 := by
      intro n
      induction n with
      | zero => intro ss k hk; omega
      | succ n ih =>
        intro ss k hk hs
        cases ss with
        | nil => simp at hs
        | cons c cs =>
          cases k with
          | zero =>
            have h0 : Vw.dot (List.replicate n (0 : Int)) cs = 0 := by
              have : ∀ (n : Nat) (cs : List Int), Vw.dot (List.replicate n (0 : Int)) cs = 0 := by
                intro n
                induction n with
                | zero => intro cs; rfl
                | succ n ih => intro cs; cases cs with
                  | nil => rfl
                  | cons c cs => simp only [List.replicate_succ, Vw.dot, ih]; omega
              exact this n cs
            simp only [List.replicate_succ, List.set_cons_zero, Vw.dot, h0, List.getD_cons_zero]
            omega
          | succ k =>
            have := ih cs k (by omega) (by simpa using hs)
            simp only [List.replicate_succ, List.set_cons_succ, Vw.dot, this, List.getD_cons_succ]
            omega
    rw [key x.length (strd x) ax hlt (strd_length x), strd_at x ax hlt, hR, ← Int.natCast_mul]
  unfold Vw.rdL
  rw [if_pos (part_rd F hP hl), hdot]
  unfold Vw.shows
  rw [plc_setA x ax m _ hlt F.pos (by omega), hA, hd, hR, Int.toNat_natCast, List.map_flatMap]
  unfold cutL
  refine flat_congr fun h hh => ?_
  have hb := (cutL_len (s := s) hxl hsm).2 h (List.mem_range.1 hh)
  rw [← Int.natCast_mul, ← Int.natCast_mul, ← Int.natCast_mul, ← Int.natCast_add, Int.toNat_natCast]
  exact iota_read xs _ _ hb
where
  flat_congr {l : List Nat} {f g : Nat → List Int} (h : ∀ a ∈ l, f a = g a) : l.flatMap f = l.flatMap g := by
    induction l with
    | nil => rfl
    | cons a l ih => rw [List.flatMap_cons, List.flatMap_cons, h a (by simp), ih fun b hb => h b (by simp [hb])]

theorem cut_join {xs : List Int} {A0 d R m : Nat} (hl : xs.length = A0 * (d * R)) (hm : m ≤ d) : joinR [(cutL xs A0 d R 0 m, m * R), (cutL xs A0 d R m (d - m), (d - m) * R)] A0 = xs := by
  have l1 := cutL_len (s := 0) (m := m) hl (by omega)
  have l2 := cutL_len (s := m) (m := d - m) hl (by omega)
  have hrow : ∀ h, h < A0 → rowsJ [(cutL xs A0 d R 0 m, m * R), (cutL xs A0 d R m (d - m), (d - m) * R)] h = rowL xs (d * R) h := fun h hh => by
    unfold rowsJ
    simp only [List.flatMap_cons, List.flatMap_nil, List.append_nil]
    have p1 := flat_part (fun h => (xs.drop (0 * R + h * (d * R))).take (m * R)) (m * R) A0 (fun i hi => by rw [List.length_take, List.length_drop]; have := l1.2 i hi; omega) h hh
    have p2 := flat_part (fun h => (xs.drop (m * R + h * (d * R))).take ((d - m) * R)) ((d - m) * R) A0 (fun i hi => by rw [List.length_take, List.length_drop]; have := l2.2 i hi; omega) h hh
    have e1 : rowL (cutL xs A0 d R 0 m) (m * R) h = (xs.drop (0 * R + h * (d * R))).take (m * R) := p1
    have e2 : rowL (cutL xs A0 d R m (d - m)) ((d - m) * R) h = (xs.drop (m * R + h * (d * R))).take ((d - m) * R) := p2
    rw [e1, e2]
    unfold rowL
    rw [Nat.zero_mul, Nat.zero_add, show d * R = m * R + (d - m) * R from by rw [← Nat.add_mul]; congr 1; omega, List.take_add, List.drop_drop, Nat.add_comm (m * R) (h * _)]
  have e : joinR [(cutL xs A0 d R 0 m, m * R), (cutL xs A0 d R m (d - m), (d - m) * R)] A0 = (List.range A0).flatMap fun h => rowL xs (d * R) h := by
    unfold joinR
    exact cut_rd.flat_congr fun h hh => hrow h (List.mem_range.1 hh)
  rw [e]
  have hl2 : ((List.range A0).flatMap fun h => rowL xs (d * R) h).length = xs.length := by
    rw [flat_len' _ (d * R) A0 fun i hi => rowL_len (by rw [hl, show i * (d * R) + d * R = (i + 1) * (d * R) from by rw [Nat.add_mul]; omega]; exact Nat.mul_le_mul_right _ hi), hl]
  refine List.ext_getElem hl2 fun p h1 h2 => ?_
  have hp : p < A0 * (d * R) := by rw [← hl]; exact h2
  have hW : 0 < d * R := by
    rcases Nat.eq_zero_or_pos (d * R) with h | h
    · rw [h] at hp; simp at hp
    · exact h
  have hq : p / (d * R) < A0 := by rw [Nat.div_lt_iff_lt_mul hW]; exact hp
  have hmod : p % (d * R) < d * R := Nat.mod_lt _ hW
  have ep : p / (d * R) * (d * R) + p % (d * R) = p := by rw [Nat.mul_comm]; exact Nat.div_add_mod p (d * R)
  have hh := flat_part (fun i => rowL xs (d * R) i) (d * R) A0 (fun i hi => rowL_len (by rw [hl, show i * (d * R) + d * R = (i + 1) * (d * R) from by rw [Nat.add_mul]; omega]; exact Nat.mul_le_mul_right _ hi)) (p / (d * R)) hq
  have h3 : (((((List.range A0).flatMap fun i => rowL xs (d * R) i)).drop (p / (d * R) * (d * R))).take (d * R))[p % (d * R)]? = (rowL xs (d * R) (p / (d * R)))[p % (d * R)]? := by rw [hh]
  unfold rowL at h3
  rw [List.getElem?_take_of_lt hmod, List.getElem?_drop, ep, List.getElem?_take_of_lt hmod, List.getElem?_drop, ep] at h3
  have h4 : p < ((List.range A0).flatMap fun i => (xs.drop (i * (d * R))).take (d * R)).length := h1
  rw [List.getElem?_eq_getElem h4, List.getElem?_eq_getElem h2, Option.some.injEq] at h3
  exact h3

end Go.Proofs.YtaoplfpigjkgpaaGreatDoor
