/- Joined texts: MvGaDo, MvLive. -/
import Derived.Test.YtaoplfpigjkgpaaGreatDoorPartBK
import Derived.Test.YtaoplfpigjkgpaaGreatDoorPartBI
import Derived.Test.YtaoplfpigjkgpaaGreatDoorPartBL
namespace Go.Proofs.YtaoplfpigjkgpaaGreatDoor

open Go.RowKit

def outG (A : At) (t0 t1 : Int) (x y : List Int) : R (Int × List Int) :=
  (typP t0).bind fun _ => (countP x).bind fun _ => (typP t1).bind fun _ => (countP y).bind fun _ => (mustP (t1 == 6 || t1 == 7)).bind fun _ => (gatherP A x y).bind fun d => (countP d).bind fun _ => .ok (t0, d)

theorem valueG (A : At) (v0 v1 : Val) (x y : List Int) : valueP 0 true [(v0, x), (v1, y)] ((mustP ((tysOf [(v0, x), (v1, y)]).getD 1 0 == 6 || (tysOf [(v0, x), (v1, y)]).getD 1 0 == 7)).bind (fun _ => .ok ((tysOf [(v0, x), (v1, y)]).getD 0 0))) (gatherP A x y) [] = outG A v0.ty v1.ty x y := by
  unfold valueP outG
  simp only [stopP, if_true, vinP, tysOf, List.map_cons, List.map_nil, thenP, bind_assocE, List.getD_cons_zero, List.getD_cons_succ]
  rfl

theorem ga_out (n : Nod) (A : At) (i1 i2 : ByteArray) (hop : n.op = ⟨#[71, 97, 116, 104, 101, 114]⟩) (u : Sl) (v0 v1 : Val) (x y : List Int) (w : World) (hl : Laid w) (hni : NodeIn w n [i1, i2] A.xs A.cs) (hno : NodeOk w n A) (hck : checkF (ruleF n.op) n.op [i1, i2] n.out A.xs A.cs = 0) (hth : thenL (A.xs.find? (isA ⟨#[116, 104, 101, 110]⟩ 3)) = []) (ho : n.out.size ≤ 1048576) (hv : ValsIn w u.v [(v0, x), (v1, y)]) :
    Calls Tryz.prog 38 #[nval n, .slice u.a u.n u.c] w (AttQ n.out w (outG A v0.ty v1.ty x y)) := by
  refine out_any n u _ w fun wx hx => ?_
  have key := valueof_any n A [i1, i2] u [(v0, x), (v1, y)] wx (hl.more hx) (hni.more hx) (hv.more hx) (by omega) _ (gatherP A x y) (fun hc hll hin wy hy => ((type_Gather n A u [(v0, x), (v1, y)] wy hop (hno.more (grown_trans hx hy)) (hv.more (grown_trans hx hy)) rfl (by simp) (vin2 hin).1).mono fun e w' he => ended_monoE he fun t v e1 e2 => ⟨e2, by
    obtain ⟨_, -, e1⟩ := bind_ok e1
    cases e1
    exact (vin2 hin).1 _ (by simp [tysOf])⟩)) (fun hc hll hin wy hy => dims_Gather n A u v0 v1 x y wy hop (hno.more (grown_trans hx hy)) (hv.more (grown_trans hx hy)) (fine_of (vin2 hin).2.1) (fine_of (vin2 hin).2.2))
  rw [hck, hth] at key
  have e := valueG A v0 v1 x y
  refine key.mono fun e' w' he => ?_
  rw [← e]
  exact ended_monoE he fun r v _ e2 => e2

theorem outG_inv {A : At} {t0 t1 ty : Int} {x y l : List Int} (h : outG A t0 t1 x y = .ok (ty, l)) : ty = t0 ∧ cntE x = 0 ∧ cntE y = 0 ∧ (∃ ax, axisO (A.int ⟨#[97, 120, 105, 115]⟩ 0) x.length = some ax ∧ l = x.take ax ++ (y ++ x.drop (ax + 1))) ∧ cntE l = 0 := by
  unfold outG at h
  obtain ⟨_, -, h⟩ := bind_ok h
  obtain ⟨_, hx, h⟩ := bind_ok h
  obtain ⟨_, -, h⟩ := bind_ok h
  obtain ⟨_, hy, h⟩ := bind_ok h
  obtain ⟨_, -, h⟩ := bind_ok h
  obtain ⟨d, hd, h⟩ := bind_ok h
  obtain ⟨_, hc, h⟩ := bind_ok h
  cases h
  unfold gatherP at hd
  obtain ⟨a, ha, hd⟩ := bind_ok hd
  cases hd
  unfold axisP at ha
  split at ha
  · rename_i i hi
    cases ha
    exact ⟨rfl, count_ok hx, count_ok hy, ⟨a, hi, rfl⟩, count_ok hc⟩
  · cases ha

theorem nz_outG (A : At) (t0 t1 : Int) (x y : List Int) : ∀ c, outG A t0 t1 x y = .error c → c ≠ 0 := by
  intro c h
  unfold outG at h
  have bnd : ∀ {α β : Type} {r : R α} {f : α → R β}, r.bind f = .error c → r = .error c ∨ ∃ a, r = .ok a ∧ f a = .error c := by
    intro α β r f h
    cases r with
    | error c' => exact .inl (by cases h; rfl)
    | ok a => exact .inr ⟨a, rfl, h⟩
  have must : ∀ {b : Bool}, mustP b = .error c → c ≠ 0 := by
    intro b h
    unfold mustP at h
    split at h
    · cases h
    · cases h; decide
  rcases bnd h with h | ⟨_, -, h⟩
  · exact nz_typT h
  rcases bnd h with h | ⟨_, -, h⟩
  · exact nz_cntT h
  rcases bnd h with h | ⟨_, -, h⟩
  · exact nz_typT h
  rcases bnd h with h | ⟨_, -, h⟩
  · exact nz_cntT h
  rcases bnd h with h | ⟨_, -, h⟩
  · exact must h
  rcases bnd h with h | ⟨_, -, h⟩
  · unfold gatherP at h
    rcases bnd h with h | ⟨_, -, h⟩
    · unfold axisP at h
      split at h
      · cases h
      · cases h; decide
    · cases h
  rcases bnd h with h | ⟨_, -, h⟩
  · exact nz_cntT h
  · cases h

def gaR (A : At) (t0 t1 : Int) (x y xs ys : List Int) : R (Int × List Int × List Int) :=
  doR (nodeP [tq t0 x xs, tq t1 y ys] (outG A t0 t1 x y)) fun _ => gathR xs (prod (x.drop ((axisO (A.int ⟨#[97, 120, 105, 115]⟩ 0) x.length).getD 0 + 1))).toNat (x.getD ((axisO (A.int ⟨#[97, 120, 105, 115]⟩ 0) x.length).getD 0) 0).toNat (prod (x.take ((axisO (A.int ⟨#[97, 120, 105, 115]⟩ 0) x.length).getD 0))).toNat ys

theorem nz_gathR (xs : List Int) (W dim A : Nat) (idx : List Int) : ∀ c, gathR xs W dim A idx = .error c → c ≠ 0 := by
  intro c h
  unfold gathR at h
  split at h
  · cases h
  · cases h; decide

theorem cnt_fine {l : List Int} (h : cntE l = 0) : cnt l = prod l := by rw [cnt, if_pos h]

theorem cntE_sub {l m : List Int} {a b : List Int} (h : cntE l = 0) (e : l = a ++ (m ++ b)) : cntE m = 0 := by
  have F := fine_of h
  rw [e] at F
  refine cntE_ok (fun z hz => F.pos z (by simp [hz])) (by have := F.few; simp at this; omega) ?_
  have h1 := F.le
  rw [prod_append, prod_append] at h1
  have pa : 1 ≤ prod a := prod_pos _ (fun z hz => F.pos z (by simp [hz]))
  have pm : 1 ≤ prod m := prod_pos _ (fun z hz => F.pos z (by simp [hz]))
  have pb : 1 ≤ prod b := prod_pos _ (fun z hz => F.pos z (by simp [hz]))
  have k1 : prod m ≤ prod m * prod b := le_mul_right pb (by omega)
  have k2 : prod m * prod b ≤ prod a * (prod m * prod b) := le_mul_left pa (by omega)
  omega

theorem ga_do (n : Nod) (A : At) (i1 i2 : ByteArray) (hop : n.op = ⟨#[71, 97, 116, 104, 101, 114]⟩) (u : Sl) (T0 T1 : Ten) (x y xs ys : List Int) (w : World) (hl : Laid w) (hni : NodeIn w n [i1, i2] A.xs A.cs) (hno : NodeOk w n A) (hck : checkF (ruleF n.op) n.op [i1, i2] n.out A.xs A.cs = 0) (hth : thenL (A.xs.find? (isA ⟨#[116, 104, 101, 110]⟩ 3)) = []) (ho : n.out.size ≤ 1048576) (hv : TensIn w u.v [(T0, (x, xs)), (T1, (y, ys))]) (hzi : -9223372036854775808 ≤ A.int ⟨#[97, 120, 105, 115]⟩ 0)
    (hyl : ∀ ax, axisO (A.int ⟨#[97, 120, 105, 115]⟩ 0) x.length = some ax → plcAll (x.getD ax 0).toNat ys = true → 1 ≤ y.length) :
    Calls Tryz.prog 11 #[nval n, .slice u.a u.n u.c] w (DoQ w (gaR A T0.ty T1.ty x y xs ys)) := by
  refine mdo_any _ u _ w fun wx hx => mbdo_any _ u _ _ wx (nz_node (nz_outG _ _ _ _ _)) (fun l => nz_gathR _ _ _ _ _) (fun wy hy => ?_) (fun wy ty dv l hy hr hd => ?_)
  · have hg := grown_trans hx hy
    refine bnode_any n u [(T0, (x, xs)), (T1, (y, ys))] _ wy (hv.more hg) (by simp) fun wz z vs hz hvs h1 h2 => ?_
    obtain ⟨v0, v1, rfl, e0, e1⟩ := two_valsL h1 h2
    have key := ga_out n A i1 i2 hop z v0 v1 x y wz (hl.more (grown_trans hg hz)) (hni.more (grown_trans hg hz)) (hno.more (grown_trans hg hz)) hck hth ho hvs
    rw [e0, e1] at key
    exact key
  · have hg := grown_trans hx hy
    obtain ⟨hall, hr⟩ := node_inv hr
    obtain ⟨-, c1, c2, ⟨ax, hax, hle⟩, c3⟩ := outG_inv hr
    simp only [tq, okT, List.all_cons, List.all_nil, Bool.and_true, Bool.and_eq_true, beq_iff_eq] at hall
    have lt := axisO_lt hax
    have F := fine_of c1
    have lx := (pb_inv hall.1).2
    have ly := (pb_inv hall.2).2
    rw [hax]
    simp only [Option.getD_some]
    have ex : x = x.take ax ++ ([x.getD ax 0] ++ x.drop (ax + 1)) := by
      have e : x.getD ax 0 = x[ax] := by simp [List.getD, lt]
      rw [e]
      simp
    have fd := F.pos (x.getD ax 0) (by rw [List.getD, List.getElem?_eq_getElem lt]; simp)
    have pA : 1 ≤ prod (x.take ax) := prod_pos _ (fun z hz => F.pos z (List.mem_of_mem_take hz))
    have pW : 1 ≤ prod (x.drop (ax + 1)) := prod_pos _ (fun z hz => F.pos z (List.mem_of_mem_drop hz))
    have pY : 1 ≤ prod y := prod_pos _ (fun z hz => (fine_of c2).pos z hz)
    obtain ⟨dim, hdim⟩ : ∃ d : Nat, x.getD ax 0 = d := ⟨(x.getD ax 0).toNat, by omega⟩
    obtain ⟨W, hW⟩ : ∃ d : Nat, prod (x.drop (ax + 1)) = d := ⟨(prod (x.drop (ax + 1))).toNat, by omega⟩
    obtain ⟨A0, hA⟩ : ∃ d : Nat, prod (x.take ax) = d := ⟨(prod (x.take ax)).toNat, by omega⟩
    rw [hdim, hW, hA]
    simp only [Int.toNat_natCast]
    have epx : prod x = ((A0 * dim * W : Nat) : Int) := by
      conv => lhs; rw [ex]
      rw [prod_append, prod_append, hA, hW, hdim]
      simp [prod, Int.mul_assoc]
    have hxl : xs.length = A0 * dim * W := by rw [epx] at lx; omega
    have fle := F.le
    rw [epx] at fle
    have hd65 : dim ≤ 65536 := by
      have : dim ≤ A0 * dim * W := Nat.le_trans (Nat.le_mul_of_pos_left _ (by omega)) (Nat.le_mul_of_pos_right _ (by omega))
      omega
    have yle := (fine_of c2).le
    refine moved_gath n A hop u T0 T1 x xs y ys _ ty dv ax _ wy (hno.more hg) (hv.more hg) hax hzi F.few fun wz hz => ?_
    have hz2 := grown_trans hg hz
    obtain ⟨k1, k2⟩ := hv.has (T0, (x, xs)) (by simp)
    obtain ⟨k3, k4⟩ := hv.has (T1, (y, ys)) (by simp)
    by_cases hp : plcAll dim ys = true
    · have hy1 := hyl ax hax (by rw [hdim, Int.toNat_natCast]; exact hp)
      have ell : l.length = ax + (y.length + (x.length - (ax + 1))) := by rw [hle]; simp; omega
      have epl : prod l = ((A0 * ys.length * W : Nat) : Int) := by
        rw [hle, prod_append, prod_append, hA, hW, ← ly]
        simp [Int.mul_assoc]
      have lle := (fine_of c3).le
      rw [epl] at lle
      exact gathered_any T0.ty T1.ty T0.dv T0.tv T1.tv dv T1.dv.a T1.dv.n T1.dv.c x xs ys l ax (x.length - (ax + 1)) A0 dim W (A0 * ys.length * W) wz (k1.more hz2) (k2.more hz2) (k4.more hz2) (hd.more hz) (by omega) hdim hd65 (by rw [cnt_fine (cntE_sub c1 (a := x.take (ax + 1)) (b := []) (by simp)), hW]) (by omega) (by omega) (by omega) (by rw [hle, List.take_left' (by rw [List.length_take]; omega), cnt_fine (cntE_sub c1 (a := []) (b := x.drop ax) (by simp)), hA]) (by rw [cnt_fine c3, epl]) rfl hxl (by rw [hxl]; omega) (by omega) (by omega) (by omega) (by omega) (by omega) F.few
    · have hp : plcAll dim ys = false := by simpa using hp
      exact gathered_err T0.ty T1.ty T0.dv T0.tv T1.tv dv T1.dv.a T1.dv.n T1.dv.c x xs ys ax A0 dim W wz (k1.more hz2) (k2.more hz2) (k4.more hz2) lt hdim hd65 (by omega) (by have : 1 ≤ prod x := prod_pos _ F.pos; omega) hp

end Go.Proofs.YtaoplfpigjkgpaaGreatDoor

namespace Go.Proofs.YtaoplfpigjkgpaaGreatDoor

open Go.RowKit

theorem five (w : World) (o0 o1 o2 o3 o4 : Obj) : ∀ W, W = ((((w.alloc o0).alloc o1).alloc o2).alloc o3).alloc o4 →
    W.heap[w.heap.size]? = some o0 ∧ W.heap[w.heap.size + 1]? = some o1 ∧ W.heap[w.heap.size + 1 + 1]? = some o2 ∧ W.heap[w.heap.size + 1 + 1 + 1]? = some o3 ∧ W.heap[w.heap.size + 1 + 1 + 1 + 1]? = some o4 ∧ w.grownBy W none := by
  rintro W rfl
  obtain ⟨a0, z0⟩ := new_alloc o0 (x := w) rfl
  obtain ⟨a1, z1⟩ := new_alloc o1 z0
  obtain ⟨a2, z2⟩ := new_alloc o2 z1
  obtain ⟨a3, z3⟩ := new_alloc o3 z2
  obtain ⟨a4, z4⟩ := new_alloc o4 z3
  refine ⟨?_, ?_, ?_, ?_, a4, ?_⟩
  · exact up_alloc _ (up_alloc _ (up_alloc _ (up_alloc _ a0)))
  · exact up_alloc _ (up_alloc _ (up_alloc _ a1))
  · exact up_alloc _ (up_alloc _ a2)
  · exact up_alloc _ a3
  · exact grown_trans (grown_trans (grown_trans (grown_trans (grown_new _ _) (grown_new _ _)) (grown_new _ _)) (grown_new _ _)) (grown_new _ _)

theorem live_ga : gaR ⟨⟨#[71, 97, 116, 104, 101, 114]⟩, [], []⟩ 6 7 [3] [3] [10, 20, 30] [2, 0, -1] = .ok (6, [3], [30, 10, 30]) := by kernel_rfl

theorem live_ge : gaR ⟨⟨#[71, 97, 116, 104, 101, 114]⟩, [], []⟩ 6 7 [3] [] [10, 20, 30] [3] = .error 8 := by kernel_rfl

set_option maxRecDepth 100000 in
set_option maxHeartbeats 4000000 in
theorem small10_any (u : Sl) (ps : List (Ten × Tq)) (w : World) (hv : TensIn w u.v ps) : Calls Tryz.prog 9 #[.slice u.a u.n u.c] w (Told w) := by
  obtain ⟨xa, xc, e1, p1, p2, p3⟩ := hv.vals.form
  rw [List.length_map] at e1 p1 p3
  obtain ⟨ua, un, uc⟩ := u
  simp only [Sl.v, Value.slice.injEq] at e1
  obtain ⟨rfl, rfl, rfl⟩ := e1
  have HV := hide hv
  clear hv
  go_enter Tryz.func9, Tryz.ntmps9
  go_wp2_with fail
  go_loopw [3] (fun i wr => w.grownBy wr none ∧ ∃ (k : Nat), k ≤ ps.length ∧ i = .int .i64 k) (fun i _ => ps.length - (intOf i).toNat)
  case atStart => exact ⟨grown_refl _, 0, Nat.zero_le _, rfl⟩
  case round =>
    obtain ⟨hg, k, hk, rfl⟩ := hrel
    have HG := hide hg
    by_cases hlt : k < ps.length
    · obtain ⟨b, off, rfl⟩ := HV.out.vals.addr (k := k) (by rw [List.length_map]; exact hlt)
      obtain ⟨-, -, a2⟩ := (HV.out.more hg).at k hlt
      obtain ⟨⟨ta, tn, tc⟩, hp⟩ : ∃ p, p = ps[k].1.tv := ⟨_, rfl⟩
      rw [← hp] at a2
      simp only at a2
      clear hp hg
      by_cases hb : 2000 < tn
      · have hb' : (2000 : Int) < tn := by omega
        go_wp2
        go_ret
        exact ⟨_, rfl, HG.out⟩
      · have hb' : ¬ (2000 : Int) < tn := by omega
        go_wp2_with fail
        go_roundw
        case rel => exact ⟨HG.out, k + 1, by omega, by go_num⟩
        case measure => simp [intOf]; omega
    · obtain rfl : k = ps.length := by omega
      clear hg
      go_wp2
      go_ret
      exact ⟨_, rfl, HG.out⟩

set_option maxRecDepth 100000 in
set_option maxHeartbeats 8000000 in
theorem live10_any (w : World) (hl : Laid w) : Calls Tryz.prog 10 #[] w fun e w' => e = .returned (.bool true) ∧ w.grownBy w' none := by
  have HL := hide hl
  clear hl
  obtain ⟨W, hW⟩ : ∃ W, W = ((((w.alloc (.cells #[.string ⟨#[120]⟩, .string ⟨#[121]⟩] 9)).alloc (.cells #[.string ⟨#[71, 97, 116, 104, 101, 114]⟩, .string ⟨#[]⟩, .slice (some ⟨w.heap.size, 0, none⟩) 2 2, .string ⟨#[122]⟩, .slice none 0 0] 25)).alloc (.cells #[.int .i64 3] 3)).alloc (.cells #[.int .i64 10, .int .i64 20, .int .i64 30] 2)).alloc (.cells #[.int .i64 6, .slice (some ⟨w.heap.size + 1 + 1, 0, none⟩) 1 1, .slice (some ⟨w.heap.size + 1 + 1 + 1, 0, none⟩) 3 3] 32) := ⟨_, rfl⟩
  obtain ⟨b0, b1, b2, b3, b4, gW⟩ := five w _ _ _ _ _ W hW
  have GW := hide gW
  have BX : Hid (∀ wx, W.grownBy wx none → wx.heap[w.heap.size]? = some (.cells #[.string ⟨#[120]⟩, .string ⟨#[121]⟩] 9 (0, 0)) ∧ wx.heap[w.heap.size + 1]? = some (.cells #[.string ⟨#[71, 97, 116, 104, 101, 114]⟩, .string ⟨#[]⟩, .slice (some ⟨w.heap.size, 0, none⟩) 2 2, .string ⟨#[122]⟩, .slice none 0 0] 25 (0, 0)) ∧ wx.heap[w.heap.size + 1 + 1]? = some (.cells #[.int .i64 3] 3 (0, 0)) ∧ wx.heap[w.heap.size + 1 + 1 + 1]? = some (.cells #[.int .i64 10, .int .i64 20, .int .i64 30] 2 (0, 0)) ∧ wx.heap[w.heap.size + 1 + 1 + 1 + 1]? = some (.cells #[.int .i64 6, .slice (some ⟨w.heap.size + 1 + 1, 0, none⟩) 1 1, .slice (some ⟨w.heap.size + 1 + 1 + 1, 0, none⟩) 3 3] 32 (0, 0))) := fun wx hx => ⟨box_kept b0 hx, box_kept b1 hx, box_kept b2 hx, box_kept b3 hx, box_kept b4 hx⟩
  have ZW : W.heap.size = w.heap.size + 1 + 1 + 1 + 1 + 1 := by rw [hW]; simp
  obtain ⟨n0, n1, n2, n3, n4⟩ := nod_cells (n := ⟨⟨#[71, 97, 116, 104, 101, 114]⟩, ⟨#[]⟩, ⟨some ⟨w.heap.size, 0, none⟩, 2, 2⟩, ⟨#[122]⟩, ⟨none, 0, 0⟩⟩) b1
  obtain ⟨x0, x1, x2⟩ := ten_cells b4
  rw [hW] at n0 n1 n2 n3 n4 x0 x1 x2
  obtain ⟨V, hV⟩ : ∃ V, V = ((W.alloc (.cells #[.int .i64 3] 3)).alloc (.cells #[.int .i64 2, .int .i64 0, .int .i64 (-1)] 2)).alloc (.cells #[.int .i64 6, .slice (some ⟨w.heap.size + 1 + 1, 0, none⟩) 1 1, .slice (some ⟨w.heap.size + 1 + 1 + 1, 0, none⟩) 3 3, .int .i64 7, .slice (some ⟨w.heap.size + 1 + 1 + 1 + 1 + 1, 0, none⟩) 1 1, .slice (some ⟨w.heap.size + 1 + 1 + 1 + 1 + 1 + 1, 0, none⟩) 3 3] 32) := ⟨_, rfl⟩
  obtain ⟨c0, c1, c2⟩ := three_boxes W (.cells #[.int .i64 3] 3) (.cells #[.int .i64 2, .int .i64 0, .int .i64 (-1)] 2) (.cells #[.int .i64 6, .slice (some ⟨w.heap.size + 1 + 1, 0, none⟩) 1 1, .slice (some ⟨w.heap.size + 1 + 1 + 1, 0, none⟩) 3 3, .int .i64 7, .slice (some ⟨w.heap.size + 1 + 1 + 1 + 1 + 1, 0, none⟩) 1 1, .slice (some ⟨w.heap.size + 1 + 1 + 1 + 1 + 1 + 1, 0, none⟩) 3 3] 32)
  rw [← hV] at c0 c1 c2
  rw [ZW] at c0 c1 c2
  have gV : W.grownBy V none := by rw [hV]; exact grown_trans (grown_trans (grown_new _ _) (grown_new _ _)) (grown_new _ _)
  have GV := hide (grown_trans gW gV)
  have GV0 := hide gV
  obtain ⟨p0, p1, p2, p3, p4⟩ := BX.out V gV
  have E1 := hide (ga_do ⟨⟨#[71, 97, 116, 104, 101, 114]⟩, ⟨#[]⟩, ⟨some ⟨w.heap.size, 0, none⟩, 2, 2⟩, ⟨#[122]⟩, nilS⟩ ⟨⟨#[71, 97, 116, 104, 101, 114]⟩, [], []⟩ ⟨#[120]⟩ ⟨#[121]⟩ rfl ⟨some ⟨w.heap.size + 1 + 1 + 1 + 1 + 1 + 1 + 1, 0, none⟩, 2, 2⟩ ⟨6, ⟨some ⟨w.heap.size + 1 + 1, 0, none⟩, 1, 1⟩, ⟨some ⟨w.heap.size + 1 + 1 + 1, 0, none⟩, 3, 3⟩⟩ ⟨7, ⟨some ⟨w.heap.size + 1 + 1 + 1 + 1 + 1, 0, none⟩, 1, 1⟩, ⟨some ⟨w.heap.size + 1 + 1 + 1 + 1 + 1 + 1, 0, none⟩, 3, 3⟩⟩ [3] [3] [10, 20, 30] [2, 0, -1] V (HL.out.more GV.out) (bare_in V _ _ _ _ (xy_strs p0)) (bare_ok V _ _ _) (by kernel_rfl) (by kernel_rfl) (by show 1 ≤ 1048576; omega) (two_tens _ _ c2 (blk_ints (zs := [3]) p2 (by simp) (by simp)) (blk_ints (zs := [10, 20, 30]) p3 (by simp) (by simp)) (blk_ints (zs := [3]) c0 (by simp) (by simp)) (blk_ints (zs := [2, 0, -1]) c1 (by simp) (by simp))) (by decide) (fun _ _ _ => by simp))
  rw [show gaR ⟨⟨#[71, 97, 116, 104, 101, 114]⟩, [], []⟩ (Ten.ty ⟨6, ⟨some ⟨w.heap.size + 1 + 1, 0, none⟩, 1, 1⟩, ⟨some ⟨w.heap.size + 1 + 1 + 1, 0, none⟩, 3, 3⟩⟩) (Ten.ty ⟨7, ⟨some ⟨w.heap.size + 1 + 1 + 1 + 1 + 1, 0, none⟩, 1, 1⟩, ⟨some ⟨w.heap.size + 1 + 1 + 1 + 1 + 1 + 1, 0, none⟩, 3, 3⟩⟩) [3] [3] [10, 20, 30] [2, 0, -1] = .ok (6, [3], [30, 10, 30]) from live_ga] at E1
  unfold nval nilS at E1
  simp only at E1
  clear b0 b1 b2 b3 b4 gW gV c0 c1 c2 p0 p1 p2 p3 p4 ZW
  go_enter Tryz.func10, Tryz.ntmps10
  go_wp2_with fail
  rw [← hW, ← hV]
  clear hW hV n0 n1 n2 n3 n4 x0 x1 x2
  refine E1.out.mono ?_
  rintro e w1 ⟨hg1, ⟨ty, ⟨da, dn, dc⟩, ⟨ta, tn, tc⟩⟩, ht, rfl, od, ot⟩
  simp only at ht
  subst ht
  unfold tval
  simp only
  obtain ⟨p, hp⟩ : ∃ p, p = w1.alloc (.cells #[.int .i64 6, .slice da dn dc, .slice ta tn tc] 32) := ⟨_, rfl⟩
  obtain ⟨bp, zp⟩ := new_alloc (.cells #[.int .i64 6, .slice da dn dc, .slice ta tn tc] 32) (x := w1) rfl
  rw [← hp] at bp zp
  have gp : w1.grownBy p none := by rw [hp]; exact grown_new _ _
  obtain ⟨q, hq⟩ : ∃ q, q = (p.alloc (.cells #[.int .i64 3] 2)).alloc (.cells #[.int .i64 6, .slice (some ⟨w.heap.size + 1 + 1, 0, none⟩) 1 1, .slice (some ⟨w.heap.size + 1 + 1 + 1, 0, none⟩) 3 3, .int .i64 7, .slice none 0 0, .slice (some ⟨w1.heap.size + 1, 0, none⟩) 1 1] 32) := ⟨_, rfl⟩
  obtain ⟨c0, c1⟩ := two_boxes p (.cells #[.int .i64 3] 2) (.cells #[.int .i64 6, .slice (some ⟨w.heap.size + 1 + 1, 0, none⟩) 1 1, .slice (some ⟨w.heap.size + 1 + 1 + 1, 0, none⟩) 3 3, .int .i64 7, .slice none 0 0, .slice (some ⟨w1.heap.size + 1, 0, none⟩) 1 1] 32)
  rw [← hq, zp] at c0 c1
  have gq : p.grownBy q none := by rw [hq]; exact grown_trans (grown_new _ _) (grown_new _ _)
  have GQ := hide (grown_trans (grown_trans GV.out hg1) (grown_trans gp gq))
  have GP := hide (grown_trans (grown_trans GV.out hg1) gp)
  have GP0 := hide (grown_trans (grown_trans GV0.out hg1) gp)
  have D1 := hide (od.ints.more (grown_trans gp gq))
  have T1 := hide (ot.ints.more (grown_trans gp gq))
  obtain ⟨p0, p1, p2, p3, p4⟩ := BX.out q (grown_trans GP0.out gq)
  have E2 := hide (ga_do ⟨⟨#[71, 97, 116, 104, 101, 114]⟩, ⟨#[]⟩, ⟨some ⟨w.heap.size, 0, none⟩, 2, 2⟩, ⟨#[122]⟩, nilS⟩ ⟨⟨#[71, 97, 116, 104, 101, 114]⟩, [], []⟩ ⟨#[120]⟩ ⟨#[121]⟩ rfl ⟨some ⟨w1.heap.size + 1 + 1, 0, none⟩, 2, 2⟩ ⟨6, ⟨some ⟨w.heap.size + 1 + 1, 0, none⟩, 1, 1⟩, ⟨some ⟨w.heap.size + 1 + 1 + 1, 0, none⟩, 3, 3⟩⟩ ⟨7, ⟨none, 0, 0⟩, ⟨some ⟨w1.heap.size + 1, 0, none⟩, 1, 1⟩⟩ [3] [] [10, 20, 30] [3] q (HL.out.more GQ.out) (bare_in q _ _ _ _ (xy_strs p0)) (bare_ok q _ _ _) (by kernel_rfl) (by kernel_rfl) (by show 1 ≤ 1048576; omega) (two_tens _ _ c1 (blk_ints (zs := [3]) p2 (by simp) (by simp)) (blk_ints (zs := [10, 20, 30]) p3 (by simp) (by simp)) (ints_nil q) (blk_ints (zs := [3]) c0 (by simp) (by simp))) (by decide) (fun ax h1 h2 => by
    exfalso
    rw [show axisO (At.int ⟨⟨#[71, 97, 116, 104, 101, 114]⟩, [], []⟩ ⟨#[97, 120, 105, 115]⟩ 0) [(3 : Int)].length = some 0 from by kernel_rfl] at h1
    cases h1
    exact absurd h2 (by decide)))
  rw [show gaR ⟨⟨#[71, 97, 116, 104, 101, 114]⟩, [], []⟩ (Ten.ty ⟨6, ⟨some ⟨w.heap.size + 1 + 1, 0, none⟩, 1, 1⟩, ⟨some ⟨w.heap.size + 1 + 1 + 1, 0, none⟩, 3, 3⟩⟩) (Ten.ty ⟨7, ⟨none, 0, 0⟩, ⟨some ⟨w1.heap.size + 1, 0, none⟩, 1, 1⟩⟩) [3] [] [10, 20, 30] [3] = .error 8 from live_ge] at E2
  unfold nval nilS at E2
  simp only at E2
  obtain ⟨n0, n1, n2, n3, n4⟩ := nod_cells (n := ⟨⟨#[71, 97, 116, 104, 101, 114]⟩, ⟨#[]⟩, ⟨some ⟨w.heap.size, 0, none⟩, 2, 2⟩, ⟨#[122]⟩, ⟨none, 0, 0⟩⟩) (BX.out p GP0.out).2.1
  obtain ⟨x0, x1, x2⟩ := ten_cells (BX.out p GP0.out).2.2.2.2
  rw [hp] at n0 n1 n2 n3 n4 x0 x1 x2
  have BP := hide (box_kept bp gq)
  clear p0 p1 p2 p3 p4 c0 c1 bp zp gp gq od ot E1 hg1
  go_wp2_with fail
  rw [← hp, ← hq]
  clear hp hq n0 n1 n2 n3 n4 x0 x1 x2
  refine E2.out.mono ?_
  rintro e w2 ⟨hg2, rfl⟩
  simp only
  obtain ⟨p, hp⟩ : ∃ p, p = ((w2.alloc (.cells #[.int .i64 0, .slice none 0 0, .slice none 0 0] 32)).alloc (.cells #[.int .i64 3] 3)).alloc (.cells #[.int .i64 30, .int .i64 10, .int .i64 30] 2) := ⟨_, rfl⟩
  obtain ⟨c0, c1, c2⟩ := three_boxes w2 (.cells #[.int .i64 0, .slice none 0 0, .slice none 0 0] 32) (.cells #[.int .i64 3] 3) (.cells #[.int .i64 30, .int .i64 10, .int .i64 30] 2)
  have gp : w2.grownBy p none := by rw [hp]; exact grown_trans (grown_trans (grown_new _ _) (grown_new _ _)) (grown_new _ _)
  rw [← hp] at c0 c1 c2
  have hg3 := grown_trans hg2 gp
  obtain ⟨x0, x1, x2⟩ := ten_cells (box_kept BP.out (grown_trans hg2 (grown_new w2 (.cells #[.int .i64 0, .slice none 0 0, .slice none 0 0] 32))))
  have SA := hide (sameten_eq 6 _ _ _ _ [3] [30, 10, 30] p (D1.out.more hg3) (T1.out.more hg3) (blk_ints (zs := [3]) c1 (by simp) (by simp)) (blk_ints (zs := [30, 10, 30]) c2 (by simp) (by simp)))
  simp only [Sl.v, List.length_cons, List.length_nil] at SA
  have GZ := hide (grown_trans GQ.out hg3)
  clear c0 c1 c2 gp hg2 hg3 E2
  go_wp2_with (first | (go_at_call 12; rw [← hp]; refine SA.out.mono ?_; rintro e w7 ⟨rfl, hg7⟩) | fail)
  go_ret
  exact ⟨rfl, grown_trans GZ.out hg7⟩

end Go.Proofs.YtaoplfpigjkgpaaGreatDoor
