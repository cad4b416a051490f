/- Joined texts: MvPlc, LnDoM, MvTrDo. -/
import Derived.Test.YtaoplfpigjkgpaaGreatDoorPartBM
import Derived.Test.YtaoplfpigjkgpaaGreatDoorPartAZ
import Derived.Test.YtaoplfpigjkgpaaGreatDoorPartBK
import Derived.Test.YtaoplfpigjkgpaaGreatDoorPartBI
import Derived.Deep.RegionWith
import Derived.Test.YtaoplfpigjkgpaaGreatDoorPartBA
import Derived.Deep.RegionHeld3
import Derived.BigQuiet
import Derived.Deep.AppendLies
import Derived.Test.YtaoplfpigjkgpaaGreatDoorPartBE
namespace Go.Proofs.YtaoplfpigjkgpaaGreatDoor

open Go.RowKit

def plcF (dim : Nat) (a : Int) : Int := (((axisO a dim).getD 0 : Nat) : Int)
def plcAll (dim : Nat) (l : List Int) : Bool := l.all fun a => (axisO a dim).isSome

theorem plcF_rng (dim : Nat) (hd : dim ≤ 100000000000000) (a : Int) : 0 ≤ plcF dim a ∧ plcF dim a ≤ 100000000000000 := by
  unfold plcF
  cases h : axisO a dim with
  | none => simp
  | some i =>
    have := axisO_lt h
    simp only [Option.getD_some]
    omega

theorem plc_set (f : Int → Int) (l : List Int) (k : Nat) (hk : k < l.length) : ((l.take k).map f ++ List.replicate (l.length - k) (0 : Int)).set k (f (l.getD k 0)) = (l.take (k + 1)).map f ++ List.replicate (l.length - (k + 1)) 0 := by
  rw [List.set_append_right _ _ (by rw [List.length_map, List.length_take]; omega), List.length_map, List.length_take, Nat.min_eq_left (by omega), Nat.sub_self, show l.length - k = (l.length - (k + 1)) + 1 from by omega, List.replicate_succ, List.set_cons_zero, List.take_add_one, List.getElem?_eq_getElem (by omega), Option.toList_some, List.map_append, List.append_assoc]
  have e : l.getD k 0 = l[k] := by simp [List.getD, hk]
  rw [e]
  rfl

def PlcQ (w : World) (dim : Nat) (l : List Int) (e : Ending) (w' : World) : Prop := w.grownBy w' none ∧ ((plcAll dim l = true ∧ ∃ v : Sl, e = .returned (.tuple #[.slice v.a v.n v.c, .bool true]) ∧ IsInts w' v.v (l.map (plcF dim))) ∨ (plcAll dim l = false ∧ e = .returned (.tuple #[.slice none 0 0, .bool false])))

set_option maxRecDepth 100000 in
set_option maxHeartbeats 8000000 in
theorem places_any (u : Sl) (l : List Int) (dim : Nat) (w : World) (hv : IsInts w u.v l) (hl : l.length ≤ 70000) (hdim : dim ≤ 100000000000000) : Calls Tryz.prog 60 #[.slice u.a u.n u.c, .int .i64 dim] w (PlcQ w dim l) := by
  obtain ⟨i0, hi0, hz0, hz1, hz2⟩ := info_parts infoInt
  obtain ⟨ua, un, uc⟩ := u
  obtain ⟨ux, c, eu, c1, c2, c3⟩ := hv.sl
  simp only [Sl.v, Value.slice.injEq] at eu
  obtain ⟨rfl, rfl, rfl⟩ := eu
  have HV := hide hv
  have hb4 : i0.bytes * l.length ≤ 281474976710656 := by rw [hz2]; omega
  have hb5 : l.length ≤ maxLen := by simp only [maxLen]; omega
  clear hv
  go_enter Tryz.func60, Tryz.ntmps60
  go_wp2_with (first | (refine wpList_make_full _ rfl (.tmp 12) (.tmp 12) 29 rfl w.heap.size 3 i0 (.int .i64 0) 1 Tryz.underlying29 hi0 hz0 hz1 .i64 .i64 _ _ l.length rfl rfl (by omega) (by omega) hb4 hb5 (Nat.le_refl _) ?_; intro w1 hown1 hg1))
  rw [made_zeros] at hown1
  have O1 : Hid (Owns w1 w.heap.size (.slice (some ⟨w.heap.size, 0, none⟩) l.length l.length) (List.replicate l.length 0)) := by
    refine ⟨by rw [List.length_replicate]; exact hown1, by rw [List.length_replicate]; omega, fun z hz => ?_⟩
    rw [(List.mem_replicate.1 hz).2]
    omega
  have G1 := hide hg1
  clear hown1 hg1 hb4 hb5
  go_wp2
  go_loopw [16] (fun x wr => w.grownBy wr none ∧ ∃ k : Nat, k ≤ l.length ∧ x = .int .i64 k ∧ plcAll dim (l.take k) = true ∧ Owns wr w.heap.size (.slice (some ⟨w.heap.size, 0, none⟩) l.length l.length) ((l.take k).map (plcF dim) ++ List.replicate (l.length - k) 0)) (fun x _ => l.length - (intOf x).toNat)
  case atStart => exact ⟨G1.out, 0, Nat.zero_le _, rfl, rfl, by simpa using O1.out⟩
  case round =>
    obtain ⟨hg, k, hk, rfl, hall, o1⟩ := hrel
    have HG := hide hg
    have P1 := hide o1
    have HA := hide hall
    clear o1 hall
    by_cases hlt : k < l.length
    · obtain ⟨b, off, rfl, hc⟩ := HV.out.get hlt
      have hcell := cell_still (hc k hlt) hg
      have hrz := HV.out.wf (l.getD k 0) (by rw [List.getD, List.getElem?_eq_getElem hlt]; simp)
      have hpr := plcF_rng dim hdim (l.getD k 0)
      obtain ⟨a1, a2, a3, a4⟩ := owns_put P1.out (by rw [List.length_append, List.length_map, List.length_take, List.length_replicate]; omega) hlt (plcF dim (l.getD k 0)) (by omega)
      rw [plc_set _ l k hlt] at a3
      have N1 := hide a3
      have NG := hide (grown_drop hg a4 (Nat.le_refl _))
      have TS : Hid (plcAll dim (l.take (k + 1)) = (axisO (l.getD k 0) dim).isSome) := by
        show _ = _
        have h := HA.out
        unfold plcAll at h ⊢
        rw [take_step l k hlt, List.all_append, h, Bool.true_and]
        simp only [List.all_cons, List.all_nil, Bool.and_true]
      have FN : Hid ((axisO (l.getD k 0) dim).isSome = false → plcAll dim l = false) := fun h => by
        unfold plcAll
        rw [List.all_eq_false]
        exact ⟨l.getD k 0, by rw [List.getD, List.getElem?_eq_getElem hlt]; simp, by rw [h]; exact Bool.false_ne_true⟩
      obtain ⟨ov, hov⟩ : ∃ q, q = ((l.take k).map (plcF dim) ++ List.replicate (l.length - k) (0 : Int)).getD k 0 := ⟨_, rfl⟩
      rw [← hov] at a1
      obtain ⟨z, hz⟩ : ∃ z, z = l.getD k 0 := ⟨_, rfl⟩
      rw [← hz] at hcell N1 NG TS FN hrz
      have AX := hide (axis_any z dim wr hdim hrz.1)
      have l1 : (k : Int) < (l.length : Int) := by omega
      obtain ⟨y, hy⟩ : ∃ y, y = plcF dim z := ⟨_, rfl⟩
      rw [← hy] at N1 NG
      rw [show (((axisO z dim).getD 0 : Nat) : Int) = y from hy.symm] at AX
      obtain ⟨ok, hok⟩ : ∃ ok, ok = (axisO z dim).isSome := ⟨_, rfl⟩
      rw [← hok] at AX TS FN
      clear a3 a4 hg hov hz hc hrz hpr hy hok
      cases ok with
      | true =>
        go_wp2_with (go_at_call 54; refine AX.out.mono ?_; rintro e w' ⟨rfl, rfl⟩)
        go_roundw
        case rel => exact ⟨NG.out, k + 1, hlt, by go_num, TS.out, N1.out⟩
        case measure => simp [intOf]; omega
      | false =>
        go_wp2_with (go_at_call 54; refine AX.out.mono ?_; rintro e w' ⟨rfl, rfl⟩)
        go_ret2
        exact ⟨HG.out, .inr ⟨FN.out (by first | exact rfl | exact trivial), rfl⟩⟩
    · obtain rfl : k = l.length := by omega
      have E1 : (l.take l.length).map (plcF dim) ++ List.replicate (l.length - l.length) (0 : Int) = l.map (plcF dim) := by simp
      have P1' := P1.out
      rw [E1] at P1'
      have F := hide P1'.ints
      have HF : Hid (plcAll dim l = true) := by have h := HA.out; rwa [List.take_of_length_le (Nat.le_refl _)] at h
      clear P1' E1 P1 hg
      go_wp2
      go_ret2
      exact ⟨HG.out, .inl ⟨HF.out, ⟨some ⟨w.heap.size, 0, none⟩, l.length, l.length⟩, rfl, F.out⟩⟩

end Go.Proofs.YtaoplfpigjkgpaaGreatDoor

namespace Go.Proofs.YtaoplfpigjkgpaaGreatDoor

open Go.RowKit

set_option maxRecDepth 100000 in
set_option maxHeartbeats 8000000 in
theorem mbdo_any (n : Nod) (u : Sl) (R0 : R (Int × List Int)) (M : List Int → R (List Int)) (w : World) (h1 : ∀ c, R0 = .error c → c ≠ 0) (h2 : ∀ l c, M l = .error c → c ≠ 0)
    (NC : ∀ wx, w.grownBy wx none → Calls Tryz.prog 21 #[nval n, .slice u.a u.n u.c] wx (AttQ n.out wx R0))
    (MC : ∀ (wx : World) (ty : Int) (dv : Sl) (l : List Int), w.grownBy wx none → R0 = .ok (ty, l) → IsInts wx dv.v l → Calls Tryz.prog 18 #[nval n, .slice u.a u.n u.c, .agg #[.string n.out, .int .i64 ty, .slice dv.a dv.n dv.c]] wx (EvQ wx (M l))) :
    Calls Tryz.prog 17 #[nval n, .slice u.a u.n u.c, .func (.func 18) #[] #[]] w (DoQ w (doR R0 M)) := by
  have H1 := hide h1
  have H2 := hide h2
  have HMC := hide MC
  clear h1 h2 MC
  obtain ⟨w0, hw0⟩ : ∃ w0, w0 = (w.alloc (.cells #[.string n.op, .string n.name, .slice n.iv.a n.iv.n n.iv.c, .string n.out, .slice n.av.a n.av.n n.av.c] 25)).alloc (.cells #[.int .i64 0, .slice none 0 0, .slice none 0 0] 32) := ⟨_, rfl⟩
  have g0 : Hid (w.grownBy w0 none) := by show w.grownBy w0 none; rw [hw0]; exact grown_trans (grown_new _ _) (grown_new _ _)
  have hbx := two_boxes w (.cells #[.string n.op, .string n.name, .slice n.iv.a n.iv.n n.iv.c, .string n.out, .slice n.av.a n.av.n n.av.c] 25) (.cells #[.int .i64 0, .slice none 0 0, .slice none 0 0] 32)
  rw [← hw0] at hbx
  have BN : Hid (∀ wx, w0.grownBy wx none → wx.heap[w.heap.size]? = some (.cells #[.string n.op, .string n.name, .slice n.iv.a n.iv.n n.iv.c, .string n.out, .slice n.av.a n.av.n n.av.c] 25 (0, 0))) := fun wx hg => box_kept hbx.1 hg
  have BX : Hid (∀ wx, w0.grownBy wx none → wx.heap[w.heap.size + 1]? = some (.cells #[.int .i64 0, .slice none 0 0, .slice none 0 0] 32 (0, 0))) := fun wx hg => box_kept hbx.2 hg
  have Z0 : Hid (w.heap.size + 1 < w0.heap.size) := (Array.getElem?_eq_some_iff.1 hbx.2).1
  have N1 := hide (NC w0 g0.out)
  clear hbx NC
  obtain ⟨op, nam, ⟨ia, il, ic⟩, out, ⟨ao, al, cap⟩⟩ := n
  obtain ⟨ua, un, uc⟩ := u
  unfold nval at HMC N1 ⊢
  simp only at HMC N1 BN hw0 ⊢
  go_enter Tryz.func17, Tryz.ntmps17
  go_wp2_with fail
  rw [← hw0]
  clear hw0
  refine N1.out.mono ?_
  rintro e w1 ⟨hg1, hq⟩
  have G1 := hide hg1
  cases R0 with
  | error c =>
    obtain rfl := hq
    have hc := H1.out c rfl
    have bc : (c != 0) = true := by simpa using hc
    obtain ⟨w2, hw2⟩ : ∃ w2, w2 = w1.alloc (.cells #[.string ⟨#[]⟩, .int .i64 0, .slice none 0 0] 50) := ⟨_, rfl⟩
    have g2 : w1.grownBy w2 none := by rw [hw2]; exact grown_new _ _
    have B1 := BX.out w2 (grown_trans hg1 g2)
    obtain ⟨f0, f1, f2⟩ := ten_frozen B1
    have c0 : w2.cell? ⟨w.heap.size + 1, 0, none⟩ = some (.int .i64 0) := (cell_of_row _ _ 0 _ _ (0, 0) B1).trans rfl
    have c1 : w2.cell? ⟨w.heap.size + 1, 1, none⟩ = some (.slice none 0 0) := (cell_of_row _ _ 1 _ _ (0, 0) B1).trans rfl
    have c2 : w2.cell? ⟨w.heap.size + 1, 2, none⟩ = some (.slice none 0 0) := (cell_of_row _ _ 2 _ _ (0, 0) B1).trans rfl
    obtain ⟨hX, gX⟩ := store3t (.int .i64 0) (.slice none 0 0) (.slice none 0 0) B1
    have HX := hide hX
    have GX := hide (grown_drop (grown_trans g0.out (grown_trans hg1 g2)) gX (by omega))
    rw [hw2] at f0 f1 f2 c0 c1 c2 HX GX
    clear hX gX B1 hc hg1 g2 hw2
    go_wp2
    refine bodyPost_ret (ret_ten2 rfl _ _ (w.heap.size + 1) rfl HX.out) rfl ?_
    exact do_err rfl GX.out
  | ok rr =>
    obtain ⟨ty, l⟩ := rr
    obtain ⟨⟨s1, s2, s3⟩, rfl, ho⟩ := hq
    obtain ⟨w2, hw2⟩ : ∃ w2, w2 = w1.alloc (.cells #[.string out, .int .i64 ty, .slice s1 s2 s3] 50) := ⟨_, rfl⟩
    have g2 : w1.grownBy w2 none := by rw [hw2]; exact grown_new _ _
    have hB2 := heap_alloc_new w1 (.cells #[.string out, .int .i64 ty, .slice s1 s2 s3] 50)
    rw [← hw2] at hB2
    have BV : Hid (∀ wx, w2.grownBy wx none → wx.heap[w1.heap.size]? = some (.cells #[.string out, .int .i64 ty, .slice s1 s2 s3] 50 (0, 0))) := fun wx hg => box_kept hB2 hg
    have HO := hide ho
    obtain ⟨n0, n1, n2, n3, n4⟩ := nod_cells (n := ⟨op, nam, ⟨ia, il, ic⟩, out, ⟨ao, al, cap⟩⟩) (BN.out w2 (grown_trans hg1 g2))
    have M1 := hide (HMC.out w2 ty ⟨s1, s2, s3⟩ l (grown_trans g0.out (grown_trans hg1 g2)) rfl (ho.ints.more g2))
    have G2 := hide (grown_trans hg1 g2)
    have G12 := hide g2
    simp only at n0 n1 n2 n3 n4 M1
    rw [hw2] at n0 n1 n2 n3 n4
    clear ho hg1 g2 hB2
    go_wp2_with fail
    rw [← hw2]
    clear hw2 n0 n1 n2 n3 n4
    refine M1.out.mono ?_
    rintro e w3 ⟨hg3, hq⟩
    have B3 := BX.out w3 (grown_trans G2.out hg3)
    have G3 := hide (grown_trans g0.out (grown_trans G2.out hg3))
    obtain ⟨f0, f1, f2⟩ := ten_frozen B3
    have c0 : w3.cell? ⟨w.heap.size + 1, 0, none⟩ = some (.int .i64 0) := (cell_of_row _ _ 0 _ _ (0, 0) B3).trans rfl
    have c1 : w3.cell? ⟨w.heap.size + 1, 1, none⟩ = some (.slice none 0 0) := (cell_of_row _ _ 1 _ _ (0, 0) B3).trans rfl
    have c2 : w3.cell? ⟨w.heap.size + 1, 2, none⟩ = some (.slice none 0 0) := (cell_of_row _ _ 2 _ _ (0, 0) B3).trans rfl
    obtain ⟨mr, hmr⟩ : ∃ mr, mr = M l := ⟨_, rfl⟩
    rw [← hmr] at hq
    have ED : Hid (doR (.ok (ty, l)) M = mr.map fun zs => (ty, l, zs)) := by rw [hmr]; rfl
    cases mr with
    | error c =>
      obtain rfl := hq
      have hc := H2.out l c hmr.symm
      have bc : (c != 0) = true := by simpa using hc
      obtain ⟨hX, gX⟩ := store3t (.int .i64 0) (.slice none 0 0) (.slice none 0 0) B3
      have HX := hide hX
      have GX := hide (grown_drop G3.out gX (by omega))
      clear hX gX B3 hc hg3 hmr
      go_wp2
      refine bodyPost_ret (ret_ten2 rfl _ _ (w.heap.size + 1) rfl HX.out) rfl ?_
      exact do_err ED.out GX.out
    | ok zs =>
      obtain ⟨⟨t1, t2, t3⟩, rfl, ht⟩ := hq
      have bv := BV.out w3 hg3
      have v1 : w3.cell? ⟨w1.heap.size, 1, none⟩ = some (.int .i64 ty) := (cell_of_row _ _ 1 _ _ (0, 0) bv).trans rfl
      have v2 : w3.cell? ⟨w1.heap.size, 2, none⟩ = some (.slice s1 s2 s3) := (cell_of_row _ _ 2 _ _ (0, 0) bv).trans rfl
      obtain ⟨hX, gX⟩ := store3t (.int .i64 ty) (.slice s1 s2 s3) (.slice t1 t2 t3) B3
      have HX := hide hX
      have GX := hide (grown_drop G3.out gX (by omega))
      have z0 := Z0.out
      have z1 := g0.out.size
      have z2 := G2.out.size
      have OD := hide (((HO.out.more (grown_trans G12.out hg3) (by cases (Sl.v ⟨s1, s2, s3⟩).ownBlock <;> simp)).base_le (b' := w0.heap.size) (Nat.le_refl _)).more gX (row_lt HO.out.1 (by omega)))
      have OT : Hid (OwnsE _ w2.heap.size (Sl.v ⟨t1, t2, t3⟩) zs) := ht.more gX (row_lt ht.1 (by omega))
      clear hX gX B3 hg3 hmr bv ht z0 z1 z2
      go_wp2
      refine bodyPost_ret (ret_ten2 rfl _ _ (w.heap.size + 1) rfl HX.out) rfl ?_
      exact do_ok (d := ⟨s1, s2, s3⟩) (t := ⟨t1, t2, t3⟩) ED.out GX.out (OD.out.base_le (by have := g0.out.size; omega)) ⟨ownsRow_base OT.out.1 (by have := g0.out.size; have := G2.out.size; omega), OT.out.2⟩

set_option maxRecDepth 100000 in
set_option maxHeartbeats 8000000 in
theorem mdo_any (n : Nod) (u : Sl) (r : R (Int × List Int × List Int)) (w : World) (BC : ∀ wx, w.grownBy wx none → Calls Tryz.prog 17 #[nval n, .slice u.a u.n u.c, .func (.func 18) #[] #[]] wx (DoQ wx r)) :
    Calls Tryz.prog 11 #[nval n, .slice u.a u.n u.c] w (DoQ w r) := by
  obtain ⟨w0, hw0⟩ : ∃ w0, w0 = (w.alloc (.cells #[.string n.op, .string n.name, .slice n.iv.a n.iv.n n.iv.c, .string n.out, .slice n.av.a n.av.n n.av.c] 25)).alloc (.cells #[.int .i64 0, .slice none 0 0, .slice none 0 0] 32) := ⟨_, rfl⟩
  have g0 : Hid (w.grownBy w0 none) := by show w.grownBy w0 none; rw [hw0]; exact grown_trans (grown_new _ _) (grown_new _ _)
  have hbx := two_boxes w (.cells #[.string n.op, .string n.name, .slice n.iv.a n.iv.n n.iv.c, .string n.out, .slice n.av.a n.av.n n.av.c] 25) (.cells #[.int .i64 0, .slice none 0 0, .slice none 0 0] 32)
  rw [← hw0] at hbx
  have BX : Hid (∀ wx, w0.grownBy wx none → wx.heap[w.heap.size + 1]? = some (.cells #[.int .i64 0, .slice none 0 0, .slice none 0 0] 32 (0, 0))) := fun wx hg => box_kept hbx.2 hg
  have Z0 : Hid (w.heap.size + 1 < w0.heap.size) := (Array.getElem?_eq_some_iff.1 hbx.2).1
  have N1 := hide (BC w0 g0.out)
  clear hbx BC
  obtain ⟨op, nam, ⟨ia, il, ic⟩, out, ⟨ao, al, cap⟩⟩ := n
  obtain ⟨ua, un, uc⟩ := u
  unfold nval at N1 ⊢
  simp only at N1 hw0 ⊢
  go_enter Tryz.func11, Tryz.ntmps11
  go_wp2_with fail
  rw [← hw0]
  clear hw0
  refine N1.out.mono ?_
  rintro e w3 ⟨hg3, hq⟩
  have B3 := BX.out w3 hg3
  have G3 := hide (grown_trans g0.out hg3)
  obtain ⟨f0, f1, f2⟩ := ten_frozen B3
  have c0 : w3.cell? ⟨w.heap.size + 1, 0, none⟩ = some (.int .i64 0) := (cell_of_row _ _ 0 _ _ (0, 0) B3).trans rfl
  have c1 : w3.cell? ⟨w.heap.size + 1, 1, none⟩ = some (.slice none 0 0) := (cell_of_row _ _ 1 _ _ (0, 0) B3).trans rfl
  have c2 : w3.cell? ⟨w.heap.size + 1, 2, none⟩ = some (.slice none 0 0) := (cell_of_row _ _ 2 _ _ (0, 0) B3).trans rfl
  cases r with
  | error c =>
    obtain rfl := hq
    obtain ⟨hX, gX⟩ := store3t (.int .i64 0) (.slice none 0 0) (.slice none 0 0) B3
    have HX := hide hX
    have GX := hide (grown_drop G3.out gX (by omega))
    clear hX gX B3 hg3
    go_wp2
    refine bodyPost_ret (ret_ten2 rfl _ _ (w.heap.size + 1) rfl HX.out) rfl ?_
    exact do_err rfl GX.out
  | ok rr =>
    obtain ⟨ty, l, zs⟩ := rr
    obtain ⟨⟨ty', ⟨s1, s2, s3⟩, ⟨t1, t2, t3⟩⟩, e1, rfl, hd, ht⟩ := hq
    simp only at e1
    subst e1
    obtain ⟨hX, gX⟩ := store3t (.int .i64 ty') (.slice s1 s2 s3) (.slice t1 t2 t3) B3
    have HX := hide hX
    have GX := hide (grown_drop G3.out gX (by omega))
    have OD := hide (hd.more gX (row_lt hd.1 Z0.out))
    have OT := hide (ht.more gX (row_lt ht.1 Z0.out))
    clear hX gX B3 hg3 hd ht
    unfold tval
    go_wp2
    refine bodyPost_ret (ret_ten2 rfl _ _ (w.heap.size + 1) rfl HX.out) rfl ?_
    exact do_ok (d := ⟨s1, s2, s3⟩) (t := ⟨t1, t2, t3⟩) rfl GX.out (OD.out.base_le (by have := g0.out.size; omega)) ⟨ownsRow_base OT.out.1 (by have := g0.out.size; omega), OT.out.2⟩

end Go.Proofs.YtaoplfpigjkgpaaGreatDoor

namespace Go.Proofs.YtaoplfpigjkgpaaGreatDoor

open Go.RowKit

theorem nz_typT {t c : Int} (h : typP t = .error c) : c ≠ 0 := by
  unfold typP at h
  split at h
  · cases h
  · cases h; decide

theorem nz_cntT {x : List Int} {c : Int} (h : countP x = .error c) : c ≠ 0 := by
  unfold countP at h
  split at h
  · cases h
  · rename_i h1
    cases h
    exact h1

end Go.Proofs.YtaoplfpigjkgpaaGreatDoor
