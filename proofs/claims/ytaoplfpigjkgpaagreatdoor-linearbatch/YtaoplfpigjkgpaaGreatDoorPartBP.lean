/- Joined texts: LnMade, LnMadeW. -/
import Derived.Test.YtaoplfpigjkgpaaGreatDoorPartBO
import Derived.Test.YtaoplfpigjkgpaaGreatDoorPartBL
namespace Go.Proofs.YtaoplfpigjkgpaaGreatDoor

open Go.RowKit

def ytL (y ys : List Int) : List Int := Vw.rdL 0 (Vw.pickL y (swapP (y.length - 2))) (Vw.pickL (strd y) (swapP (y.length - 2))) ys

def mmL (x xs y ys : List Int) : List Int := matL xs (ytL y ys) (prod (x.take (x.length - 2))).toNat (x.getD (x.length - 2) 0).toNat (x.getD (x.length - 1) 0).toNat (y.getD (y.length - 1) 0).toNat

structure ShpM (x y : List Int) (A : List Int) (a k b : Nat) : Prop where
  ex : x = A ++ [(a : Int), (k : Int)]
  ey : y = A ++ [(k : Int), (b : Int)]
  few : A.length ≤ 1
  cx : cntE x = 0
  cy : cntE y = 0
  cz : cntE (A ++ [(a : Int), (b : Int)]) = 0

theorem pick_swap : ∀ {A : List Int}, A.length ≤ 1 → ∀ p q : Int, Vw.pickL (A ++ [p, q]) (swapP A.length) = A ++ [q, p]
  | [], _, p, q => rfl
  | [z], _, p, q => rfl
  | _ :: _ :: _, h, _, _ => by simp at h

theorem ShpM.len {x y A : List Int} {a k b : Nat} (h : ShpM x y A a k b) : x.length = A.length + 2 ∧ y.length = A.length + 2 := by
  rw [h.ex, h.ey]
  simp

theorem ShpM.mm {x y A : List Int} {a k b : Nat} (h : ShpM x y A a k b) (xs ys : List Int) : mmL x xs y ys = matL xs (ytL y ys) (prod A).toNat a k b := by
  obtain ⟨l1, l2⟩ := h.len
  have e1 : x.take A.length = A := by rw [h.ex]; exact List.take_left' rfl
  have eg : ∀ p q : Int, (A ++ [p, q]).getD A.length 0 = p ∧ (A ++ [p, q]).getD (A.length + 1) 0 = q := fun p q => by simp [List.getD]
  have e2 : x.getD A.length 0 = a := by rw [h.ex]; exact (eg _ _).1
  have e3 : x.getD (A.length + 1) 0 = k := by rw [h.ex]; exact (eg _ _).2
  have e4 : y.getD (A.length + 1) 0 = b := by rw [h.ey]; exact (eg _ _).2
  unfold mmL
  rw [l1, l2, show A.length + 2 - 2 = A.length from rfl, show A.length + 2 - 1 = A.length + 1 from rfl, e1, e2, e3, e4]
  simp

theorem rd_turned {A : List Int} {k b : Nat} (hA : A.length ≤ 1) (hc : cntE (A ++ [(k : Int), (b : Int)]) = 0) {ys : List Int} (hl : (ys.length : Int) = prod (A ++ [(k : Int), (b : Int)])) : Vw.rdOk 0 (Vw.pickL (A ++ [(k : Int), (b : Int)]) (swapP A.length)) (Vw.pickL (strd (A ++ [(k : Int), (b : Int)])) (swapP A.length)) ys = true := by
  have F := fine_of hc
  have hf := F.le
  match A, hA with
  | [], _ =>
    have hk := F.pos (k : Int) (by simp)
    have hb := F.pos (b : Int) (by simp)
    have e1 : Vw.pickL ([] ++ [(k : Int), (b : Int)]) (swapP 0) = [(b : Int), (k : Int)] := rfl
    have e2 : Vw.pickL (strd ([] ++ [(k : Int), (b : Int)])) (swapP 0) = [1, (b : Int)] := by simp [strd, prod, Vw.pickL, swapP, upToP, List.range, List.range.loop]
    simp only [List.length_nil]
    rw [e1, e2]
    simp only [List.nil_append, prod] at hf hl
    have m1 : (k : Int) * (b * 1) = b * (k * 1) := by rw [Int.mul_one, Int.mul_one, Int.mul_comm]
    have hkb : (b : Int) ≤ k * (b * 1) := by rw [Int.mul_one]; exact le_mul_left hk (by omega)
    have hm : Vw.MayV 0 [(b : Int), (k : Int)] [1, (b : Int)] := ⟨⟨by intro z hz; simp at hz; omega, by simp, by simp only [prod]; omega⟩, rfl, by omega, by omega, by intro s hs; simp at hs; omega⟩
    unfold Vw.rdOk
    rw [Vw.mayB_iff.2 hm]
    have hlst : Vw.lst [(b : Int), (k : Int)] [1, (b : Int)] = k * b - 1 := by
      simp only [Vw.lst]
      rw [Int.sub_mul, Int.sub_mul]
      omega
    rw [hlst]
    simp
    rw [Int.mul_one] at hl
    omega
  | [z], _ =>
    have hz := F.pos z (by simp)
    have hk := F.pos (k : Int) (by simp)
    have hb := F.pos (b : Int) (by simp)
    have e1 : Vw.pickL ([z] ++ [(k : Int), (b : Int)]) (swapP 1) = [z, (b : Int), (k : Int)] := rfl
    have e2 : Vw.pickL (strd ([z] ++ [(k : Int), (b : Int)])) (swapP 1) = [(k : Int) * b, 1, (b : Int)] := by simp [strd, prod, Vw.pickL, swapP, upToP, List.range, List.range.loop]
    simp only [List.length_cons, List.length_nil]
    rw [e1, e2]
    simp only [List.cons_append, List.nil_append, prod, Int.mul_one] at hf hl
    obtain ⟨K, hK⟩ : ∃ K, K = (k : Int) * b := ⟨_, rfl⟩
    have hkb : (b : Int) ≤ K := by rw [hK]; exact le_mul_left hk (by omega)
    have hzk : K ≤ z * K := le_mul_left hz (by omega)
    rw [← hK] at hf hl ⊢
    have hm : Vw.MayV 0 [z, (b : Int), (k : Int)] [K, 1, (b : Int)] := ⟨⟨by intro s hs; simp at hs; omega, by simp, by simp only [prod, Int.mul_one]; rw [Int.mul_comm (b : Int) k, ← hK]; exact hf⟩, rfl, by omega, by omega, by intro s hs; simp at hs; omega⟩
    unfold Vw.rdOk
    rw [Vw.mayB_iff.2 hm]
    have hlst : Vw.lst [z, (b : Int), (k : Int)] [K, 1, (b : Int)] = z * K - 1 := by
      simp only [Vw.lst]
      rw [Int.sub_mul, Int.sub_mul, Int.sub_mul, ← hK]
      omega
    rw [hlst]
    simp
    omega

theorem yt_len {A : List Int} {k b : Nat} (hA : A.length ≤ 1) (hc : cntE (A ++ [(k : Int), (b : Int)]) = 0) {ys : List Int} (hl : (ys.length : Int) = prod (A ++ [(k : Int), (b : Int)])) : (ytL (A ++ [(k : Int), (b : Int)]) ys).length = (prod A).toNat * (b * k) := by
  have h := rd_turned hA hc hl
  have e : (A ++ [(k : Int), (b : Int)]).length - 2 = A.length := by simp
  unfold ytL
  rw [e, Vw.rdL, if_pos h, Vw.shows, List.length_map]
  have hm : Vw.MayV 0 (Vw.pickL (A ++ [(k : Int), (b : Int)]) (swapP A.length)) (Vw.pickL (strd (A ++ [(k : Int), (b : Int)])) (swapP A.length)) := Vw.mayB_iff.1 (by unfold Vw.rdOk at h; exact (Bool.and_eq_true_iff.1 h).1)
  rw [Vw.plc_length _ _ _ hm.len hm.fine.pos, pick_swap hA, prod_append]
  have F := fine_of hc
  have h1 : 1 ≤ prod A := prod_pos _ (fun z hz => F.pos z (by simp [hz]))
  have h2 : prod [(b : Int), (k : Int)] = ((b * k : Nat) : Int) := by simp [prod]
  obtain ⟨N, hN⟩ : ∃ N : Nat, prod A = N := ⟨(prod A).toNat, by omega⟩
  rw [h2, hN, ← Int.natCast_mul, Int.toNat_natCast, Int.toNat_natCast]

end Go.Proofs.YtaoplfpigjkgpaaGreatDoor

namespace Go.Proofs.YtaoplfpigjkgpaaGreatDoor

open Go.RowKit

set_option maxRecDepth 100000 in
set_option maxHeartbeats 8000000 in
theorem made_mat (n : Nod) (hop : n.op = ⟨#[77, 97, 116, 77, 117, 108]⟩) (u : Sl) (T0 T1 : Ten) (x y xs ys : List Int) (A : List Int) (a k b : Nat) (nam0 : ByteArray) (vty : Int) (dv : Sl) (l : List Int) (w : World) (hs : ShpM x y A a k b) (hl : l = A ++ [(a : Int), (b : Int)]) (hv : TensIn w u.v [(T0, (x, xs)), (T1, (y, ys))]) (hd : IsInts w dv.v l) (hxl : (xs.length : Int) = prod x) (hyl : (ys.length : Int) = prod y) :
    Calls Tryz.prog 20 #[nval n, .slice u.a u.n u.c, .agg #[.string nam0, .int .i64 vty, .slice dv.a dv.n dv.c]] w (EvQ w (.ok (mmL x xs y ys))) := by
  subst hl
  have hcy := hs.cy
  rw [hs.ey] at hcy hyl
  have hcx := hs.cx
  rw [hs.ex] at hcx hxl
  have eyt : Vw.rdL 0 (Vw.pickL (A ++ [(k : Int), (b : Int)]) (swapP A.length)) (Vw.pickL (strd (A ++ [(k : Int), (b : Int)])) (swapP A.length)) ys = ytL y ys := by
    rw [hs.ey]
    unfold ytL
    rw [show (A ++ [(k : Int), (b : Int)]).length - 2 = A.length from by simp]
  have hyt2 := yt_len hs.few hcy hyl
  rw [← hs.ey] at hyt2
  have hxl2 : xs.length = (prod A).toNat * (a * k) := by
    have F := fine_of hcx
    have h1 : 1 ≤ prod A := prod_pos _ (fun z hz => F.pos z (by simp [hz]))
    obtain ⟨N, hN⟩ : ∃ N : Nat, prod A = N := ⟨(prod A).toNat, by omega⟩
    rw [prod_append, hN, show prod [(a : Int), (k : Int)] = ((a * k : Nat) : Int) from by simp [prod], ← Int.natCast_mul] at hxl
    rw [hN, Int.toNat_natCast]
    omega
  obtain ⟨xa, xc, e1, p1, p2, p3⟩ := hv.vals.form
  obtain ⟨ua, un, uc⟩ := u
  simp only [Sl.v, List.map_cons, List.map_nil, List.length_cons, List.length_nil, Value.slice.injEq] at e1
  obtain ⟨rfl, rfl, rfl⟩ := e1
  obtain ⟨ub, uo, rfl⟩ := hv.vals.addr (k := 0) (by simp)
  obtain ⟨t0, t1, t2⟩ := hv.at 0 (by simp)
  obtain ⟨s0, s1, s2⟩ := hv.at 1 (by simp)
  have HH0 := hide (hv.has (T0, (x, xs)) (by simp))
  have HH1 := hide (hv.has (T1, (y, ys)) (by simp))
  obtain ⟨tx, ⟨xda, xdn, xdc⟩, ⟨xta, xtn, xtc⟩⟩ := T0
  obtain ⟨ty, ⟨yda, ydn, ydc⟩, ⟨yta, ytn, ytc⟩⟩ := T1
  obtain ⟨za, zn, zc⟩ := dv
  simp only [List.getElem_cons_zero, List.getElem_cons_succ, Nat.zero_mul, Nat.add_zero, Nat.one_mul] at t0 t1 t2 s0 s1 s2 HH0 HH1
  have EM := hide (hs.mm xs ys)
  have MM : Hid (∀ wx, w.grownBy wx none → Calls Tryz.prog 35 #[.agg #[.int .i64 tx, .slice xda xdn xdc, .slice xta xtn xtc], .agg #[.int .i64 ty, .slice yda ydn ydc, .slice yta ytn ytc], .slice za zn zc] wx fun e w' => ∃ u : Sl, e = .returned u.v ∧ OwnsE w' wx.heap.size u.v (mmL x xs y ys) ∧ wx.grownBy w' none) := fun wx hx => by
    have h0 := HH0.out
    have h1 := HH1.out
    have h := matmul_any ⟨tx, ⟨xda, xdn, xdc⟩, ⟨xta, xtn, xtc⟩⟩ ⟨ty, ⟨yda, ydn, ydc⟩, ⟨yta, ytn, ytc⟩⟩ A A.length a k b xs ys (ytL y ys) ⟨za, zn, zc⟩ wx rfl hcx hcy hs.cz (by rw [← hs.ex]; exact h0.1.more hx) (by rw [← hs.ey]; exact h1.1.more hx) (hd.more hx) (h0.2.more hx) (h1.2.more hx) eyt (pick_swap hs.few _ _) hxl2 hyt2
    rw [← EM.out] at h
    exact h
  obtain ⟨op, nam, ⟨ia, il, ic⟩, out, ⟨ao, al, cap⟩⟩ := n
  simp only at hop
  subst hop
  unfold nval
  simp only
  obtain ⟨w0, hw0⟩ : ∃ w0, w0 = (w.alloc (.cells #[.string ⟨#[77, 97, 116, 77, 117, 108]⟩, .string nam, .slice ia il ic, .string out, .slice ao al cap] 25)).alloc (.cells #[.string nam0, .int .i64 vty, .slice za zn zc] 50) := ⟨_, rfl⟩
  have g0 : w.grownBy w0 none := by rw [hw0]; exact grown_trans (grown_new _ _) (grown_new _ _)
  have hbx := two_boxes w (.cells #[.string ⟨#[77, 97, 116, 77, 117, 108]⟩, .string nam, .slice ia il ic, .string out, .slice ao al cap] 25) (.cells #[.string nam0, .int .i64 vty, .slice za zn zc] 50)
  rw [← hw0] at hbx
  obtain ⟨n0, -, -, -, -⟩ := nod_cells (n := ⟨⟨#[77, 97, 116, 77, 117, 108]⟩, nam, ⟨ia, il, ic⟩, out, ⟨ao, al, cap⟩⟩) hbx.1
  obtain ⟨v0, v1, v2⟩ := ten_cells hbx.2
  have v2' : Hid (∀ wx, w0.grownBy wx none → wx.cell? ⟨w.heap.size + 1, 2, none⟩ = some (.slice za zn zc)) := fun wx hx => cell_still v2 hx
  have TT : Hid (∀ wx, w.grownBy wx none → wx.cell? ⟨ub, uo, none⟩ = some (.int .i64 tx) ∧ wx.cell? ⟨ub, uo + 1, none⟩ = some (.slice xda xdn xdc) ∧ wx.cell? ⟨ub, uo + 2, none⟩ = some (.slice xta xtn xtc) ∧ wx.cell? ⟨ub, uo + 3, none⟩ = some (.int .i64 ty) ∧ wx.cell? ⟨ub, uo + 3 + 1, none⟩ = some (.slice yda ydn ydc) ∧ wx.cell? ⟨ub, uo + 3 + 2, none⟩ = some (.slice yta ytn ytc)) := fun wx hx => ⟨cell_still t0 hx, cell_still t1 hx, cell_still t2 hx, cell_still s0 hx, cell_still s1 hx, cell_still s2 hx⟩
  obtain ⟨t0, t1, t2, s0, s1, s2⟩ := TT.out w0 g0
  have G0 := hide g0
  have i0' : (0 : Int) < 2 := by decide
  have i1' : (1 : Int) < 2 := by decide
  clear hbx hv hd hs hcx hcy hxl hyl eyt hyt2 hxl2 v0 v1 g0
  go_enter Tryz.func20, Tryz.ntmps20
  rw [hw0] at n0 t0 t1 t2 s0 s1 s2 v2
  go_wp2_with fail
  rw [← hw0]
  rw [← hw0] at n0 t0 t1 t2 s0 s1 s2 v2
  clear hw0 n0
  go_region_held3 (fun w' => w'.cell? ⟨ub, uo, none⟩ = some (.int .i64 tx) ∧ w'.cell? ⟨ub, uo + 1, none⟩ = some (.slice xda xdn xdc) ∧ w'.cell? ⟨ub, uo + 2, none⟩ = some (.slice xta xtn xtc) ∧ w'.cell? ⟨ub, uo + 3, none⟩ = some (.int .i64 ty) ∧ w'.cell? ⟨ub, uo + 3 + 1, none⟩ = some (.slice yda ydn ydc) ∧ w'.cell? ⟨ub, uo + 3 + 2, none⟩ = some (.slice yta ytn ytc) ∧ w'.cell? ⟨w.heap.size + 1, 2, none⟩ = some (.slice za zn zc)) (go_keep) (first | (go_at_call 35; refine (MM.out _ (grown_drew G0.out)).mono ?_; rintro e w3 ⟨⟨qa, qn, qc⟩, rfl, ho3, hg3⟩; have g3 : w0.grownBy w3 none := grown_trans (grown_drew (grown_refl _)) hg3; obtain ⟨t0, t1, t2, s0, s1, s2⟩ := TT.out w3 (grown_trans G0.out g3); have v2 := v2'.out w3 g3) | fail)
  have HO : Hid (OwnsE w3 w.heap.size (.slice qa qn qc) (mmL x xs y ys)) := ⟨ownsRow_base ho3.1 G0.out.size, ho3.2⟩
  have HG := hide (grown_trans G0.out g3)
  clear ho3 hg3 g3 t0 t1 t2 s0 s1 s2 v2
  go_wp2
  go_ret2
  exact ev_ok rfl HG.out ⟨⟨qa, qn, qc⟩, rfl, HO.out⟩

end Go.Proofs.YtaoplfpigjkgpaaGreatDoor
