/- linear.gemm with two inputs that turns both, by the walk (mkLnGemF.py). -/
import Derived.Test.YtfladhogkhhlcaaGreatDoorPartY
namespace Go.Proofs.YtfladhogkhhlcaaGreatDoor
open Go.RowKit

set_option maxRecDepth 100000 in
set_option maxHeartbeats 16000000 in
theorem gemm_flag (n : Nod) (A : At) (hop : n.op = ⟨#[71, 101, 109, 109]⟩) (w : World) (hno : NodeOk w n A) (f1 : A.int ⟨#[116, 114, 97, 110, 115, 65]⟩ 0 = 1) (f2 : A.int ⟨#[116, 114, 97, 110, 115, 66]⟩ 0 = 1) (fa : bitsV A.xs ⟨#[97, 108, 112, 104, 97]⟩ 1065353216 = 1065353216) (fb : bitsV A.xs ⟨#[98, 101, 116, 97]⟩ 1065353216 = 1065353216) (u : Sl) (T0 T1 : Ten) (x y xs ys : List Int) (a k b : Nat) (dv : Sl) (ex : x = [(k : Int), (a : Int)]) (ey : y = [(b : Int), (k : Int)]) (cx : cntE x = 0) (cy : cntE y = 0) (cz : cntE [(a : Int), (b : Int)] = 0) (hv : TensIn w u.v [(T0, (x, xs)), (T1, (y, ys))]) (hxl : (xs.length : Int) = prod x) (hyl : (ys.length : Int) = prod y) :
    Calls Tryz.prog 21 #[nval n, .slice u.a u.n u.c, .slice dv.a dv.n dv.c] w fun e w' => ∃ u : Sl, e = .returned u.v ∧ OwnsE w' w.heap.size u.v (tms (blk (ytL x xs) 0 a k) (blk ys 0 b k)) ∧ w.grownBy w' none := by
  obtain ⟨i0, hi0, hz0, hz1, hz2⟩ := info_parts info64E
  have hcy := cy
  rw [ey] at hcy hyl
  have hcx := cx
  rw [ex] at hcx hxl
  have eyt : Vw.rdL 0 (Vw.pickL ([] ++ [(k : Int), (a : Int)]) (swapP 0)) (Vw.pickL (strd ([] ++ [(k : Int), (a : Int)])) (swapP 0)) xs = ytL x xs := by
    rw [ex]
    rfl
  have hxt2 := yt_len (A := []) (k := k) (b := a) (by simp) hcx hxl
  rw [List.nil_append, ← ex, show (prod []).toNat = 1 from rfl, Nat.one_mul] at hxt2
  have hyl2 : ys.length = b * k := by
    rw [show prod [(b : Int), (k : Int)] = ((b * k : Nat) : Int) from by simp [prod]] at hyl
    omega
  have FX := fine_of hcx
  have FY := fine_of hcy
  have FZ := fine_of cz
  have fa1 : (1 : Int) ≤ a := FX.pos _ (by simp)
  have fk1 : (1 : Int) ≤ k := FX.pos _ (by simp)
  have fb1 : (1 : Int) ≤ b := FY.pos _ (by simp)
  have sx : a * k ≤ 65536 := by have := FX.le; rw [show prod [(k : Int), (a : Int)] = ((k * a : Nat) : Int) from by simp [prod], Nat.mul_comm k a] at this; omega
  have sy : k * b ≤ 65536 := by have := FY.le; rw [show prod [(b : Int), (k : Int)] = ((b * k : Nat) : Int) from by simp [prod], Nat.mul_comm b k] at this; omega
  have sz : a * b ≤ 65536 := by have := FZ.le; rw [show prod [(a : Int), (b : Int)] = ((a * b : Nat) : Int) from by simp [prod]] at this; omega
  have A1 : Hid (1 ≤ a) := by show 1 ≤ a; omega
  have B1 : Hid (1 ≤ b) := by show 1 ≤ b; omega
  have K1 : Hid (1 ≤ k) := by show 1 ≤ k; omega
  have SAB : Hid (a * b ≤ 65536) := sz
  have SA : Hid (a ≤ 65536) := Nat.le_trans (Nat.le_mul_of_pos_right _ B1.out) sz
  obtain ⟨L, hL⟩ : ∃ L, L = tms (blk (ytL x xs) 0 a k) (blk ys 0 b k) := ⟨_, rfl⟩
  have EL : Hid (tms (blk (ytL x xs) 0 a k) (blk ys 0 b k) = L) := hL.symm
  have LL : Hid (L.length = a * b) := by show _ = _; rw [hL, tms_length, blk_length, blk_length]
  have LA : Hid (∀ z ∈ L, Nu.chk 1 z = true ∧ 0 ≤ z ∧ z < 4294967296) := by rw [hL]; exact tms_all _ _
  obtain ⟨xa, xc, e1, p1, p2, p3⟩ := hv.vals.form
  obtain ⟨ua, un, uc⟩ := u
  simp only [Sl.v, List.map_cons, List.map_nil, List.length_cons, List.length_nil, Value.slice.injEq] at e1
  obtain ⟨rfl, rfl, rfl⟩ := e1
  obtain ⟨ub, uo, rfl⟩ := hv.vals.addr (k := 0) (by simp)
  obtain ⟨t0, t1, t2⟩ := hv.at 0 (by simp)
  obtain ⟨s0, s1, s2⟩ := hv.at 1 (by simp)
  have HH0 := hide (hv.has (T0, (x, xs)) (by simp))
  have HH1 := hide (hv.has (T1, (y, ys)) (by simp))
  obtain ⟨tx, ⟨xda, xdn, xdc⟩, ⟨xta, xtn, xtc⟩⟩ := T0
  obtain ⟨ty, ⟨yda, ydn, ydc⟩, ⟨yta, ytn, ytc⟩⟩ := T1
  obtain ⟨za, zn, zc⟩ := dv
  simp only [List.getElem_cons_zero, List.getElem_cons_succ, Nat.zero_mul, Nat.add_zero, Nat.one_mul] at t0 t1 t2 s0 s1 s2 HH0 HH1
  obtain ⟨op, nam, ⟨ia, il, ic⟩, out, ⟨ao, al, cap⟩⟩ := n
  simp only at hop
  subst hop
  unfold nval
  simp only
  have HNO := hide hno
  obtain ⟨w0, hw0⟩ : ∃ w0, w0 = w.alloc (.cells #[.string ⟨#[71, 101, 109, 109]⟩, .string nam, .slice ia il ic, .string out, .slice ao al cap] 36) := ⟨_, rfl⟩
  have g0 : w.grownBy w0 none := by rw [hw0]; exact grown_new _ _
  have hb0 := heap_alloc_new w (.cells #[.string ⟨#[71, 101, 109, 109]⟩, .string nam, .slice ia il ic, .string out, .slice ao al cap] 36)
  rw [← hw0] at hb0
  have BN : Hid (∀ wx, w0.grownBy wx none → wx.heap[w.heap.size]? = some (.cells #[.string ⟨#[71, 101, 109, 109]⟩, .string nam, .slice ia il ic, .string out, .slice ao al cap] 36 (0, 0))) := fun wx hx => box_kept hb0 hx
  have TT : Hid (∀ wx, w.grownBy wx none → wx.cell? ⟨ub, uo, none⟩ = some (.int .i64 tx) ∧ wx.cell? ⟨ub, uo + 1, none⟩ = some (.slice xda xdn xdc) ∧ wx.cell? ⟨ub, uo + 2, none⟩ = some (.slice xta xtn xtc) ∧ wx.cell? ⟨ub, uo + 3, none⟩ = some (.int .i64 ty) ∧ wx.cell? ⟨ub, uo + 3 + 1, none⟩ = some (.slice yda ydn ydc) ∧ wx.cell? ⟨ub, uo + 3 + 2, none⟩ = some (.slice yta ytn ytc)) := fun wx hx => ⟨cell_still t0 hx, cell_still t1 hx, cell_still t2 hx, cell_still s0 hx, cell_still s1 hx, cell_still s2 hx⟩
  have NI : Hid (∀ (wx : World) (nm : ByteArray), w.grownBy wx none → Calls Tryz.prog 42 #[.agg #[.string ⟨#[71, 101, 109, 109]⟩, .string nam, .slice ia il ic, .string out, .slice ao al cap], .string nm, .int .i64 0] wx fun e w' => e = .returned (.int .i64 (A.int nm 0)) ∧ wx.grownBy w' none) := fun wx nm hx => nint_any ⟨⟨#[71, 101, 109, 109]⟩, nam, ⟨ia, il, ic⟩, out, ⟨ao, al, cap⟩⟩ A nm 0 wx (HNO.out.more hx)
  have NBt : Hid (∀ (wx : World) (nm : ByteArray), w.grownBy wx none → Calls Tryz.prog 44 #[.agg #[.string ⟨#[71, 101, 109, 109]⟩, .string nam, .slice ia il ic, .string out, .slice ao al cap], .string nm, .int .i64 1065353216] wx fun e w' => e = .returned (.int .i64 (bitsV A.xs nm 1065353216)) ∧ wx.grownBy w' none) := fun wx nm hx => sbits_any ⟨⟨#[71, 101, 109, 109]⟩, nam, ⟨ia, il, ic⟩, out, ⟨ao, al, cap⟩⟩ A.xs A.cs nm 1065353216 wx (HNO.out.more hx).attrs (HNO.out.more hx).has
  have G0 := hide g0
  have TY : Hid (∀ wx, w.grownBy wx none → Calls Tryz.prog 38 #[.agg #[.int .i64 tx, .slice xda xdn xdc, .slice xta xtn xtc]] wx fun e w' => ∃ d t : Sl, e = .returned (tval ⟨tx, d, t⟩) ∧ Owns w' wx.heap.size d.v [(a : Int), (k : Int)] ∧ Vw.Owns64 w' wx.heap.size t.v (ytL x xs) ∧ wx.grownBy w' none) := fun wx hx => by
    have h1 := HH0.out
    have h := lturned_any ⟨tx, ⟨xda, xdn, xdc⟩, ⟨xta, xtn, xtc⟩⟩ ([] ++ [(k : Int), (a : Int)]) xs 0 wx hcx rfl (by rw [List.nil_append, ← ex]; exact h1.1.more hx) (h1.2.more hx)
    unfold TurnQ at h
    rw [eyt, show Vw.pickL ([] ++ [(k : Int), (a : Int)]) (swapP 0) = [(a : Int), (k : Int)] from rfl] at h
    exact h
  have HX : Hid (∀ wx, w.grownBy wx none → IsInts wx (.slice yda ydn ydc) [(b : Int), (k : Int)] ∧ IsInts wx (.slice yta ytn ytc) ys) := fun wx hx => ⟨by rw [← ey]; exact HH1.out.1.more hx, HH1.out.2.more hx⟩
  obtain ⟨n0, n1, n2, n3, n4⟩ := nod_cells (n := ⟨⟨#[71, 101, 109, 109]⟩, nam, ⟨ia, il, ic⟩, out, ⟨ao, al, cap⟩⟩) hb0
  obtain ⟨t0, t1, t2, s0, s1, s2⟩ := TT.out w0 g0
  have i0' : (0 : Int) < 2 := by decide
  have i1' : (1 : Int) < 2 := by decide
  have SX2 := hide hxt2
  have SY2 := hide hyl2
  have F1 := hide f1
  have F2 := hide f2
  have FA := hide fa
  have FB := hide fb
  have SX := hide sx
  have SY := hide sy
  clear hno hv ex ey cx cy cz hcx hcy hxl hyl eyt hxt2 hyl2 FX FY FZ fa1 fk1 fb1 sx sy sz hb0 g0 f1 f2 fa fb
  go_enter Tryz.func21, Tryz.ntmps21
  go_wp2_with fail
  rw [← hw0]
  clear hw0
  go_cut [7, 8] from 18 to 23 (fun p7 p8 wx => ∃ (B7 B8 : Nat), p7 = .pointer (some ⟨B7, 0, none⟩) ∧ p8 = .pointer (some ⟨B8, 0, none⟩) ∧ wx.heap[B7]? = some (.cells #[.int .i64 tx, .slice xda xdn xdc, .slice xta xtn xtc] 25 (0, 0)) ∧ wx.heap[B8]? = some (.cells #[.int .i64 ty, .slice yda ydn ydc, .slice yta ytn ytc] 25 (0, 0)) ∧ B7 ≠ B8 ∧ w0.heap.size ≤ B7 ∧ w0.grownBy wx none)
  case first =>
    go_region_held3 (fun w' => w'.cell? ⟨ub, uo, none⟩ = some (.int .i64 tx) ∧ w'.cell? ⟨ub, uo + 1, none⟩ = some (.slice xda xdn xdc) ∧ w'.cell? ⟨ub, uo + 2, none⟩ = some (.slice xta xtn xtc) ∧ w'.cell? ⟨ub, uo + 3, none⟩ = some (.int .i64 ty) ∧ w'.cell? ⟨ub, uo + 3 + 1, none⟩ = some (.slice yda ydn ydc) ∧ w'.cell? ⟨ub, uo + 3 + 2, none⟩ = some (.slice yta ytn ytc)) (go_keep) (fail)
    all_goals (go_wp2_with fail; go_meet)
    all_goals first
      | exact ⟨_, _, rfl, rfl, (two_boxes w0 (.cells #[.int .i64 tx, .slice xda xdn xdc, .slice xta xtn xtc] 25) (.cells #[.int .i64 ty, .slice yda ydn ydc, .slice yta ytn ytc] 25)).1, (two_boxes w0 (.cells #[.int .i64 tx, .slice xda xdn xdc, .slice xta xtn xtc] 25) (.cells #[.int .i64 ty, .slice yda ydn ydc, .slice yta ytn ytc] 25)).2, by omega, by omega, grown_drew (grown_trans (grown_new _ _) (grown_new _ _))⟩
      | exact ⟨_, _, rfl, rfl, (two_boxes w0 (.cells #[.int .i64 ty, .slice yda ydn ydc, .slice yta ytn ytc] 25) (.cells #[.int .i64 tx, .slice xda xdn xdc, .slice xta xtn xtc] 25)).2, (two_boxes w0 (.cells #[.int .i64 ty, .slice yda ydn ydc, .slice yta ytn ytc] 25) (.cells #[.int .i64 tx, .slice xda xdn xdc, .slice xta xtn xtc] 25)).1, by omega, by omega, grown_drew (grown_trans (grown_new _ _) (grown_new _ _))⟩
  case rest =>
    obtain ⟨B7, B8, rfl, rfl, h7, h8, hne, hB8, hg⟩ := hcut
    have GC := hide hg
    obtain ⟨n0, n1, n2, n3, n4⟩ := nod_cells (n := ⟨⟨#[71, 101, 109, 109]⟩, nam, ⟨ia, il, ic⟩, out, ⟨ao, al, cap⟩⟩) (BN.out wc hg)
    have I1 := hide (NI.out wc ⟨#[116, 114, 97, 110, 115, 65]⟩ (grown_trans G0.out hg))
    rw [F1.out] at I1
    have H7a := hide h7
    have H8a := hide h8
    have HNE := hide hne
    have HB7 := hide hB8
    clear t0 t1 t2 s0 s1 s2 h7 h8 hne hB8 hg
    go_wp2_with fail
    refine I1.out.mono ?_
    rintro e w1 ⟨rfl, hg1⟩
    have G1 := hide (grown_trans GC.out hg1)
    have GC1 := hide hg1
    have h7 := box_kept H7a.out GC1.out
    obtain ⟨x0, x1, x2⟩ := ten_cells h7
    have T1 := hide (TY.out w1 (grown_trans G0.out G1.out))
    clear hg1 I1 h7 n0 n1 n2 n3 n4
    go_wp2_with fail
    refine T1.out.mono ?_
    rintro e w3 ⟨⟨da, dn, dc⟩, ⟨ta, tn, tc⟩, rfl, od, ot, hg3⟩
    unfold tval
    simp only
    have h8 := box_kept H8a.out (grown_trans GC1.out hg3)
    have h7 := box_kept H7a.out (grown_trans GC1.out hg3)
    obtain ⟨x0, x1, x2⟩ := ten_cells h7
    obtain ⟨f0, f1, f2⟩ := ten_frozen h7
    obtain ⟨hX, gX⟩ := store3t (.int .i64 tx) (.slice da dn dc) (.slice ta tn tc) h7
    obtain ⟨w3s, hw3⟩ : ∃ w4, w4 = ((w3.setCell ⟨B7, 0, none⟩ (.int .i64 tx)).setCell ⟨B7, 1, none⟩ (.slice da dn dc)).setCell ⟨B7, 2, none⟩ (.slice ta tn tc) := ⟨_, rfl⟩
    rw [← hw3] at hX gX
    have G3 := hide (grown_drop (grown_trans G1.out hg3) gX HB7.out)
    have k8 : w3s.heap[B8]? = some (.cells #[.int .i64 ty, .slice yda ydn ydc, .slice yta ytn ytc] 25 (0, 0)) := by
      rw [← h8]
      exact gX.block B8 (Array.getElem?_eq_some_iff.1 h8).1 (by simpa using fun e => HNE.out e.symm)
    have OD3 := hide (od.more gX (own_te od.1 h7 (by decide)))
    have OT3 : Hid (Vw.Owns64 w3s w1.heap.size (.slice ta tn tc) (ytL x xs)) := ⟨ot.1.kept gX (own_te ot.1 h7 (by decide)), ot.2⟩
    have I2 := hide (NI.out w3s ⟨#[116, 114, 97, 110, 115, 66]⟩ (grown_trans G0.out G3.out))
    rw [F2.out] at I2
    have K8 := hide k8
    have K7 := hide hX
    obtain ⟨n0, n1, n2, n3, n4⟩ := nod_cells (n := ⟨⟨#[71, 101, 109, 109]⟩, nam, ⟨ia, il, ic⟩, out, ⟨ao, al, cap⟩⟩) (BN.out w3s G3.out)
    rw [hw3] at n0 n1 n2 n3 n4
    clear od ot gX h7 h8 hg3 T1 k8 hX
    go_wp2_with fail
    rw [← hw3]
    clear hw3 x0 x1 x2 f0 f1 f2 n0 n1 n2 n3 n4
    refine I2.out.mono ?_
    rintro e w4 ⟨rfl, hg4⟩
    have G4 := hide (grown_trans G3.out hg4)
    have OD := hide (OD3.out.new hg4)
    have OT : Hid (Vw.Owns64 w4 w1.heap.size (.slice ta tn tc) (ytL x xs)) := ⟨OT3.out.1.kept hg4 (by cases (Value.slice ta tn tc).ownBlock <;> simp), OT3.out.2⟩
    have k7 := box_kept K7.out hg4
    have k8 := box_kept K8.out hg4
    have H7 : Hid (∀ wx, w4.grownBy wx none → wx.heap[B7]? = some (.cells #[.int .i64 tx, .slice da dn dc, .slice ta tn tc] 25 (0, 0))) := fun wx hx => box_kept k7 hx
    have H8 : Hid (∀ wx, w4.grownBy wx none → wx.heap[B8]? = some (.cells #[.int .i64 ty, .slice yda ydn ydc, .slice yta ytn ytc] 25 (0, 0))) := fun wx hx => box_kept k8 hx
    have PX : Hid (∀ wx, w4.grownBy wx none → Calls Tryz.prog 37 #[.agg #[.int .i64 tx, .slice da dn dc, .slice ta tn tc]] wx fun e w' => e = .returned (.agg #[.slice da 0 dc, .int .i64 a, .int .i64 k, .slice ta tn tc]) ∧ wx.grownBy w' none) := fun wx hx => pileof_any ⟨tx, ⟨da, dn, dc⟩, ⟨ta, tn, tc⟩⟩ [(a : Int), (k : Int)] 0 wx (OD.out.ints.more hx) rfl
    have PY : Hid (∀ wx, w4.grownBy wx none → Calls Tryz.prog 37 #[.agg #[.int .i64 ty, .slice yda ydn ydc, .slice yta ytn ytc]] wx fun e w' => e = .returned (.agg #[.slice yda 0 ydc, .int .i64 b, .int .i64 k, .slice yta ytn ytc]) ∧ wx.grownBy w' none) := fun wx hx => pileof_any ⟨ty, ⟨yda, ydn, ydc⟩, ⟨yta, ytn, ytc⟩⟩ [(b : Int), (k : Int)] 0 wx (HX.out wx (grown_trans G0.out (grown_trans G4.out hx))).1 rfl
    have BX1 : Hid (∀ wx, w4.grownBy wx none → Calls Tryz.prog 40 #[.agg #[.slice da 0 dc, .int .i64 a, .int .i64 k, .slice ta tn tc], .int .i64 0] wx fun e w' => ∃ (u : Sl) (rs : List (Sl × List Int)), e = .returned u.v ∧ Blk w' u.v rs k ∧ rs.map (·.2) = blk (ytL x xs) 0 a k ∧ wx.grownBy w' none) := fun wx hx => block_any ⟨da, 0, dc⟩ a k 0 ⟨ta, tn, tc⟩ (ytL x xs) wx ((OwnsE.ints (w := w4) OT.out).more hx) A1.out K1.out (by rw [SX2.out]; omega) (by rw [SX2.out]; exact SX.out)
    have BY1 : Hid (∀ wx, w4.grownBy wx none → Calls Tryz.prog 40 #[.agg #[.slice yda 0 ydc, .int .i64 b, .int .i64 k, .slice yta ytn ytc], .int .i64 0] wx fun e w' => ∃ (u : Sl) (rs : List (Sl × List Int)), e = .returned u.v ∧ Blk w' u.v rs k ∧ rs.map (·.2) = blk ys 0 b k ∧ wx.grownBy w' none) := fun wx hx => block_any ⟨yda, 0, ydc⟩ b k 0 ⟨yta, ytn, ytc⟩ ys wx (HX.out wx (grown_trans G0.out (grown_trans G4.out hx))).2 B1.out K1.out (by rw [SY2.out]; omega) (by rw [SY2.out, Nat.mul_comm]; exact SY.out)
    clear hg4 I2 k7 k8
    go_wp2_with fail
    obtain ⟨x0, x1, x2⟩ := ten_cells (H7.out w4 (grown_refl _))
    obtain ⟨y0, y1, y2⟩ := ten_cells (H8.out w4 (grown_refl _))
    go_region_held3 (fun w' => w'.cell? ⟨B7, 0, none⟩ = some (.int .i64 tx) ∧ w'.cell? ⟨B7, 1, none⟩ = some (.slice da dn dc) ∧ w'.cell? ⟨B7, 2, none⟩ = some (.slice ta tn tc) ∧ w'.cell? ⟨B8, 0, none⟩ = some (.int .i64 ty) ∧ w'.cell? ⟨B8, 1, none⟩ = some (.slice yda ydn ydc) ∧ w'.cell? ⟨B8, 2, none⟩ = some (.slice yta ytn ytc)) (go_keep) (first | (have dd := f4; go_at_call 41; have lr : rs.length = a := (by have h := congrArg List.length hM1; rwa [List.length_map, blk_length] at h); have lc : cs.length = b := (by have h := congrArg List.length hM2; rwa [List.length_map, blk_length] at h); refine (times_any ⟨ra, rn, rc⟩ ⟨sa, sn, sc⟩ rs cs k w8 (hB1.more (grown_trans hg7 hg8)) hB2 (by rw [lr, lc]; exact SAB.out) (by rw [lr]; exact SA.out)).mono ?_; rintro e w9 ⟨⟨va, vn, vc⟩, rfl, hO9, hg9⟩; have g9 : w4.grownBy w9 none := grown_trans g8 hg9; obtain ⟨x0, x1, x2⟩ := ten_cells (H7.out w9 g9); obtain ⟨y0, y1, y2⟩ := ten_cells (H8.out w9 g9); (try simp only [Sl.v]); have f5 : True := trivial) | (have dd := f3; (fail_if_success (have dd := f4)); go_at_call 40; refine (BY1.out _ g7).mono ?_; rintro e w8 ⟨⟨sa, sn, sc⟩, cs, rfl, hB2, hM2, hg8⟩; have g8 : w4.grownBy w8 none := grown_trans g7 hg8; obtain ⟨x0, x1, x2⟩ := ten_cells (H7.out w8 g8); obtain ⟨y0, y1, y2⟩ := ten_cells (H8.out w8 g8); (try simp only [Sl.v]); have f4 : True := trivial) | (have dd := f2; (fail_if_success (have dd := f3)); go_at_call 37; refine (PY.out _ g6).mono ?_; rintro e w7 ⟨rfl, hg7⟩; have g7 : w4.grownBy w7 none := grown_trans g6 hg7; obtain ⟨x0, x1, x2⟩ := ten_cells (H7.out w7 g7); obtain ⟨y0, y1, y2⟩ := ten_cells (H8.out w7 g7); have f3 : True := trivial) | (have dd := f1; (fail_if_success (have dd := f2)); go_at_call 40; refine (BX1.out _ g5).mono ?_; rintro e w6 ⟨⟨ra, rn, rc⟩, rs, rfl, hB1, hM1, hg6⟩; have g6 : w4.grownBy w6 none := grown_trans g5 hg6; obtain ⟨x0, x1, x2⟩ := ten_cells (H7.out w6 g6); obtain ⟨y0, y1, y2⟩ := ten_cells (H8.out w6 g6); (try simp only [Sl.v]); have f2 : True := trivial) | ((fail_if_success (have dd := f1)); go_at_call 37; refine (PX.out _ (grown_drew (grown_refl _))).mono ?_; rintro e w5 ⟨rfl, hg5⟩; have g5 : w4.grownBy w5 none := grown_trans (grown_drew (grown_refl _)) hg5; obtain ⟨x0, x1, x2⟩ := ten_cells (H7.out w5 g5); obtain ⟨y0, y1, y2⟩ := ten_cells (H8.out w5 g5); have f1 : True := trivial) | fail)
    rw [hM1, hM2, ← hL] at hO9
    clear hL
    have G9 := hide (grown_trans G4.out g9)
    have HO9 : Hid (OwnsE w9 w0.heap.size (.slice va vn vc) L) := ⟨ownsRow_base hO9.1 (by have h1 := G4.out.size; have h2 := g8.size; omega), hO9.2⟩
    have TA := hide (stwo_any ⟨#[65, 100, 100]⟩ 1 w9)
    clear hB1 hM1 hB2 hM2 hO9 hg5 hg6 hg7 hg8 hg9 g5 g6 g7 g8 g9 x0 x1 x2 y0 y1 y2
    go_wp2_with fail
    refine TA.out.mono ?_
    rintro e wA ⟨rfl, hgA, -, -⟩
    have GA9 := hide hgA
    have TM := hide (stwo_any ⟨#[77, 117, 108]⟩ 1 wA)
    clear TA hgA
    go_wp2_with fail
    refine TM.out.mono ?_
    rintro e wB ⟨rfl, hgB, j1, j2⟩
    have GB9 := hide (grown_trans GA9.out hgB)
    have GB := hide (grown_trans G9.out GB9.out)
    have SM : Hid (StepB ⟨#[77, 117, 108]⟩ wB wA.heap.size (wA.heap.size + 1)) := ⟨j1, j2⟩
    obtain ⟨M, hM⟩ : ∃ M, M = wA.heap.size := ⟨_, rfl⟩
    obtain ⟨M0, hM0⟩ : ∃ M0, M0 = w9.heap.size := ⟨_, rfl⟩
    rw [← hM] at SM ⊢
    rw [← hM0]
    have OB := hide (HO9.out.more GB9.out (by cases (Value.slice va vn vc).ownBlock <;> simp))
    obtain ⟨n0, n1, n2, n3, n4⟩ := nod_cells (n := ⟨⟨#[71, 101, 109, 109]⟩, nam, ⟨ia, il, ic⟩, out, ⟨ao, al, cap⟩⟩) (BN.out wB GB.out)
    clear TM j1 j2 hgB hM hM0 f1 f2 f3 f4 f5
    go_wp2_with fail
    go_region_held3 (fun w' => w'.cell? ⟨w.heap.size, 0, none⟩ = some (.string ⟨#[71, 101, 109, 109]⟩) ∧ w'.cell? ⟨w.heap.size, 1, none⟩ = some (.string nam) ∧ w'.cell? ⟨w.heap.size, 2, none⟩ = some (.slice ia il ic) ∧ w'.cell? ⟨w.heap.size, 3, none⟩ = some (.string out) ∧ w'.cell? ⟨w.heap.size, 4, none⟩ = some (.slice ao al cap)) (go_keep) (first | (have dd := f1; go_at_call 44; refine (NBt.out _ ⟨#[98, 101, 116, 97]⟩ (grown_trans G0.out (grown_trans GB.out gC))).mono ?_; rw [FB.out]; rintro e wD ⟨rfl, hgD⟩; have gD : wB.grownBy wD none := grown_trans gC hgD; obtain ⟨n0, n1, n2, n3, n4⟩ := nod_cells (n := ⟨⟨#[71, 101, 109, 109]⟩, nam, ⟨ia, il, ic⟩, out, ⟨ao, al, cap⟩⟩) (BN.out wD (grown_trans GB.out gD))) | ((fail_if_success (have dd := f1)); go_at_call 44; refine (NBt.out _ ⟨#[97, 108, 112, 104, 97]⟩ (grown_trans G0.out (grown_trans GB.out (grown_drew (grown_refl _))))).mono ?_; rw [FA.out]; rintro e wC ⟨rfl, hgC⟩; have gC : wB.grownBy wC none := grown_trans (grown_drew (grown_refl _)) hgC; obtain ⟨n0, n1, n2, n3, n4⟩ := nod_cells (n := ⟨⟨#[71, 101, 109, 109]⟩, nam, ⟨ia, il, ic⟩, out, ⟨ao, al, cap⟩⟩) (BN.out wC (grown_trans GB.out gC)); have f1 : True := trivial) | fail)
    have GD := hide (grown_trans GB.out gD)
    have SD := hide (SM.out.more gD)
    have OD2 := hide (OB.out.more gD (by cases (Value.slice va vn vc).ownBlock <;> simp))
    obtain ⟨vx, vcx, ev, v1, v2, v3⟩ := OD2.out.ints.sl
    simp only [Value.slice.injEq] at ev
    obtain ⟨rfl, evn, rfl⟩ := ev
    subst evn
    have lpos : 0 < L.length := by rw [LL.out]; exact Nat.mul_pos A1.out B1.out
    obtain ⟨vg, ⟨vc', ev⟩, -, -⟩ := ownsE_cells OD2.out lpos
    simp only [Value.slice.injEq] at ev
    obtain ⟨rfl, -, rfl⟩ := ev
    have lle : L.length ≤ 65536 := by rw [LL.out]; exact SAB.out
    clear hgC hgD gC gD f1 n0 n1 n2 n3 n4 v1 v2 v3
    go_wp2_with fail
    have HB0 : Hid (w0.heap.size ≤ vg) := (World.ownsRow.lt OD2.out.1 vg rfl).1
    have NE1 : Hid (M ≠ vg) := fun e => by
      have h := own_apart OD2.out.1 SD.out.1 (by decide)
      rcases h with h | h
      · cases h
      · exact h (by rw [e]; rfl)
    have NE2 : Hid (M + 1 ≠ vg) := fun e => by
      have h := own_apart OD2.out.1 SD.out.2 (by decide)
      rcases h with h | h
      · cases h
      · exact h (by rw [e]; rfl)
    have SW : Hid (∀ wx, wD.grownBy wx (some vg) → StepB ⟨#[77, 117, 108]⟩ wx M (M + 1)) := fun wx hx => ⟨by rw [← SD.out.1]; exact hx.block M (Array.getElem?_eq_some_iff.1 SD.out.1).1 (by simpa using NE1.out), by rw [← SD.out.2]; exact hx.block (M + 1) (Array.getElem?_eq_some_iff.1 SD.out.2).1 (by simpa using NE2.out)⟩
    go_loopw [49] (fun x wr => wD.grownBy wr (some vg) ∧ ∃ t : Nat, t ≤ L.length ∧ x = .int .i64 t ∧ OwnsE wr w0.heap.size (.slice (some ⟨vg, 0, none⟩) L.length vc) L) (fun x _ => L.length - (intOf x).toNat)
    case atStart => exact ⟨World.grownBy.refl _ _, 0, Nat.zero_le _, rfl, OD2.out⟩
    case round =>
      obtain ⟨hgr, t, htl, rfl, ho⟩ := hrel
      have HGr := hide hgr
      have HOr := hide ho
      by_cases hlt : t < L.length
      · have lz := LA.out (L.getD t 0) (getDm hlt)
        obtain ⟨q1, q2, -, -⟩ := ho.put rfl hlt 0 (by omega)
        obtain ⟨z, hz⟩ : ∃ z, z = L.getD t 0 := ⟨_, rfl⟩
        rw [← hz] at q1 lz
        have MC := hide (smul_any M (M + 1) 1065353216 z wr (SW.out wr hgr))
        rw [(one_fmul lz.1).1] at MC
        have HZ := hide hz
        have LZ := hide lz
        have tl : (t : Int) < (L.length : Int) := by omega
        clear hz lz hgr ho q2
        go_wp2_with fail
        refine MC.out.mono ?_
        rintro e wE ⟨rfl, hgE⟩
        have OE := hide (HOr.out.more hgE (.inr (by simp [Value.ownBlock])))
        have GE : Hid (wD.grownBy wE (some vg)) := grown_same HGr.out ⟨hgE.os, hgE.tape, hgE.output, hgE.size, fun k hk hn => hgE.block k hk (by simp)⟩
        obtain ⟨q1, q2, q3, q4⟩ := OE.out.put rfl hlt z (by have := LZ.out; omega)
        rw [HZ.out, set_same hlt] at q3
        have N3 := hide q3
        have N4 := hide (grown_same GE.out q4)
        rw [← HZ.out] at N3 q1
        clear q3 q4 hgE
        go_wp2_with fail
        go_roundw
        case rel => exact ⟨N4.out, t + 1, hlt, by go_num, N3.out⟩
        case measure => simp [intOf]; omega
      · obtain rfl : t = L.length := by omega
        have OF : Hid (OwnsE wr w.heap.size (.slice (some ⟨vg, 0, none⟩) L.length vc) L) := ⟨ownsRow_base ho.1 G0.out.size, ho.2⟩
        have GF := hide (grown_drop (grown_trans G0.out GD.out) hgr (Nat.le_trans G0.out.size HB0.out))
        have e2 : ((2 : Int) == 3) = false := by decide
        clear hgr ho
        go_wp2
        go_ret
        refine ⟨⟨_, _, _⟩, rfl, ?_, GF.out⟩
        rw [EL.out]
        exact OF.out
end Go.Proofs.YtfladhogkhhlcaaGreatDoor
