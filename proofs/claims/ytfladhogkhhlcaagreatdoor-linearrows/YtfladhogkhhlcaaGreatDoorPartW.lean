/- Joined texts: LnMade, LnMadeW, LnOut, LnEl. -/
import Derived.Test.YtfladhogkhhlcaaGreatDoorLnMatJ
import Derived.Test.YtfladhogkhhlcaaGreatDoorLnDoJ
import Derived.Test.YtfladhogkhhlcaaGreatDoorPartS
import Derived.Test.YtfladhogkhhlcaaGreatDoorPartR
import Derived.Test.YtfladhogkhhlcaaGreatDoorPartQ
import Derived.Test.YtfladhogkhhlcaaGreatDoorPartO
/- linear.made at MatMul, by the walk. -/
namespace Go.Proofs.YtfladhogkhhlcaaGreatDoor
open Go.RowKit

/-- The matrices turned, as they are read. -/
def ytL (y ys : List Int) : List Int := Vw.rdL 0 (Vw.pickL y (swapP (y.length - 2))) (Vw.pickL (strd y) (swapP (y.length - 2))) ys

/-- What MatMul makes. -/
def mmL (x xs y ys : List Int) : List Int := matL xs (ytL y ys) (prod (x.take (x.length - 2))).toNat (x.getD (x.length - 2) 0).toNat (x.getD (x.length - 1) 0).toNat (y.getD (y.length - 1) 0).toNat

/-- Dims that the statements ask of. -/
structure ShpM (x y : List Int) (A : List Int) (a k b : Nat) : Prop where
  ex : x = A ++ [(a : Int), (k : Int)]
  ey : y = A ++ [(k : Int), (b : Int)]
  few : A.length ≤ 1
  cx : cntE x = 0
  cy : cntE y = 0
  cz : cntE (A ++ [(a : Int), (b : Int)]) = 0

theorem pick_swap : ∀ {A : List Int}, A.length ≤ 1 → ∀ p q : Int, Vw.pickL (A ++ [p, q]) (swapP A.length) = A ++ [q, p]
  | [], _, p, q => rfl
  | [z], _, p, q => rfl
  | _ :: _ :: _, h, _, _ => by simp at h

theorem ShpM.len {x y A : List Int} {a k b : Nat} (h : ShpM x y A a k b) : x.length = A.length + 2 ∧ y.length = A.length + 2 := by
  rw [h.ex, h.ey]
  simp

theorem ShpM.mm {x y A : List Int} {a k b : Nat} (h : ShpM x y A a k b) (xs ys : List Int) : mmL x xs y ys = matL xs (ytL y ys) (prod A).toNat a k b := by
  obtain ⟨l1, l2⟩ := h.len
  have e1 : x.take A.length = A := by rw [h.ex]; exact List.take_left' rfl
  have eg : ∀ p q : Int, (A ++ [p, q]).getD A.length 0 = p ∧ (A ++ [p, q]).getD (A.length + 1) 0 = q := fun p q => by simp [List.getD]
  have e2 : x.getD A.length 0 = a := by rw [h.ex]; exact (eg _ _).1
  have e3 : x.getD (A.length + 1) 0 = k := by rw [h.ex]; exact (eg _ _).2
  have e4 : y.getD (A.length + 1) 0 = b := by rw [h.ey]; exact (eg _ _).2
  unfold mmL
  rw [l1, l2, show A.length + 2 - 2 = A.length from rfl, show A.length + 2 - 1 = A.length + 1 from rfl, e1, e2, e3, e4]
  simp

/-- The dims of the whole, read in another order. -/
theorem rd_turned {A : List Int} {k b : Nat} (hA : A.length ≤ 1) (hc : cntE (A ++ [(k : Int), (b : Int)]) = 0) {ys : List Int} (hl : (ys.length : Int) = prod (A ++ [(k : Int), (b : Int)])) : Vw.rdOk 0 (Vw.pickL (A ++ [(k : Int), (b : Int)]) (swapP A.length)) (Vw.pickL (strd (A ++ [(k : Int), (b : Int)])) (swapP A.length)) ys = true := by
  have F := fine_of hc
  have hf := F.le
  match A, hA with
  | [], _ =>
    have hk := F.pos (k : Int) (by simp)
    have hb := F.pos (b : Int) (by simp)
    have e1 : Vw.pickL ([] ++ [(k : Int), (b : Int)]) (swapP 0) = [(b : Int), (k : Int)] := rfl
    have e2 : Vw.pickL (strd ([] ++ [(k : Int), (b : Int)])) (swapP 0) = [1, (b : Int)] := by simp [strd, prod, Vw.pickL, swapP, upToP, List.range, List.range.loop]
    simp only [List.length_nil]
    rw [e1, e2]
    simp only [List.nil_append, prod] at hf hl
    have m1 : (k : Int) * (b * 1) = b * (k * 1) := by rw [Int.mul_one, Int.mul_one, Int.mul_comm]
    have hkb : (b : Int) ≤ k * (b * 1) := by rw [Int.mul_one]; exact le_mul_left hk (by omega)
    have hm : Vw.MayV 0 [(b : Int), (k : Int)] [1, (b : Int)] := ⟨⟨by intro z hz; simp at hz; omega, by simp, by simp only [prod]; omega⟩, rfl, by omega, by omega, by intro s hs; simp at hs; omega⟩
    unfold Vw.rdOk
    rw [Vw.mayB_iff.2 hm]
    have hlst : Vw.lst [(b : Int), (k : Int)] [1, (b : Int)] = k * b - 1 := by
      simp only [Vw.lst]
      rw [Int.sub_mul, Int.sub_mul]
      omega
    rw [hlst]
    simp
    rw [Int.mul_one] at hl
    omega
  | [z], _ =>
    have hz := F.pos z (by simp)
    have hk := F.pos (k : Int) (by simp)
    have hb := F.pos (b : Int) (by simp)
    have e1 : Vw.pickL ([z] ++ [(k : Int), (b : Int)]) (swapP 1) = [z, (b : Int), (k : Int)] := rfl
    have e2 : Vw.pickL (strd ([z] ++ [(k : Int), (b : Int)])) (swapP 1) = [(k : Int) * b, 1, (b : Int)] := by simp [strd, prod, Vw.pickL, swapP, upToP, List.range, List.range.loop]
    simp only [List.length_cons, List.length_nil]
    rw [e1, e2]
    simp only [List.cons_append, List.nil_append, prod, Int.mul_one] at hf hl
    obtain ⟨K, hK⟩ : ∃ K, K = (k : Int) * b := ⟨_, rfl⟩
    have hkb : (b : Int) ≤ K := by rw [hK]; exact le_mul_left hk (by omega)
    have hzk : K ≤ z * K := le_mul_left hz (by omega)
    rw [← hK] at hf hl ⊢
    have hm : Vw.MayV 0 [z, (b : Int), (k : Int)] [K, 1, (b : Int)] := ⟨⟨by intro s hs; simp at hs; omega, by simp, by simp only [prod, Int.mul_one]; rw [Int.mul_comm (b : Int) k, ← hK]; exact hf⟩, rfl, by omega, by omega, by intro s hs; simp at hs; omega⟩
    unfold Vw.rdOk
    rw [Vw.mayB_iff.2 hm]
    have hlst : Vw.lst [z, (b : Int), (k : Int)] [K, 1, (b : Int)] = z * K - 1 := by
      simp only [Vw.lst]
      rw [Int.sub_mul, Int.sub_mul, Int.sub_mul, ← hK]
      omega
    rw [hlst]
    simp
    omega

theorem yt_len {A : List Int} {k b : Nat} (hA : A.length ≤ 1) (hc : cntE (A ++ [(k : Int), (b : Int)]) = 0) {ys : List Int} (hl : (ys.length : Int) = prod (A ++ [(k : Int), (b : Int)])) : (ytL (A ++ [(k : Int), (b : Int)]) ys).length = (prod A).toNat * (b * k) := by
  have h := rd_turned hA hc hl
  have e : (A ++ [(k : Int), (b : Int)]).length - 2 = A.length := by simp
  unfold ytL
  rw [e, Vw.rdL, if_pos h, Vw.shows, List.length_map]
  have hm : Vw.MayV 0 (Vw.pickL (A ++ [(k : Int), (b : Int)]) (swapP A.length)) (Vw.pickL (strd (A ++ [(k : Int), (b : Int)])) (swapP A.length)) := Vw.mayB_iff.1 (by unfold Vw.rdOk at h; exact (Bool.and_eq_true_iff.1 h).1)
  rw [Vw.plc_length _ _ _ hm.len hm.fine.pos, pick_swap hA, prod_append]
  have F := fine_of hc
  have h1 : 1 ≤ prod A := prod_pos _ (fun z hz => F.pos z (by simp [hz]))
  have h2 : prod [(b : Int), (k : Int)] = ((b * k : Nat) : Int) := by simp [prod]
  obtain ⟨N, hN⟩ : ∃ N : Nat, prod A = N := ⟨(prod A).toNat, by omega⟩
  rw [h2, hN, ← Int.natCast_mul, Int.toNat_natCast, Int.toNat_natCast]
end Go.Proofs.YtfladhogkhhlcaaGreatDoor

/- linear.made at MatMul, by the walk. -/
namespace Go.Proofs.YtfladhogkhhlcaaGreatDoor
open Go.RowKit

set_option maxRecDepth 100000 in
set_option maxHeartbeats 8000000 in
theorem made_mat (n : Nod) (hop : n.op = ⟨#[77, 97, 116, 77, 117, 108]⟩) (u : Sl) (T0 T1 : Ten) (x y xs ys : List Int) (A : List Int) (a k b : Nat) (nam0 : ByteArray) (vty : Int) (dv : Sl) (l : List Int) (w : World) (hs : ShpM x y A a k b) (hl : l = A ++ [(a : Int), (b : Int)]) (hv : TensIn w u.v [(T0, (x, xs)), (T1, (y, ys))]) (hd : IsInts w dv.v l) (hxl : (xs.length : Int) = prod x) (hyl : (ys.length : Int) = prod y) :
    Calls Tryz.prog 16 #[nval n, .slice u.a u.n u.c, .agg #[.string nam0, .int .i64 vty, .slice dv.a dv.n dv.c]] w (EvQ w (.ok (mmL x xs y ys))) := by
  subst hl
  have hcy := hs.cy
  rw [hs.ey] at hcy hyl
  have hcx := hs.cx
  rw [hs.ex] at hcx hxl
  have eyt : Vw.rdL 0 (Vw.pickL (A ++ [(k : Int), (b : Int)]) (swapP A.length)) (Vw.pickL (strd (A ++ [(k : Int), (b : Int)])) (swapP A.length)) ys = ytL y ys := by
    rw [hs.ey]
    unfold ytL
    rw [show (A ++ [(k : Int), (b : Int)]).length - 2 = A.length from by simp]
  have hyt2 := yt_len hs.few hcy hyl
  rw [← hs.ey] at hyt2
  have hxl2 : xs.length = (prod A).toNat * (a * k) := by
    have F := fine_of hcx
    have h1 : 1 ≤ prod A := prod_pos _ (fun z hz => F.pos z (by simp [hz]))
    obtain ⟨N, hN⟩ : ∃ N : Nat, prod A = N := ⟨(prod A).toNat, by omega⟩
    rw [prod_append, hN, show prod [(a : Int), (k : Int)] = ((a * k : Nat) : Int) from by simp [prod], ← Int.natCast_mul] at hxl
    rw [hN, Int.toNat_natCast]
    omega
  obtain ⟨xa, xc, e1, p1, p2, p3⟩ := hv.vals.form
  obtain ⟨ua, un, uc⟩ := u
  simp only [Sl.v, List.map_cons, List.map_nil, List.length_cons, List.length_nil, Value.slice.injEq] at e1
  obtain ⟨rfl, rfl, rfl⟩ := e1
  obtain ⟨ub, uo, rfl⟩ := hv.vals.addr (k := 0) (by simp)
  obtain ⟨t0, t1, t2⟩ := hv.at 0 (by simp)
  obtain ⟨s0, s1, s2⟩ := hv.at 1 (by simp)
  have HH0 := hide (hv.has (T0, (x, xs)) (by simp))
  have HH1 := hide (hv.has (T1, (y, ys)) (by simp))
  obtain ⟨tx, ⟨xda, xdn, xdc⟩, ⟨xta, xtn, xtc⟩⟩ := T0
  obtain ⟨ty, ⟨yda, ydn, ydc⟩, ⟨yta, ytn, ytc⟩⟩ := T1
  obtain ⟨za, zn, zc⟩ := dv
  simp only [List.getElem_cons_zero, List.getElem_cons_succ, Nat.zero_mul, Nat.add_zero, Nat.one_mul] at t0 t1 t2 s0 s1 s2 HH0 HH1
  have EM := hide (hs.mm xs ys)
  have MM : Hid (∀ wx, w.grownBy wx none → Calls Tryz.prog 20 #[.agg #[.int .i64 tx, .slice xda xdn xdc, .slice xta xtn xtc], .agg #[.int .i64 ty, .slice yda ydn ydc, .slice yta ytn ytc], .slice za zn zc] wx fun e w' => ∃ u : Sl, e = .returned u.v ∧ OwnsE w' wx.heap.size u.v (mmL x xs y ys) ∧ wx.grownBy w' none) := fun wx hx => by
    have h0 := HH0.out
    have h1 := HH1.out
    have h := matmul_any ⟨tx, ⟨xda, xdn, xdc⟩, ⟨xta, xtn, xtc⟩⟩ ⟨ty, ⟨yda, ydn, ydc⟩, ⟨yta, ytn, ytc⟩⟩ A A.length a k b xs ys (ytL y ys) ⟨za, zn, zc⟩ wx rfl hcx hcy hs.cz (by rw [← hs.ex]; exact h0.1.more hx) (by rw [← hs.ey]; exact h1.1.more hx) (hd.more hx) (h0.2.more hx) (h1.2.more hx) eyt (pick_swap hs.few _ _) hxl2 hyt2
    rw [← EM.out] at h
    exact h
  obtain ⟨op, nam, ⟨ia, il, ic⟩, out, ⟨ao, al, cap⟩⟩ := n
  simp only at hop
  subst hop
  unfold nval
  simp only
  obtain ⟨w0, hw0⟩ : ∃ w0, w0 = (w.alloc (.cells #[.string ⟨#[77, 97, 116, 77, 117, 108]⟩, .string nam, .slice ia il ic, .string out, .slice ao al cap] 36)).alloc (.cells #[.string nam0, .int .i64 vty, .slice za zn zc] 48) := ⟨_, rfl⟩
  have g0 : w.grownBy w0 none := by rw [hw0]; exact grown_trans (grown_new _ _) (grown_new _ _)
  have hbx := two_boxes w (.cells #[.string ⟨#[77, 97, 116, 77, 117, 108]⟩, .string nam, .slice ia il ic, .string out, .slice ao al cap] 36) (.cells #[.string nam0, .int .i64 vty, .slice za zn zc] 48)
  rw [← hw0] at hbx
  obtain ⟨n0, -, -, -, -⟩ := nod_cells (n := ⟨⟨#[77, 97, 116, 77, 117, 108]⟩, nam, ⟨ia, il, ic⟩, out, ⟨ao, al, cap⟩⟩) hbx.1
  obtain ⟨v0, v1, v2⟩ := ten_cells hbx.2
  have v2' : Hid (∀ wx, w0.grownBy wx none → wx.cell? ⟨w.heap.size + 1, 2, none⟩ = some (.slice za zn zc)) := fun wx hx => cell_still v2 hx
  have TT : Hid (∀ wx, w.grownBy wx none → wx.cell? ⟨ub, uo, none⟩ = some (.int .i64 tx) ∧ wx.cell? ⟨ub, uo + 1, none⟩ = some (.slice xda xdn xdc) ∧ wx.cell? ⟨ub, uo + 2, none⟩ = some (.slice xta xtn xtc) ∧ wx.cell? ⟨ub, uo + 3, none⟩ = some (.int .i64 ty) ∧ wx.cell? ⟨ub, uo + 3 + 1, none⟩ = some (.slice yda ydn ydc) ∧ wx.cell? ⟨ub, uo + 3 + 2, none⟩ = some (.slice yta ytn ytc)) := fun wx hx => ⟨cell_still t0 hx, cell_still t1 hx, cell_still t2 hx, cell_still s0 hx, cell_still s1 hx, cell_still s2 hx⟩
  obtain ⟨t0, t1, t2, s0, s1, s2⟩ := TT.out w0 g0
  have G0 := hide g0
  have i0' : (0 : Int) < 2 := by decide
  have i1' : (1 : Int) < 2 := by decide
  clear hbx hv hd hs hcx hcy hxl hyl eyt hyt2 hxl2 v0 v1 g0
  go_enter Tryz.func16, Tryz.ntmps16
  rw [hw0] at n0 t0 t1 t2 s0 s1 s2 v2
  go_wp2_with fail
  rw [← hw0]
  rw [← hw0] at n0 t0 t1 t2 s0 s1 s2 v2
  clear hw0 n0
  go_region_held3 (fun w' => w'.cell? ⟨ub, uo, none⟩ = some (.int .i64 tx) ∧ w'.cell? ⟨ub, uo + 1, none⟩ = some (.slice xda xdn xdc) ∧ w'.cell? ⟨ub, uo + 2, none⟩ = some (.slice xta xtn xtc) ∧ w'.cell? ⟨ub, uo + 3, none⟩ = some (.int .i64 ty) ∧ w'.cell? ⟨ub, uo + 3 + 1, none⟩ = some (.slice yda ydn ydc) ∧ w'.cell? ⟨ub, uo + 3 + 2, none⟩ = some (.slice yta ytn ytc) ∧ w'.cell? ⟨w.heap.size + 1, 2, none⟩ = some (.slice za zn zc)) (go_keep) (first | (go_at_call 20; refine (MM.out _ (grown_drew G0.out)).mono ?_; rintro e w3 ⟨⟨qa, qn, qc⟩, rfl, ho3, hg3⟩; have g3 : w0.grownBy w3 none := grown_trans (grown_drew (grown_refl _)) hg3; obtain ⟨t0, t1, t2, s0, s1, s2⟩ := TT.out w3 (grown_trans G0.out g3); have v2 := v2'.out w3 g3) | fail)
  have HO : Hid (OwnsE w3 w.heap.size (.slice qa qn qc) (mmL x xs y ys)) := ⟨ownsRow_base ho3.1 G0.out.size, ho3.2⟩
  have HG := hide (grown_trans G0.out g3)
  clear ho3 hg3 g3 t0 t1 t2 s0 s1 s2 v2
  go_wp2
  go_ret2
  exact ev_ok rfl HG.out ⟨⟨qa, qn, qc⟩, rfl, HO.out⟩
end Go.Proofs.YtfladhogkhhlcaaGreatDoor

/- infer.Out and linear.Do at MatMul. -/
namespace Go.Proofs.YtfladhogkhhlcaaGreatDoor
open Go.RowKit

theorem ended_monoE {α : Type} {w w' : World} {r : R α} {Q Q' : α → Value → World → Prop} {e : Ending} (h : Ended w r Q e w') (hq : ∀ a v, r = .ok a → Q a v w' → Q' a v w') : Ended w r Q' e w' := by
  cases r with
  | error c => exact h
  | ok a =>
    obtain ⟨hg, v, he, hv⟩ := h
    exact ⟨hg, v, he, hq a v rfl hv⟩

theorem bare_in (w : World) (op out : ByteArray) (iv : Sl) (ins : List ByteArray) (hi : IsStrs w iv.v ins) : NodeIn w ⟨op, ⟨#[]⟩, iv, out, nilS⟩ ins [] [] :=
  ⟨hi, OwnsL.isL (te := 41) (base := 0) acells_len (OwnsL.nil ..) (by simp), (fun j a h => by simp at h), by simp, (fun a h => by cases h)⟩

theorem bare_ok (w : World) (op out : ByteArray) (iv : Sl) : NodeOk w ⟨op, ⟨#[]⟩, iv, out, nilS⟩ ⟨op, [], []⟩ :=
  ⟨rfl, OwnsL.isL (te := 41) (base := 0) acells_len (OwnsL.nil ..) (by simp), (fun j a h => by simp at h), (fun a h => by cases h)⟩

/-- What comes of two values, multiplied. -/
def outM (t0 t1 : Int) (x y : List Int) (d : R (List Int)) : R (Int × List Int) :=
  (typP t0).bind fun _ => (countP x).bind fun _ => (typP t1).bind fun _ => (countP y).bind fun _ => (sameP [t0, t1]).bind fun t => (mustP (t == 1)).bind fun _ => d.bind fun d => (countP d).bind fun _ => .ok (1, d)

theorem bind_assocE {α β γ : Type} (r : R α) (f : α → R β) (g : β → R γ) : (r.bind f).bind g = r.bind fun a => (f a).bind g := by cases r <;> rfl

theorem valueM (v0 v1 : Val) (x y : List Int) (d : R (List Int)) : valueP 0 true [(v0, x), (v1, y)] ((sameP (tysOf [(v0, x), (v1, y)])).bind (fun t => (mustP (t == 1)).bind (fun _ => .ok (1 : Int)))) d [] = outM v0.ty v1.ty x y d := by
  unfold valueP outM
  simp only [stopP, mustP, if_true, vinP, tysOf, List.map_cons, List.map_nil, thenP, bind_assocE]
  rfl

theorem isType_of {t : Int} (h : typP t = .ok ()) : isTypeP t = true := by
  unfold typP at h
  by_cases hb : isTypeP t = true
  · exact hb
  · rw [if_neg hb] at h
    cases h

theorem bind_ok {α β : Type} {r : R α} {f : α → R β} {b : β} (h : r.bind f = .ok b) : ∃ a, r = .ok a ∧ f a = .ok b := by
  cases r with
  | error c => cases h
  | ok a => exact ⟨a, rfl, h⟩

theorem count_ok {x : List Int} {n : Int} (h : countP x = .ok n) : cntE x = 0 := by
  unfold countP at h
  split at h
  · assumption
  · cases h

theorem vin2 {v0 v1 : Val} {x y : List Int} (h : vinP [(v0, x), (v1, y)] = .ok ()) : (∀ s ∈ tysOf [(v0, x), (v1, y)], isTypeP s = true) ∧ cntE x = 0 ∧ cntE y = 0 := by
  simp only [vinP] at h
  obtain ⟨_, h1, h⟩ := bind_ok h
  obtain ⟨_, h2, h⟩ := bind_ok h
  obtain ⟨_, h3, h⟩ := bind_ok h
  obtain ⟨_, h4, h⟩ := bind_ok h
  refine ⟨fun s hs => ?_, count_ok h2, count_ok h4⟩
  simp only [tysOf, List.map_cons, List.map_nil, List.mem_cons, List.not_mem_nil, or_false] at hs
  rcases hs with rfl | rfl
  · exact isType_of h1
  · exact isType_of h3

theorem mout (out : ByteArray) (iv : Sl) (i1 i2 : ByteArray) (hck : checkF (ruleF ⟨#[77, 97, 116, 77, 117, 108]⟩) ⟨#[77, 97, 116, 77, 117, 108]⟩ [i1, i2] out [] [] = 0) (ho : out.size ≤ 1048576) (u : Sl) (v0 v1 : Val) (x y : List Int) (w : World) (hl : Laid w) (hi : IsStrs w iv.v [i1, i2]) (hv : ValsIn w u.v [(v0, x), (v1, y)]) :
    Calls Tryz.prog 36 #[nval ⟨⟨#[77, 97, 116, 77, 117, 108]⟩, ⟨#[]⟩, iv, out, nilS⟩, .slice u.a u.n u.c] w (AttQ out w (outM v0.ty v1.ty x y (productP x y))) := by
  refine out_any ⟨⟨#[77, 97, 116, 77, 117, 108]⟩, ⟨#[]⟩, iv, out, nilS⟩ u _ w fun wx hx => ?_
  have key := valueof_any ⟨⟨#[77, 97, 116, 77, 117, 108]⟩, ⟨#[]⟩, iv, out, nilS⟩ ⟨⟨#[77, 97, 116, 77, 117, 108]⟩, [], []⟩ [i1, i2] u [(v0, x), (v1, y)] wx (hl.more hx) (bare_in wx ⟨#[77, 97, 116, 77, 117, 108]⟩ out iv _ (hi.more hx)) (hv.more hx) (by show out.size ≤ _; omega) _ _ (fun hc hll hin wy hy => ((type_float ⟨⟨#[77, 97, 116, 77, 117, 108]⟩, ⟨#[]⟩, iv, out, nilS⟩ ⟨⟨#[77, 97, 116, 77, 117, 108]⟩, [], []⟩ u [(v0, x), (v1, y)] wy (by simp) (bare_ok wy ⟨#[77, 97, 116, 77, 117, 108]⟩ out iv) (hv.more (grown_trans hx hy)) (by simp) (by simp) (vin2 hin).1).mono fun e w' he => ended_monoE he fun t v e1 e2 => ⟨e2, by
    obtain ⟨_, -, e1⟩ := bind_ok e1
    obtain ⟨_, -, e1⟩ := bind_ok e1
    cases e1
    rfl⟩)) (fun hc hll hin wy hy => dims_product ⟨⟨#[77, 97, 116, 77, 117, 108]⟩, ⟨#[]⟩, iv, out, nilS⟩ ⟨⟨#[77, 97, 116, 77, 117, 108]⟩, [], []⟩ u v0 v1 x y wy (by simp) (bare_ok wy ⟨#[77, 97, 116, 77, 117, 108]⟩ out iv) (hv.more (grown_trans hx hy)) (fine_of (vin2 hin).2.1) (fine_of (vin2 hin).2.2))
  rw [show checkF (ruleF (Nod.op ⟨⟨#[77, 97, 116, 77, 117, 108]⟩, ⟨#[]⟩, iv, out, nilS⟩)) (Nod.op ⟨⟨#[77, 97, 116, 77, 117, 108]⟩, ⟨#[]⟩, iv, out, nilS⟩) [i1, i2] (Nod.out ⟨⟨#[77, 97, 116, 77, 117, 108]⟩, ⟨#[]⟩, iv, out, nilS⟩) (At.xs ⟨⟨#[77, 97, 116, 77, 117, 108]⟩, [], []⟩) (At.cs ⟨⟨#[77, 97, 116, 77, 117, 108]⟩, [], []⟩) = 0 from hck] at key
  have e := valueM v0 v1 x y (productP x y)
  refine key.mono fun e' w' he => ?_
  rw [← e]
  exact ended_monoE he fun r v _ e2 => e2
end Go.Proofs.YtfladhogkhhlcaaGreatDoor

/- linear.Do at MatMul: what it answers. -/
namespace Go.Proofs.YtfladhogkhhlcaaGreatDoor
open Go.RowKit

/-- An error that is one. -/
def Nz {α : Type} (r : R α) : Prop := ∀ c, r = .error c → c ≠ 0

theorem Nz.bind {α β : Type} {r : R α} {f : α → R β} (h : Nz r) (k : ∀ a, r = .ok a → Nz (f a)) : Nz (r.bind f) := by
  cases r with
  | error c => intro d hd; exact h d (by cases hd; rfl)
  | ok a => exact k a rfl

theorem nz_ok {α : Type} (a : α) : Nz (Except.ok a : R α) := fun c h => by cases h
theorem nz_typ (t : Int) : Nz (typP t) := by
  intro c h
  unfold typP at h
  split at h
  · cases h
  · cases h; omega
theorem nz_must (b : Bool) : Nz (mustP b) := by
  intro c h
  unfold mustP at h
  split at h
  · cases h
  · cases h; omega
theorem nz_count (x : List Int) : Nz (countP x) := by
  intro c h
  unfold countP at h
  split at h
  · cases h
  · rename_i h1; cases h; exact h1
theorem nz_spread (x y : List Int) : Nz (spreadP x y) := by
  intro c h
  unfold spreadP at h
  split at h
  · cases h
  · rename_i h1; cases h; exact h1
theorem nz_same (t0 t1 : Int) : Nz (sameP [t0, t1]) := by
  intro c h
  simp only [sameP] at h
  split at h
  · cases h
  · cases h; omega

theorem nz_product (x y : List Int) : Nz (productP x y) := by
  unfold productP
  exact (nz_must _).bind fun _ _ => (nz_must _).bind fun _ _ => (nz_spread _ _).bind fun _ _ => nz_ok _

theorem nz_outM (t0 t1 : Int) (x y : List Int) (d : R (List Int)) (hd : Nz d) : Nz (outM t0 t1 x y d) :=
  (nz_typ _).bind fun _ _ => (nz_count _).bind fun _ _ => (nz_typ _).bind fun _ _ => (nz_count _).bind fun _ _ => (nz_same _ _).bind fun _ _ => (nz_must _).bind fun _ _ => hd.bind fun _ _ => (nz_count _).bind fun _ _ => nz_ok _

theorem nz_node {ps : List (Ten × Tq)} {r : R (Int × List Int)} (h : Nz r) : Nz (nodeP ps r) := by
  unfold nodeP
  split
  · exact h
  · intro c hc; cases hc; omega

theorem node_inv {ps : List (Ten × Tq)} {r : R (Int × List Int)} {a : Int × List Int} (h : nodeP ps r = .ok a) : ps.all okT = true ∧ r = .ok a := by
  unfold nodeP at h
  split at h
  · rename_i h1; exact ⟨h1, h⟩
  · cases h

theorem must_ok {b : Bool} {a : Unit} (h : mustP b = .ok a) : b = true := by
  unfold mustP at h
  split at h
  · assumption
  · cases h

theorem pb_inv {ty : Int} {x xs : List Int} (h : pbE ty x xs = 0) : cntE x = 0 ∧ (xs.length : Int) = prod x := by
  unfold pbE at h
  split at h
  · omega
  · split at h
    · rename_i h1; exact absurd h h1
    · rename_i h1
      have h1' : cntE x = 0 := by omega
      split at h
      · omega
      · rename_i h2
        refine ⟨h1', ?_⟩
        have : (xs.length : Int) = cnt x := by omega
        rw [this, cnt, if_pos h1']

/-- Two shapes that the statements ask of: as many matrices on both sides. -/
def Twin (x y : List Int) : Prop := ∃ A p0 q0 p1 q1, A.length ≤ 1 ∧ x = A ++ [p0, q0] ∧ y = A ++ [p1, q1]

theorem fine_front {A B : List Int} (h : cntE (A ++ B) = 0) : cntE A = 0 := by
  have F := fine_of h
  refine cntE_ok (fun z hz => F.pos z (by simp [hz])) (by have := F.few; rw [List.length_append] at this; omega) ?_
  have h1 := F.le
  rw [prod_append] at h1
  have h2 : 1 ≤ prod B := prod_pos _ (fun z hz => F.pos z (by simp [hz]))
  have h3 : 1 ≤ prod A := prod_pos _ (fun z hz => F.pos z (by simp [hz]))
  have := le_mul_right h2 (show (0 : Int) ≤ prod A by omega)
  omega

theorem prod_twin (A : List Int) (p0 q0 p1 q1 : Int) (hA : cntE A = 0) : productP (A ++ [p0, q0]) (A ++ [p1, q1]) = if q0 = p1 then .ok (A ++ [p0, q1]) else .error 4 := by
  unfold productP
  have l0 : ∀ p q : Int, (A ++ [p, q]).length = A.length + 2 := fun p q => by simp
  have eg : ∀ p q : Int, (A ++ [p, q]).getD A.length 0 = p ∧ (A ++ [p, q]).getD (A.length + 1) 0 = q := fun p q => by simp [List.getD]
  obtain ⟨b1, b2⟩ := bc_self hA
  rw [l0, l0, show A.length + 2 - 1 = A.length + 1 from rfl, show A.length + 2 - 2 = A.length from rfl, (eg p0 q0).1, (eg p0 q0).2, (eg p1 q1).1, (eg p1 q1).2, List.take_left' rfl, List.take_left' rfl, show spreadP A A = .ok A from by unfold spreadP; rw [if_pos b1, b2]]
  simp only [mustP, show decide (2 ≤ A.length + 2 ∧ 2 ≤ A.length + 2) = true from by simp, if_true]
  by_cases h : q0 = p1
  · rw [if_pos (by simp [h]), if_pos h]
    rfl
  · rw [if_neg (by simp [h]), if_neg h]
    rfl

theorem outM_inv {t0 t1 ty : Int} {x y l : List Int} {d : R (List Int)} (h : outM t0 t1 x y d = .ok (ty, l)) : ty = 1 ∧ t0 = 1 ∧ t1 = 1 ∧ cntE x = 0 ∧ cntE y = 0 ∧ d = .ok l ∧ cntE l = 0 := by
  unfold outM at h
  obtain ⟨_, -, h⟩ := bind_ok h
  obtain ⟨_, hx, h⟩ := bind_ok h
  obtain ⟨_, -, h⟩ := bind_ok h
  obtain ⟨_, hy, h⟩ := bind_ok h
  obtain ⟨t, hs, h⟩ := bind_ok h
  obtain ⟨_, hm, h⟩ := bind_ok h
  obtain ⟨d', hd, h⟩ := bind_ok h
  obtain ⟨_, hc, h⟩ := bind_ok h
  cases h
  have e := must_ok hm
  simp only [beq_iff_eq] at e
  subst e
  simp only [sameP, List.all_cons, List.all_nil, Bool.and_true, beq_iff_eq] at hs
  split at hs
  · rename_i h1
    cases hs
    exact ⟨rfl, rfl, h1, count_ok hx, count_ok hy, hd, count_ok hc⟩
  · cases hs

/-- What holds of the shapes once the answer is one. -/
theorem twin_shp {x y l : List Int} (ht : Twin x y) (hx : cntE x = 0) (hy : cntE y = 0) (hp : productP x y = .ok l) (hl : cntE l = 0) : ∃ A a k b, ShpM x y A a k b ∧ l = A ++ [(a : Int), (b : Int)] := by
  obtain ⟨A, p0, q0, p1, q1, hA, rfl, rfl⟩ := ht
  rw [prod_twin _ _ _ _ _ (fine_front hx)] at hp
  have FX := fine_of hx
  have FY := fine_of hy
  have h1 := FX.pos p0 (by simp)
  have h2 := FX.pos q0 (by simp)
  have h3 := FY.pos q1 (by simp)
  split at hp
  · rename_i he
    subst he
    cases hp
    obtain ⟨a, rfl⟩ : ∃ a : Nat, p0 = a := ⟨p0.toNat, by omega⟩
    obtain ⟨k, rfl⟩ : ∃ k : Nat, q0 = k := ⟨q0.toNat, by omega⟩
    obtain ⟨b, rfl⟩ : ∃ b : Nat, q1 = b := ⟨q1.toNat, by omega⟩
    exact ⟨A, a, k, b, ⟨rfl, rfl, hA, hx, hy, hl⟩, rfl⟩
  · cases hp

def tq (t : Int) (x xs : List Int) : Ten × Tq := (⟨t, nilS, nilS⟩, (x, xs))

/-- What Do answers of MatMul. -/
def mmR (t0 t1 : Int) (x y xs ys : List Int) : R (Int × List Int × List Int) :=
  doR (nodeP [tq t0 x xs, tq t1 y ys] (outM t0 t1 x y (productP x y))) fun _ => .ok (mmL x xs y ys)

theorem two_valsL {vs : List (Val × List Int)} {t0 t1 : Int} {x y : List Int} (h1 : vs.map (·.1.ty) = [t0, t1]) (h2 : vs.map (·.2) = [x, y]) : ∃ v0 v1, vs = [(v0, x), (v1, y)] ∧ v0.ty = t0 ∧ v1.ty = t1 := by
  match vs, h1, h2 with
  | [(v0, a), (v1, b)], h1, h2 =>
    simp only [List.map_cons, List.map_nil, List.cons.injEq, and_true] at h1 h2
    obtain ⟨e1, e2⟩ := h1
    obtain ⟨rfl, rfl⟩ := h2
    exact ⟨v0, v1, rfl, e1, e2⟩

theorem matmul_do (out : ByteArray) (iv : Sl) (i1 i2 : ByteArray) (hck : checkF (ruleF ⟨#[77, 97, 116, 77, 117, 108]⟩) ⟨#[77, 97, 116, 77, 117, 108]⟩ [i1, i2] out [] [] = 0) (ho : out.size ≤ 1048576) (u : Sl) (T0 T1 : Ten) (x y xs ys : List Int) (w : World) (ht : Twin x y) (hl : Laid w) (hi : IsStrs w iv.v [i1, i2]) (hv : TensIn w u.v [(T0, (x, xs)), (T1, (y, ys))]) :
    Calls Tryz.prog 11 #[nval ⟨⟨#[77, 97, 116, 77, 117, 108]⟩, ⟨#[]⟩, iv, out, nilS⟩, .slice u.a u.n u.c] w (DoQ w (mmR T0.ty T1.ty x y xs ys)) := by
  refine ldo_any _ u _ w fun wx hx => lbdo_any _ u _ _ wx (nz_node (nz_outM _ _ _ _ _ (nz_product _ _))) (fun l => nz_ok _) (fun wy hy => ?_) (fun wy ty dv l hy hr hd => ?_)
  · refine bnode_any ⟨⟨#[77, 97, 116, 77, 117, 108]⟩, ⟨#[]⟩, iv, out, nilS⟩ u [(T0, (x, xs)), (T1, (y, ys))] _ wy (hv.more (grown_trans hx hy)) (by simp) fun wz s vs hz hvs h1 h2 => ?_
    obtain ⟨v0, v1, rfl, e0, e1⟩ := two_valsL h1 h2
    have key := mout out iv i1 i2 hck ho s v0 v1 x y wz (hl.more (grown_trans (grown_trans hx hy) hz)) (hi.more (grown_trans (grown_trans hx hy) hz)) hvs
    rw [e0, e1] at key
    exact key
  · have hvy := hv.more (grown_trans hx hy)
    obtain ⟨hall, hr⟩ := node_inv hr
    obtain ⟨-, -, -, c1, c2, hp, c3⟩ := outM_inv hr
    obtain ⟨A, a, k, b, hs, hle⟩ := twin_shp ht c1 c2 hp c3
    simp only [okT, List.all_cons, List.all_nil, Bool.and_true, Bool.and_eq_true, beq_iff_eq] at hall
    exact made_mat ⟨⟨#[77, 97, 116, 77, 117, 108]⟩, ⟨#[]⟩, iv, out, nilS⟩ rfl u T0 T1 x y xs ys A a k b _ ty dv l wy hs hle hvy hd (pb_inv hall.1).2 (pb_inv hall.2).2
end Go.Proofs.YtfladhogkhhlcaaGreatDoor
