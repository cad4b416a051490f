/- linear.Do at Gemm with two inputs that turns both. -/
import Derived.Test.YtfladhogkhhlcaaGreatDoorLnGemFJ
import Derived.Test.YtfladhogkhhlcaaGreatDoorPartY
import Derived.Test.YtfladhogkhhlcaaGreatDoorPartX
import Derived.Test.YtfladhogkhhlcaaGreatDoorMvTrDoJ
namespace Go.Proofs.YtfladhogkhhlcaaGreatDoor
open Go.RowKit

/-- The two flags, as attributes. -/
def flA : Atr := ⟨⟨#[116, 114, 97, 110, 115, 65]⟩, 2, 0, 1, ⟨#[]⟩, 0, nilS, nilS, nilS⟩
def flB : Atr := ⟨⟨#[116, 114, 97, 110, 115, 66]⟩, 2, 0, 1, ⟨#[]⟩, 0, nilS, nilS, nilS⟩
def flags : At := ⟨⟨#[71, 101, 109, 109]⟩, [flA, flB], [⟨[], [], []⟩, ⟨[], [], []⟩]⟩

theorem flag_attrs {w : World} {B : Nat} (h : w.heap[B]? = some (.cells #[.string ⟨#[116, 114, 97, 110, 115, 65]⟩, .int .i64 2, .int .i64 0, .int .i64 1, .string ⟨#[]⟩, .int .i64 0, .slice none 0 0, .slice none 0 0, .slice none 0 0, .string ⟨#[116, 114, 97, 110, 115, 66]⟩, .int .i64 2, .int .i64 0, .int .i64 1, .string ⟨#[]⟩, .int .i64 0, .slice none 0 0, .slice none 0 0, .slice none 0 0] 41 (0, 0))) : IsAttrs w (.slice (some ⟨B, 0, none⟩) 2 2) [flA, flB] :=
  lit_isLG (te := 41) (bytes := 136) (xs := [flA, flB]) acells_len h rfl rfl (Nat.le_of_ble_eq_true rfl) (Nat.le_of_ble_eq_true rfl)

theorem flag_has (w : World) : ∀ (j : Nat) (a : Atr), flags.xs[j]? = some a → ∃ c, flags.cs[j]? = some c ∧ Has w a c
  | 0, a, h => by
    cases h
    exact ⟨_, rfl, ⟨ints_nil w, ints_nil w, ints_nil w⟩⟩
  | 1, a, h => by
    cases h
    exact ⟨_, rfl, ⟨ints_nil w, ints_nil w, ints_nil w⟩⟩
  | _ + 2, a, h => by simp [flags] at h

theorem flag_ok {w : World} {out : ByteArray} {iv : Sl} {B : Nat} (h : IsAttrs w (.slice (some ⟨B, 0, none⟩) 2 2) [flA, flB]) : NodeOk w ⟨⟨#[71, 101, 109, 109]⟩, ⟨#[]⟩, iv, out, ⟨some ⟨B, 0, none⟩, 2, 2⟩⟩ flags :=
  ⟨rfl, h, flag_has w, fun a ha => by
    simp only [flags, List.mem_cons, List.not_mem_nil, or_false] at ha
    rcases ha with rfl | rfl <;> decide⟩

theorem flag_in {w : World} {out : ByteArray} {iv : Sl} {B : Nat} {ins : List ByteArray} (hi : IsStrs w iv.v ins) (h : IsAttrs w (.slice (some ⟨B, 0, none⟩) 2 2) [flA, flB]) : NodeIn w ⟨⟨#[71, 101, 109, 109]⟩, ⟨#[]⟩, iv, out, ⟨some ⟨B, 0, none⟩, 2, 2⟩⟩ ins flags.xs flags.cs :=
  ⟨hi, h, flag_has w, by decide, fun a ha => by
    simp only [flags, List.mem_cons, List.not_mem_nil, or_false] at ha
    rcases ha with rfl | rfl <;> decide⟩

theorem gemmP_flags (p q r s : Int) : gemmP flags [p, q] [r, s] none = productP [q, p] [s, r] := by
  have e1 : At.int flags ⟨#[116, 114, 97, 110, 115, 65]⟩ 0 = 1 := by kernel_rfl
  have e2 : At.int flags ⟨#[116, 114, 97, 110, 115, 66]⟩ 0 = 1 := by kernel_rfl
  have tx : turnedP [p, q] 1 = .ok [q, p] := rfl
  have ty : turnedP [r, s] 1 = .ok [s, r] := rfl
  unfold gemmP
  rw [e1, e2, tx, ty]
  show (productP [q, p] [s, r]).bind (fun dims => (.ok dims : R (List Int))) = productP [q, p] [s, r]
  cases productP [q, p] [s, r] <;> rfl

set_option maxRecDepth 100000 in
set_option maxHeartbeats 8000000 in
theorem made_gemf (n : Nod) (hop : n.op = ⟨#[71, 101, 109, 109]⟩) (u : Sl) (T0 T1 : Ten) (x y xs ys : List Int) (a k b : Nat) (nam0 : ByteArray) (vty : Int) (dv : Sl) (w : World) (hno : NodeOk w n flags) (ex : x = [(k : Int), (a : Int)]) (ey : y = [(b : Int), (k : Int)]) (cx : cntE x = 0) (cy : cntE y = 0) (cz : cntE [(a : Int), (b : Int)] = 0) (hv : TensIn w u.v [(T0, (x, xs)), (T1, (y, ys))]) (hxl : (xs.length : Int) = prod x) (hyl : (ys.length : Int) = prod y) :
    Calls Tryz.prog 16 #[nval n, .slice u.a u.n u.c, .agg #[.string nam0, .int .i64 vty, .slice dv.a dv.n dv.c]] w (EvQ w (.ok (tms (blk (ytL x xs) 0 a k) (blk ys 0 b k)))) := by
  have GM := hide (fun (wx : World) (hx : w.grownBy wx none) => gemm_flag n flags hop wx (hno.more hx) (by kernel_rfl) (by kernel_rfl) (by kernel_rfl) (by kernel_rfl) u T0 T1 x y xs ys a k b dv ex ey cx cy cz (hv.more hx) hxl hyl)
  obtain ⟨op, nam, ⟨ia, il, ic⟩, out, ⟨ao, al, cap⟩⟩ := n
  obtain ⟨ua, un, uc⟩ := u
  obtain ⟨za, zn, zc⟩ := dv
  simp only at hop
  subst hop
  unfold nval at GM ⊢
  simp only at GM ⊢
  obtain ⟨w0, hw0⟩ : ∃ w0, w0 = (w.alloc (.cells #[.string ⟨#[71, 101, 109, 109]⟩, .string nam, .slice ia il ic, .string out, .slice ao al cap] 36)).alloc (.cells #[.string nam0, .int .i64 vty, .slice za zn zc] 48) := ⟨_, rfl⟩
  have g0 : w.grownBy w0 none := by rw [hw0]; exact grown_trans (grown_new _ _) (grown_new _ _)
  have hbx := two_boxes w (.cells #[.string ⟨#[71, 101, 109, 109]⟩, .string nam, .slice ia il ic, .string out, .slice ao al cap] 36) (.cells #[.string nam0, .int .i64 vty, .slice za zn zc] 48)
  rw [← hw0] at hbx
  obtain ⟨n0, n1, n2, n3, n4⟩ := nod_cells (n := ⟨⟨#[71, 101, 109, 109]⟩, nam, ⟨ia, il, ic⟩, out, ⟨ao, al, cap⟩⟩) hbx.1
  obtain ⟨v0, v1, v2⟩ := ten_cells hbx.2
  have G0 := hide g0
  have G1 := hide (GM.out w0 g0)
  rw [hw0] at n0 n1 n2 n3 n4 v0 v1 v2
  clear hno ex ey cx cy cz hv hxl hyl hbx GM g0
  go_enter Tryz.func16, Tryz.ntmps16
  go_wp2_with fail
  rw [← hw0]
  clear hw0 n0 n1 n2 n3 n4 v0 v1 v2
  refine G1.out.mono ?_
  rintro e w3 ⟨⟨qa, qn, qc⟩, rfl, ho3, hg3⟩
  have HO : Hid (OwnsE w3 w.heap.size (.slice qa qn qc) (tms (blk (ytL x xs) 0 a k) (blk ys 0 b k))) := ⟨ownsRow_base ho3.1 G0.out.size, ho3.2⟩
  have HG := hide (grown_trans G0.out hg3)
  clear ho3 hg3
  go_wp2
  go_ret2
  exact ev_ok rfl HG.out ⟨⟨qa, qn, qc⟩, rfl, HO.out⟩

theorem gfout (out : ByteArray) (iv : Sl) (B : Nat) (i1 i2 : ByteArray) (hck : checkF (ruleF ⟨#[71, 101, 109, 109]⟩) ⟨#[71, 101, 109, 109]⟩ [i1, i2] out flags.xs flags.cs = 0) (ho : out.size ≤ 1048576) (u : Sl) (v0 v1 : Val) (p q r s : Int) (w : World) (hl : Laid w) (hi : IsStrs w iv.v [i1, i2]) (ha : IsAttrs w (.slice (some ⟨B, 0, none⟩) 2 2) [flA, flB]) (hv : ValsIn w u.v [(v0, [p, q]), (v1, [r, s])]) :
    Calls Tryz.prog 36 #[nval ⟨⟨#[71, 101, 109, 109]⟩, ⟨#[]⟩, iv, out, ⟨some ⟨B, 0, none⟩, 2, 2⟩⟩, .slice u.a u.n u.c] w (AttQ out w (outM v0.ty v1.ty [p, q] [r, s] (productP [q, p] [s, r]))) := by
  refine out_any ⟨⟨#[71, 101, 109, 109]⟩, ⟨#[]⟩, iv, out, ⟨some ⟨B, 0, none⟩, 2, 2⟩⟩ u _ w fun wx hx => ?_
  have key := valueof_any ⟨⟨#[71, 101, 109, 109]⟩, ⟨#[]⟩, iv, out, ⟨some ⟨B, 0, none⟩, 2, 2⟩⟩ flags [i1, i2] u [(v0, [p, q]), (v1, [r, s])] wx (hl.more hx) (flag_in (hi.more hx) (ha.more hx)) (hv.more hx) (by show out.size ≤ _; omega) _ (productP [q, p] [s, r]) (fun hc hll hin wy hy => ((type_float ⟨⟨#[71, 101, 109, 109]⟩, ⟨#[]⟩, iv, out, ⟨some ⟨B, 0, none⟩, 2, 2⟩⟩ flags u [(v0, [p, q]), (v1, [r, s])] wy (by simp) (flag_ok (ha.more (grown_trans hx hy))) (hv.more (grown_trans hx hy)) (by simp) (by simp) (vin2 hin).1).mono fun e w' he => ended_monoE he fun t v e1 e2 => ⟨e2, by
    obtain ⟨_, -, e1⟩ := bind_ok e1
    obtain ⟨_, -, e1⟩ := bind_ok e1
    cases e1
    rfl⟩)) (fun hc hll hin wy hy => by
      have h := dims_Gemm ⟨⟨#[71, 101, 109, 109]⟩, ⟨#[]⟩, iv, out, ⟨some ⟨B, 0, none⟩, 2, 2⟩⟩ flags u (v0, [p, q]) (v1, [r, s]) [] wy rfl (flag_ok (ha.more (grown_trans hx hy))) (hv.more (grown_trans hx hy)) (by simp)
      rw [show (([] : List (Val × List Int)).head?.map (·.2)) = none from rfl, gemmP_flags] at h
      exact h)
  rw [show checkF (ruleF (Nod.op ⟨⟨#[71, 101, 109, 109]⟩, ⟨#[]⟩, iv, out, ⟨some ⟨B, 0, none⟩, 2, 2⟩⟩)) (Nod.op ⟨⟨#[71, 101, 109, 109]⟩, ⟨#[]⟩, iv, out, ⟨some ⟨B, 0, none⟩, 2, 2⟩⟩) [i1, i2] (Nod.out ⟨⟨#[71, 101, 109, 109]⟩, ⟨#[]⟩, iv, out, ⟨some ⟨B, 0, none⟩, 2, 2⟩⟩) flags.xs flags.cs = 0 from hck, show thenL (flags.xs.find? (isA ⟨#[116, 104, 101, 110]⟩ 3)) = [] from by kernel_rfl] at key
  have e := valueM v0 v1 [p, q] [r, s] (productP [q, p] [s, r])
  refine key.mono fun e' w' he => ?_
  rw [← e]
  exact ended_monoE he fun r v _ e2 => e2

/-- What Do answers of a Gemm that turns both. -/
def gfR (t0 t1 : Int) (p q r s : Int) (xs ys : List Int) : R (Int × List Int × List Int) :=
  doR (nodeP [tq t0 [p, q] xs, tq t1 [r, s] ys] (outM t0 t1 [p, q] [r, s] (productP [q, p] [s, r]))) fun _ => .ok (tms (blk (ytL [p, q] xs) 0 q.toNat p.toNat) (blk ys 0 r.toNat p.toNat))

theorem gemf_do (out : ByteArray) (iv : Sl) (B : Nat) (i1 i2 : ByteArray) (hck : checkF (ruleF ⟨#[71, 101, 109, 109]⟩) ⟨#[71, 101, 109, 109]⟩ [i1, i2] out flags.xs flags.cs = 0) (ho : out.size ≤ 1048576) (u : Sl) (T0 T1 : Ten) (p q r s : Int) (xs ys : List Int) (w : World) (hl : Laid w) (hi : IsStrs w iv.v [i1, i2]) (ha : IsAttrs w (.slice (some ⟨B, 0, none⟩) 2 2) [flA, flB]) (hv : TensIn w u.v [(T0, ([p, q], xs)), (T1, ([r, s], ys))]) :
    Calls Tryz.prog 11 #[nval ⟨⟨#[71, 101, 109, 109]⟩, ⟨#[]⟩, iv, out, ⟨some ⟨B, 0, none⟩, 2, 2⟩⟩, .slice u.a u.n u.c] w (DoQ w (gfR T0.ty T1.ty p q r s xs ys)) := by
  refine ldo_any _ u _ w fun wx hx => lbdo_any _ u _ _ wx (nz_node (nz_outM _ _ _ _ _ (nz_product _ _))) (fun l => nz_ok _) (fun wy hy => ?_) (fun wy ty dv l hy hr hd => ?_)
  · refine bnode_any ⟨⟨#[71, 101, 109, 109]⟩, ⟨#[]⟩, iv, out, ⟨some ⟨B, 0, none⟩, 2, 2⟩⟩ u [(T0, ([p, q], xs)), (T1, ([r, s], ys))] _ wy (hv.more (grown_trans hx hy)) (by simp) fun wz z vs hz hvs h1 h2 => ?_
    obtain ⟨v0, v1, rfl, e0, e1⟩ := two_valsL h1 h2
    have key := gfout out iv B i1 i2 hck ho z v0 v1 p q r s wz (hl.more (grown_trans (grown_trans hx hy) hz)) (hi.more (grown_trans (grown_trans hx hy) hz)) (ha.more (grown_trans (grown_trans hx hy) hz)) hvs
    rw [e0, e1] at key
    exact key
  · have hvy := hv.more (grown_trans hx hy)
    obtain ⟨hall, hr⟩ := node_inv hr
    obtain ⟨-, -, -, c1, c2, hp, c3⟩ := outM_inv hr
    have e := prod_twin [] q p s r (by decide)
    simp only [List.nil_append] at e
    rw [e] at hp
    split at hp
    · rename_i hps
      subst hps
      cases hp
      simp only [tq, okT, List.all_cons, List.all_nil, Bool.and_true, Bool.and_eq_true, beq_iff_eq] at hall
      have F1 := fine_of c1
      have F2 := fine_of c2
      have h1 := F1.pos p (by simp)
      have h2 := F1.pos q (by simp)
      have h3 := F2.pos r (by simp)
      obtain ⟨k, rfl⟩ : ∃ k : Nat, p = k := ⟨p.toNat, by omega⟩
      obtain ⟨a, rfl⟩ : ∃ a : Nat, q = a := ⟨q.toNat, by omega⟩
      obtain ⟨b, rfl⟩ : ∃ b : Nat, r = b := ⟨r.toNat, by omega⟩
      exact made_gemf ⟨⟨#[71, 101, 109, 109]⟩, ⟨#[]⟩, iv, out, ⟨some ⟨B, 0, none⟩, 2, 2⟩⟩ rfl u T0 T1 _ _ xs ys a k b _ ty dv wy (flag_ok (ha.more (grown_trans hx hy))) rfl rfl c1 c2 c3 hvy (pb_inv hall.1).2 (pb_inv hall.2).2
    · cases hp

/-- What LinearTurned says. -/
theorem turned_answer {t0 t1 : Int} {k a b k' : Nat} {xs ys vs us : List Int} (cx : cntE [(a : Int), (k : Int)] = 0) (cy : cntE [(k' : Int), (b : Int)] = 0) (cx' : cntE [(k : Int), (a : Int)] = 0) (cy' : cntE [(b : Int), (k' : Int)] = 0) (px : pbE t0 [(a : Int), (k : Int)] xs = 0) (py : pbE t1 [(k' : Int), (b : Int)] ys = 0) (hv : vs = trn a k xs) (hu : us = trn k' b ys) (pv : pbE t0 [(k : Int), (a : Int)] vs = 0) (pu : pbE t1 [(b : Int), (k' : Int)] us = 0) :
    gfR t0 t1 k a b k' vs us = mmR t0 t1 [(a : Int), (k : Int)] [(k' : Int), (b : Int)] xs ys := by
  have lx := (pb_inv px).2
  have ly := (pb_inv py).2
  have lv := (pb_inv pv).2
  have hxl : xs.length = a * k := by
    rw [show prod [(a : Int), (k : Int)] = ((a * k : Nat) : Int) from by simp [prod]] at lx
    omega
  unfold gfR mmR
  have n1 : nodeP [tq t0 [(k : Int), (a : Int)] vs, tq t1 [(b : Int), (k' : Int)] us] (outM t0 t1 [(k : Int), (a : Int)] [(b : Int), (k' : Int)] (productP [(a : Int), (k : Int)] [(k' : Int), (b : Int)])) = nodeP [tq t0 [(a : Int), (k : Int)] xs, tq t1 [(k' : Int), (b : Int)] ys] (outM t0 t1 [(a : Int), (k : Int)] [(k' : Int), (b : Int)] (productP [(a : Int), (k : Int)] [(k' : Int), (b : Int)])) := by
    unfold nodeP
    rw [if_pos (by simp [tq, okT, pv, pu]), if_pos (by simp [tq, okT, px, py])]
    unfold outM
    rw [show countP [(k : Int), (a : Int)] = .ok (prod [(k : Int), (a : Int)]) from if_pos cx', show countP [(b : Int), (k' : Int)] = .ok (prod [(b : Int), (k' : Int)]) from if_pos cy', show countP [(a : Int), (k : Int)] = .ok (prod [(a : Int), (k : Int)]) from if_pos cx, show countP [(k' : Int), (b : Int)] = .ok (prod [(k' : Int), (b : Int)]) from if_pos cy]
    rfl
  rw [n1]
  unfold doR
  split
  · rename_i ty l hn
    obtain ⟨-, ho⟩ := node_inv hn
    obtain ⟨-, -, -, -, -, hp, c3⟩ := outM_inv ho
    have e := prod_twin [] (a : Int) k k' b (by decide)
    simp only [List.nil_append] at e
    rw [e] at hp
    split at hp
    · rename_i hk
      have hk : k = k' := by omega
      subst hk
      have hs : ShpM [(a : Int), (k : Int)] [(k : Int), (b : Int)] [] a k b := ⟨rfl, rfl, by simp, cx, cy, by cases hp; exact c3⟩
      rw [hs.mm, show (prod []).toNat = 1 from rfl, mat_one, yt_two cx' lv, hv, trn_trn a k xs hxl, yt_two cy ly, hu]
      simp only [Int.toNat_natCast]
    · cases hp
  · rfl
end Go.Proofs.YtfladhogkhhlcaaGreatDoor
