/- A part. -/
import Derived.Test.YtkefdkboejimeaaGreatDoorMini
import Derived.Test.YtkefdkboejimeaaGreatDoorMini2
import Derived.Test.YtkefdkboejimeaaGreatDoorPartBN
import Derived.Deep.CutRange
import Derived.Test.YtkefdkboejimeaaGreatDoorPartBI
import Derived.Deep.RegionHeld3
set_option maxHeartbeats 8000000
set_option maxRecDepth 100000
namespace Go.Proofs.YtkefdkboejimeaaGreatDoor
open Go.RowKit
theorem jge (n : Nod) (A : At) (u : Sl) (T0 T1 : Ten) (C M H W kh kw oh ow : Nat) (xs ys : List Int) (dv : Sl) (w : World) (hn : NodeOk w n A) (hv : TensIn w u.v [(T0, ([1, (C : Int), H, W], xs)), (T1, ([(M : Int), C, kh, kw], ys))]) (hd : IsInts w dv.v [1, (M : Int), oh, ow]) (lx : xs.length = C * (H * W)) (ly : ys.length = (M * C) * (kh * kw)) (hgr : A.int ⟨#[103, 114, 111, 117, 112]⟩ 1 = 1) (hs : A.ints ⟨#[115, 116, 114, 105, 100, 101, 115]⟩ [1, 1] = [1, 1]) (hl : A.ints ⟨#[100, 105, 108, 97, 116, 105, 111, 110, 115]⟩ [1, 1] = [1, 1]) (hp : A.ints ⟨#[112, 97, 100, 115]⟩ [0, 0, 0, 0] = [0, 0, 0, 0]) (C1 : 1 ≤ C) (M1 : 1 ≤ M) (e1 : oh + kh = H + 1) (e2 : ow + kw = W + 1) (k1 : 1 ≤ kh) (k2 : 1 ≤ kw) (o1 : 1 ≤ oh) (o2 : 1 ≤ ow) (hbx : xs.length ≤ 65536) (hby : ys.length ≤ 65536) (hbo : M * (oh * ow) ≤ 65536) :
    Calls Tryz.prog 25 #[jaL n, .slice u.a u.n u.c, .slice dv.a dv.n dv.c] w fun e w' => ∃ s : Sl, e = .returned (.slice s.a s.n s.c) ∧ jaI w' w.heap.size s.v (jcd xs ys H W kh kw oh ow C M) ∧ w.grownBy w' none := by
     obtain ⟨i0, hi0, hz0, hz1, hz2⟩ := info_parts jdk
     obtain ⟨S, hS⟩ : ∃ S, S = H * W := ⟨_, rfl⟩
     obtain ⟨s, hsk⟩ : ∃ s, s = kh * kw := ⟨_, rfl⟩
     obtain ⟨N, hN⟩ : ∃ N, N = M * C := ⟨_, rfl⟩
     have hH1 : 1 ≤ H := by omega
     have hW1 : 1 ≤ W := by omega
     have S1 : 1 ≤ S := by rw [hS]; exact Nat.mul_le_mul hH1 hW1
     have s1' : 1 ≤ s := by rw [hsk]; exact Nat.mul_le_mul k1 k2
     have N1 : 1 ≤ N := by rw [hN]; exact Nat.mul_le_mul M1 C1
     rw [← hS] at lx
     rw [← hsk, ← hN] at ly
     have S3 : S ≤ 65536 := by rw [lx] at hbx; exact Nat.le_trans (Nat.le_mul_of_pos_left _ C1) hbx
     have C3 : C ≤ 65536 := by rw [lx] at hbx; exact Nat.le_trans (Nat.le_mul_of_pos_right _ S1) hbx
     have N3 : N ≤ 65536 := by rw [ly] at hby; exact Nat.le_trans (Nat.le_mul_of_pos_right _ s1') hby
     have s3 : s ≤ 65536 := by rw [ly] at hby; exact Nat.le_trans (Nat.le_mul_of_pos_left _ N1) hby
     have M3 : M ≤ 65536 := Nat.le_trans (Nat.le_mul_of_pos_right _ C1) (hN ▸ N3)
     have hH3 : H ≤ 65536 := Nat.le_trans (Nat.le_mul_of_pos_right _ hW1) (hS ▸ S3)
     have hW3 : W ≤ 65536 := Nat.le_trans (Nat.le_mul_of_pos_left _ hH1) (hS ▸ S3)
     have O3 : oh * ow ≤ S := by rw [hS]; exact Nat.mul_le_mul (by omega) (by omega)
     obtain ⟨xa, xc, ee1, p1, p2, p3⟩ := hv.vals.form
     obtain ⟨ua, un, uc⟩ := u
     simp only [Sl.v, List.map_cons, List.map_nil, List.length_cons, List.length_nil, Value.slice.injEq, Nat.zero_add, Nat.reduceAdd] at ee1
     obtain ⟨rfl, rfl, rfl⟩ := ee1
     obtain ⟨ub, uo, rfl⟩ := hv.vals.addr (k := 0) (by simp)
     obtain ⟨t0, t1, t2⟩ := hv.at 0 (by simp)
     obtain ⟨s0, s1, s2⟩ := hv.at 1 (by simp)
     have HH0 := hv.has (T0, ([1, (C : Int), H, W], xs)) (by simp)
     have HH1 := hv.has (T1, ([(M : Int), C, kh, kw], ys)) (by simp)
     have II0 : Hid (∀ wx, w.grownBy wx none → Calls Tryz.prog 54 #[.agg #[.int .i64 T0.ty, .slice T0.dv.a T0.dv.n T0.dv.c, .slice T0.tv.a T0.tv.n T0.tv.c]] wx fun e w' => ∃ (B : Nat) (ss : List Sl), e = .returned (.slice (some ⟨B, 0, none⟩) C C) ∧ Rws w' B 0 ss (jbp xs S C) ∧ wx.heap.size ≤ B ∧ wx.grownBy w' none) := fun wx hg => jd2 T0 1 C H W C S xs wx (HH0.1.more hg) (HH0.2.more hg) (by omega) hS lx C1 S1 hbx
     have II1 : Hid (∀ wx, w.grownBy wx none → Calls Tryz.prog 54 #[.agg #[.int .i64 T1.ty, .slice T1.dv.a T1.dv.n T1.dv.c, .slice T1.tv.a T1.tv.n T1.tv.c]] wx fun e w' => ∃ (B : Nat) (ss : List Sl), e = .returned (.slice (some ⟨B, 0, none⟩) N N) ∧ Rws w' B 0 ss (jbp ys s N) ∧ wx.heap.size ≤ B ∧ wx.grownBy w' none) := fun wx hg => jd2 T1 M C kh kw N s ys wx (HH1.1.more hg) (HH1.2.more hg) hN hsk ly N1 s1' hby
     have WI : Hid (∀ (wx : World) (B : Nat), w.grownBy wx none → wx.heap[B]? = some (.cells #[.int .i64 kh, .int .i64 kw] 2 (0, 0)) → Calls Tryz.prog 55 #[jaL n, .slice T0.dv.a T0.dv.n T0.dv.c, .slice (some ⟨B, 0, none⟩) 2 2] wx fun e w' => e = .returned (.agg #[.int .i64 H, .int .i64 kh, .int .i64 1, .int .i64 1, .int .i64 0, .int .i64 W, .int .i64 kw, .int .i64 1, .int .i64 1, .int .i64 0]) ∧ wx.grownBy w' none) := fun wx B hg hB => jdH n A T0.dv ⟨some ⟨B, 0, none⟩, 2, 2⟩ 1 C H W kh kw wx (hn.more hg) (HH0.1.more hg) (jem hB (by omega) (by omega)) hs hl hp
     have GI : Hid (∀ wx, w.grownBy wx none → Calls Tryz.prog 56 #[jaL n, .string ⟨#[103, 114, 111, 117, 112]⟩, .int .i64 1] wx fun e w' => e = .returned (.int .i64 1) ∧ wx.grownBy w' none) := fun wx hg => by
      have h := jdt n A ⟨#[103, 114, 111, 117, 112]⟩ 1 wx (hn.more hg)
      rw [hgr] at h
      exact h
     have HD := jae hd
     have HLX := jae lx
     have HLY := jae ly
     have HS := jae hS
     have HSK := jae hsk
     have HN := jae hN
     have HBO := jae hbo
     have HO3 := jae O3
     obtain ⟨da, dn, dc⟩ := dv
     obtain ⟨_, _, ed, -, -, -⟩ := hd.sl
     simp only [Sl.v, Value.slice.injEq, List.length_cons, List.length_nil, Nat.zero_add, Nat.reduceAdd] at ed hd
     obtain ⟨rfl, rfl, rfl⟩ := ed
     obtain ⟨bd, od, rfl⟩ := jaM hd (by simp)
     have d0 := jaC hd (k := 0) (by simp)
     have d1 := jaC hd (k := 1) (by simp)
     simp only [List.getD_cons_zero, List.getD_cons_succ, Nat.add_zero] at d0 d1
     obtain ⟨tx, ⟨xda, xdn, xdc⟩, ⟨xta, xtn, xtc⟩⟩ := T0
     obtain ⟨ty, ⟨yda, ydn, ydc⟩, ⟨yta, ytn, ytc⟩⟩ := T1
     simp only [List.getElem_cons_zero, List.getElem_cons_succ, Nat.zero_mul, Nat.add_zero, Nat.one_mul] at t0 t1 t2 s0 s1 s2 HH0 HH1 II0 II1 WI
     obtain ⟨_, _, ey, -, -, -⟩ := HH1.1.sl
     simp only [Sl.v, Value.slice.injEq, List.length_cons, List.length_nil, Nat.zero_add, Nat.reduceAdd] at ey
     obtain ⟨rfl, rfl, rfl⟩ := ey
     have hy1 : IsInts w (.slice yda 4 ydc) [(M : Int), C, kh, kw] := HH1.1
     obtain ⟨by', oy, rfl⟩ := jaM hy1 (by simp)
     have y1 := jaC hy1 (k := 1) (by simp)
     have y2 := jaC hy1 (k := 2) (by simp)
     have y3 := jaC hy1 (k := 3) (by simp)
     simp only [List.getD_cons_zero, List.getD_cons_succ] at y1 y2 y3
     have hx1 : IsInts w (.slice xda xdn xdc) [1, (C : Int), H, W] := HH0.1
     obtain ⟨_, _, ex, -, -, -⟩ := hx1.sl
     simp only [Value.slice.injEq, List.length_cons, List.length_nil, Nat.zero_add, Nat.reduceAdd] at ex
     obtain ⟨rfl, rfl, rfl⟩ := ex
     obtain ⟨bx', ox, rfl⟩ := jaM hx1 (by simp)
     have x1 := jaC hx1 (k := 1) (by simp)
     simp only [List.getD_cons_zero, List.getD_cons_succ] at x1
     obtain ⟨op, nam, ⟨ia, il, ic⟩, out, ⟨ao, al, cap⟩⟩ := n
     unfold jaL at WI GI ⊢
     simp only at WI GI ⊢
     obtain ⟨w0, hw0⟩ : ∃ w0, w0 = w.alloc (.cells #[.string op, .string nam, .slice ia il ic, .string out, .slice ao al cap] 35) := ⟨_, rfl⟩
     have g0 : w.grownBy w0 none := by rw [hw0]; exact jab _ _
     have hb0 := heap_alloc_new w (.cells #[.string op, .string nam, .slice ia il ic, .string out, .slice ao al cap] 35)
     rw [← hw0] at hb0
     have BN := jae hb0
     have t0 := jac t0 g0
     have t1 := jac t1 g0
     have t2 := jac t2 g0
     have s0 := jac s0 g0
     have s1 := jac s1 g0
     have s2 := jac s2 g0
     have Y1 := jae (jac y1 g0)
     have Y2 := jae (jac y2 g0)
     have Y3 := jae (jac y3 g0)
     have X1 := jae (jac x1 g0)
     have E0 := jae (jac d0 g0)
     have E1 := jae (jac d1 g0)
     have G0 := jae g0
     clear hn hv hd lx ly hgr hs hl hp hS hsk hN hbx hby hbo O3 HH0 HH1 y1 y2 y3 x1 d0 d1 hb0 g0 hx1 hy1 p1 p2 p3
     go_enter Tryz.func25, Tryz.ntmps25
     go_upto_region 1 with fail
     rw [← hw0]
     clear hw0
     go_cut [7, 8] from 19 to 24 (fun t7 t8 wx => w0.grownBy wx none ∧ ∃ b7 b8 : Nat, t7 = .pointer (some ⟨b7, 0, none⟩) ∧ t8 = .pointer (some ⟨b8, 0, none⟩) ∧ wx.heap[b7]? = some (.cells #[.int .i64 tx, .slice (some ⟨bx', ox, none⟩) 4 xdc, .slice xta xtn xtc] 25 (0, 0)) ∧ wx.heap[b8]? = some (.cells #[.int .i64 ty, .slice (some ⟨by', oy, none⟩) 4 ydc, .slice yta ytn ytc] 25 (0, 0)))
     case first =>
      refine wp_region_held_drew (S := fun w' => w0.grownBy w' none) (by kernel_rfl) (jag (jaf _)) (fun hHeld => ?_)
      refine tkE 0 ?_ (hv := by intro wS hSw; go_simp; (try with_reducible rfl))
      try simp only [Act.put]
      refine tkE 1 ?_ (hv := by intro wS hSw; go_simp; (try with_reducible rfl))
      try simp only [Act.put]
      refine tkE 2 ?_ (hv := by intro wS hSw; have c0 := jac t0 hSw; have c1 := jac t1 hSw; have c2 := jac t2 hSw; go_simp; (try with_reducible rfl))
      try simp only [Act.put]
      refine tkE 3 ?_ (hv := by intro wS hSw; go_simp; (try with_reducible rfl))
      try simp only [Act.put]
      refine tkE 4 ?_ (hv := by intro wS hSw; go_simp; (try with_reducible rfl))
      try simp only [Act.put]
      refine tkE 5 ?_ (hv := by intro wS hSw; have c0 := jac s0 hSw; have c1 := jac s1 hSw; have c2 := jac s2 hSw; go_simp; (try with_reducible rfl))
      try simp only [Act.put]
      refine wpAnyH_ready (rs := [6, 7]) (by kernel_rfl) (by simp) ?_
      refine AllReadyH.cons rfl (fun K hK => ?_) (AllReadyH.cons rfl (fun K hK => ?_) AllReadyH.nil)
      ·go_simp
       have hp := heap_alloc_new w0 (.cells #[.int .i64 0, .slice none 0 0, .slice none 0 0] 25)
       replace hp : (w0.alloc (.cells #[.int .i64 0, .slice none 0 0, .slice none 0 0] 25)).drew.heap[w0.heap.size]? = some (.cells #[.int .i64 0, .slice none 0 0, .slice none 0 0] 25 (0, 0)) := hp
       have g1 : w0.grownBy (w0.alloc (.cells #[.int .i64 0, .slice none 0 0, .slice none 0 0] 25)).drew none := jag (jab _ _)
       have z1 : (w0.alloc (.cells #[.int .i64 0, .slice none 0 0, .slice none 0 0] 25)).drew.heap.size = w0.heap.size + 1 := by show (w0.alloc (.cells #[.int .i64 0, .slice none 0 0, .slice none 0 0] 25)).heap.size = _; simp
       generalize (w0.alloc (.cells #[.int .i64 0, .slice none 0 0, .slice none 0 0] 25)).drew = v1 at hp g1 z1 ⊢
       refine hK.out _ _ g1 (fun hHeld => ?_)
       clear hK K
       try simp only [Act.put]
       refine rdA 7 fun K hK => ?_
       go_simp
       have hq := heap_alloc_new v1 (.cells #[.int .i64 0, .slice none 0 0, .slice none 0 0] 25)
       have gq := jab v1 (.cells #[.int .i64 0, .slice none 0 0, .slice none 0 0] 25)
       have hp2 := jad hp gq
       rw [z1] at hq
       generalize v1.alloc (.cells #[.int .i64 0, .slice none 0 0, .slice none 0 0] 25) = v2 at hq gq hp2 ⊢
       have g2 := jaa g1 gq
       refine hK.out _ _ g2 (fun hHeld => ?_)
       clear hK K
       try simp only [Act.put]
       obtain ⟨st8, sg8⟩ := ja5 (.int .i64 tx) (.slice (some ⟨bx', ox, none⟩) 4 xdc) (.slice xta xtn xtc) hp2
       obtain ⟨j80, j81, j82⟩ := jal hp2
       obtain ⟨f80, f81, f82⟩ := jaJ hp2
       refine rdA 8 fun K hK => ?_
       go_simp
       have o8 : (((v2.setCell ⟨w0.heap.size, 0, none⟩ (.int .i64 tx)).setCell ⟨w0.heap.size, 1, none⟩ (.slice (some ⟨bx', ox, none⟩) 4 xdc)).setCell ⟨w0.heap.size, 2, none⟩ (.slice xta xtn xtc)).heap[w0.heap.size + 1]? = _ := (sg8.block (w0.heap.size + 1) (Array.getElem?_eq_some_iff.1 hq).1 (by simp)).trans hq
       have y8 := jah g2 sg8 (fun r e => by cases e; omega)
       generalize (((v2.setCell ⟨w0.heap.size, 0, none⟩ (.int .i64 tx)).setCell ⟨w0.heap.size, 1, none⟩ (.slice (some ⟨bx', ox, none⟩) 4 xdc)).setCell ⟨w0.heap.size, 2, none⟩ (.slice xta xtn xtc)) = v3 at st8 sg8 o8 y8 ⊢
       refine hK.out _ _ y8 (fun hHeld => ?_)
       clear hK K j80 f80 j81 f81 j82 f82
       try simp only [Act.put]
       obtain ⟨st9, sg9⟩ := ja5 (.int .i64 ty) (.slice (some ⟨by', oy, none⟩) 4 ydc) (.slice yta ytn ytc) o8
       obtain ⟨j90, j91, j92⟩ := jal o8
       obtain ⟨f90, f91, f92⟩ := jaJ o8
       refine rdA 9 fun K hK => ?_
       go_simp
       have o9 : (((v3.setCell ⟨w0.heap.size + 1, 0, none⟩ (.int .i64 ty)).setCell ⟨w0.heap.size + 1, 1, none⟩ (.slice (some ⟨by', oy, none⟩) 4 ydc)).setCell ⟨w0.heap.size + 1, 2, none⟩ (.slice yta ytn ytc)).heap[w0.heap.size]? = _ := (sg9.block (w0.heap.size) (Array.getElem?_eq_some_iff.1 st8).1 (by simp)).trans st8
       have y9 := jah y8 sg9 (fun r e => by cases e; omega)
       generalize (((v3.setCell ⟨w0.heap.size + 1, 0, none⟩ (.int .i64 ty)).setCell ⟨w0.heap.size + 1, 1, none⟩ (.slice (some ⟨by', oy, none⟩) 4 ydc)).setCell ⟨w0.heap.size + 1, 2, none⟩ (.slice yta ytn ytc)) = v4 at st9 sg9 o9 y9 ⊢
       refine hK.out _ _ y9 (fun hHeld => ?_)
       clear hK K j90 f90 j91 f91 j92 f92
       try simp only [Act.put]
       refine wpAnyH_done (by kernel_rfl) ?_ _
       clear hp hp2 hq g1 gq g2 z1 sg8 sg9
       go_simp
       go_wp2_with fail
       go_meet
       exact ⟨y9, w0.heap.size, w0.heap.size + 1, rfl, rfl, o9, st9⟩
      ·go_simp
       have hp := heap_alloc_new w0 (.cells #[.int .i64 0, .slice none 0 0, .slice none 0 0] 25)
       replace hp : (w0.alloc (.cells #[.int .i64 0, .slice none 0 0, .slice none 0 0] 25)).drew.heap[w0.heap.size]? = some (.cells #[.int .i64 0, .slice none 0 0, .slice none 0 0] 25 (0, 0)) := hp
       have g1 : w0.grownBy (w0.alloc (.cells #[.int .i64 0, .slice none 0 0, .slice none 0 0] 25)).drew none := jag (jab _ _)
       have z1 : (w0.alloc (.cells #[.int .i64 0, .slice none 0 0, .slice none 0 0] 25)).drew.heap.size = w0.heap.size + 1 := by show (w0.alloc (.cells #[.int .i64 0, .slice none 0 0, .slice none 0 0] 25)).heap.size = _; simp
       generalize (w0.alloc (.cells #[.int .i64 0, .slice none 0 0, .slice none 0 0] 25)).drew = v1 at hp g1 z1 ⊢
       refine hK.out _ _ g1 (fun hHeld => ?_)
       clear hK K
       try simp only [Act.put]
       refine rdA 6 fun K hK => ?_
       go_simp
       have hq := heap_alloc_new v1 (.cells #[.int .i64 0, .slice none 0 0, .slice none 0 0] 25)
       have gq := jab v1 (.cells #[.int .i64 0, .slice none 0 0, .slice none 0 0] 25)
       have hp2 := jad hp gq
       rw [z1] at hq
       generalize v1.alloc (.cells #[.int .i64 0, .slice none 0 0, .slice none 0 0] 25) = v2 at hq gq hp2 ⊢
       have g2 := jaa g1 gq
       refine hK.out _ _ g2 (fun hHeld => ?_)
       clear hK K
       try simp only [Act.put]
       obtain ⟨st8, sg8⟩ := ja5 (.int .i64 tx) (.slice (some ⟨bx', ox, none⟩) 4 xdc) (.slice xta xtn xtc) hq
       obtain ⟨j80, j81, j82⟩ := jal hq
       obtain ⟨f80, f81, f82⟩ := jaJ hq
       refine rdA 8 fun K hK => ?_
       go_simp
       have o8 : (((v2.setCell ⟨w0.heap.size + 1, 0, none⟩ (.int .i64 tx)).setCell ⟨w0.heap.size + 1, 1, none⟩ (.slice (some ⟨bx', ox, none⟩) 4 xdc)).setCell ⟨w0.heap.size + 1, 2, none⟩ (.slice xta xtn xtc)).heap[w0.heap.size]? = _ := (sg8.block (w0.heap.size) (Array.getElem?_eq_some_iff.1 hp2).1 (by simp)).trans hp2
       have y8 := jah g2 sg8 (fun r e => by cases e; omega)
       generalize (((v2.setCell ⟨w0.heap.size + 1, 0, none⟩ (.int .i64 tx)).setCell ⟨w0.heap.size + 1, 1, none⟩ (.slice (some ⟨bx', ox, none⟩) 4 xdc)).setCell ⟨w0.heap.size + 1, 2, none⟩ (.slice xta xtn xtc)) = v3 at st8 sg8 o8 y8 ⊢
       refine hK.out _ _ y8 (fun hHeld => ?_)
       clear hK K j80 f80 j81 f81 j82 f82
       try simp only [Act.put]
       obtain ⟨st9, sg9⟩ := ja5 (.int .i64 ty) (.slice (some ⟨by', oy, none⟩) 4 ydc) (.slice yta ytn ytc) o8
       obtain ⟨j90, j91, j92⟩ := jal o8
       obtain ⟨f90, f91, f92⟩ := jaJ o8
       refine rdA 9 fun K hK => ?_
       go_simp
       have o9 : (((v3.setCell ⟨w0.heap.size, 0, none⟩ (.int .i64 ty)).setCell ⟨w0.heap.size, 1, none⟩ (.slice (some ⟨by', oy, none⟩) 4 ydc)).setCell ⟨w0.heap.size, 2, none⟩ (.slice yta ytn ytc)).heap[w0.heap.size + 1]? = _ := (sg9.block (w0.heap.size + 1) (Array.getElem?_eq_some_iff.1 st8).1 (by simp)).trans st8
       have y9 := jah y8 sg9 (fun r e => by cases e; omega)
       generalize (((v3.setCell ⟨w0.heap.size, 0, none⟩ (.int .i64 ty)).setCell ⟨w0.heap.size, 1, none⟩ (.slice (some ⟨by', oy, none⟩) 4 ydc)).setCell ⟨w0.heap.size, 2, none⟩ (.slice yta ytn ytc)) = v4 at st9 sg9 o9 y9 ⊢
       refine hK.out _ _ y9 (fun hHeld => ?_)
       clear hK K j90 f90 j91 f91 j92 f92
       try simp only [Act.put]
       refine wpAnyH_done (by kernel_rfl) ?_ _
       clear hp hp2 hq g1 gq g2 z1 sg8 sg9
       go_simp
       go_wp2_with fail
       go_meet
       exact ⟨y9, w0.heap.size + 1, w0.heap.size, rfl, rfl, o9, st9⟩
     case rest =>
      obtain ⟨hg1, b7, b8, rfl, rfl, hb7, hb8⟩ := hcut
      obtain ⟨w1, hw1⟩ : ∃ v, v = wc := ⟨_, rfl⟩
      rw [← hw1] at hg1 hb7 hb8 ⊢
      clear hw1 t0 t1 t2 s0 s1 s2
      have G1 := jae hg1
      have B7 := jae hb7
      have B8 := jae hb8
      obtain ⟨k0, k1, k2⟩ := jal hb7
      obtain ⟨m0, m1, m2⟩ := jal hb8
      go_upto_region 2 with fail
      go_cut [9, 10] from 25 to 28 (fun t9 t10 wx => w1.grownBy wx none ∧ ∃ (B1 B2 b10 : Nat) (q1 q2 : List Sl), t9 = .slice (some ⟨B1, 0, none⟩) C C ∧ t10 = .pointer (some ⟨b10, 0, none⟩) ∧ wx.heap[b10]? = some (.cells #[.slice (some ⟨B2, 0, none⟩) N N] 85 (0, 0)) ∧ Rws wx B1 0 q1 (jbp xs S C) ∧ Rws wx B2 0 q2 (jbp ys s N))
      case first =>
       refine wp_region_held_drew (S := fun w' => w1.grownBy w' none) (by kernel_rfl) (jag (jaf _)) (fun hHeld => ?_)
       refine tkE 0 ?_ (hv := by intro wS hSw; have c0 := jac k0 hSw; have c1 := jac k1 hSw; have c2 := jac k2 hSw; go_simp; (try with_reducible rfl))
       try simp only [Act.put]
       refine tkE 2 ?_ (hv := by intro wS hSw; have c0 := jac m0 hSw; have c1 := jac m1 hSw; have c2 := jac m2 hSw; go_simp; (try with_reducible rfl))
       try simp only [Act.put]
       have g_ : w1.grownBy w1.drew none := jag (jaf _)
       generalize w1.drew = v_ at g_ hHeld ⊢
       refine wpAnyH_ready (rs := [1, 4]) (by kernel_rfl) (by simp) ?_
       refine AllReadyH.cons rfl (fun K hK => ?_) (AllReadyH.cons rfl (fun K hK => ?_) AllReadyH.nil)
       ·go_simp
        refine (II0.out v_ (jaa G0.out (jaa G1.out g_))).mono ?_
        rintro e v_1 ⟨B1, q1, rfl, r1, hB1, hg1⟩
        have g_1 := jaa g_ hg1
        refine hK.out _ _ g_1 (fun hHeld => ?_)
        clear hK K
        try simp only [Act.put]
        refine wpAnyH_ready (rs := [3, 4]) (by kernel_rfl) (by simp) ?_
        refine AllReadyH.cons rfl (fun K hK => ?_) (AllReadyH.cons rfl (fun K hK => ?_) AllReadyH.nil)
        ·go_simp
         refine (II1.out v_1 (jaa G0.out (jaa G1.out g_1))).mono ?_
         rintro e v_13 ⟨B2, q2, rfl, r3, hB3, hg3⟩
         have g_13 := jaa g_1 hg3
         have r1 := r1.more hg3
         refine hK.out _ _ g_13 (fun hHeld => ?_)
         clear hK K
         try simp only [Act.put]
         refine rdA 4 fun K hK => ?_
         go_simp
         have l4 := g_13.size
         have h4 := heap_alloc_new v_13 (.cells #[.slice none 0 0] 85)
         have gn := jab v_13 (.cells #[.slice none 0 0] 85)
         have n1 : B1 ≠ v_13.heap.size := fun e9 => by have h9 := r1.lt' (by rw [jce]; omega); omega
         have r1 := r1.more gn
         have n3 : B2 ≠ v_13.heap.size := fun e9 => by have h9 := r3.lt' (by rw [jce]; omega); omega
         have r3 := r3.more gn
         generalize v_13.alloc (.cells #[.slice none 0 0] 85) = v_134 at h4 gn r1 r3 ⊢
         generalize v_13.heap.size = b4 at h4 n1 n3 l4 ⊢
         have g_134 := jaa g_13 gn
         refine hK.out _ _ g_134 (fun hHeld => ?_)
         clear hK K
         try simp only [Act.put]
         refine tkE 5 ?_ (hv := by intro wS hSw; go_simp; (try with_reducible rfl))
         try simp only [Act.put]
         have c4 := jaA h4
         have f4 := jbd h4 0
         refine rdA 6 fun K hK => ?_
         go_simp
         have x6 : v_134.grownBy (v_134.setCell ⟨b4, 0, none⟩ (.slice (some ⟨B2, 0, none⟩) N N)) (some b4) := jbm _ _ _ _
         have s6 : (v_134.setCell ⟨b4, 0, none⟩ (.slice (some ⟨B2, 0, none⟩) N N)).heap[b4]? = some (.cells #[.slice (some ⟨B2, 0, none⟩) N N] 85 (0, 0)) := Boxed.set (v := .slice none 0 0) _ h4
         have r1 := r1.putAway h4 n1 x6
         have r3 := r3.putAway h4 n3 x6
         have y6 := jah g_134 x6 (fun r e => by cases e; exact l4)
         generalize v_134.setCell ⟨b4, 0, none⟩ (.slice (some ⟨B2, 0, none⟩) N N) = v6 at x6 s6 r1 r3 y6 ⊢
         refine hK.out _ _ y6 (fun hHeld => ?_)
         clear hK K
         try simp only [Act.put]
         refine wpAnyH_done (by kernel_rfl) ?_ _
         clear c4 f4 x6 h4 hHeld
         go_simp
         go_wp2_with fail
         go_meet
         exact ⟨y6, B1, B2, b4, q1, q2, rfl, rfl, s6, r1, r3⟩
        ·go_simp
         have l4 := g_1.size
         have h4 := heap_alloc_new v_1 (.cells #[.slice none 0 0] 85)
         have gn := jab v_1 (.cells #[.slice none 0 0] 85)
         have n1 : B1 ≠ v_1.heap.size := fun e9 => by have h9 := r1.lt' (by rw [jce]; omega); omega
         have r1 := r1.more gn
         generalize v_1.alloc (.cells #[.slice none 0 0] 85) = v_14 at h4 gn r1 ⊢
         generalize v_1.heap.size = b4 at h4 n1 l4 ⊢
         have g_14 := jaa g_1 gn
         refine hK.out _ _ g_14 (fun hHeld => ?_)
         clear hK K
         try simp only [Act.put]
         refine rdA 3 fun K hK => ?_
         go_simp
         refine (II1.out v_14 (jaa G0.out (jaa G1.out g_14))).mono ?_
         rintro e v_143 ⟨B2, q2, rfl, r3, hB3, hg3⟩
         have g_143 := jaa g_14 hg3
         have r1 := r1.more hg3
         have n3 : B2 ≠ b4 := fun e9 => by have h9 := (Array.getElem?_eq_some_iff.1 h4).1; omega
         have h4 := jad h4 hg3
         refine hK.out _ _ g_143 (fun hHeld => ?_)
         clear hK K
         try simp only [Act.put]
         refine tkE 5 ?_ (hv := by intro wS hSw; go_simp; (try with_reducible rfl))
         try simp only [Act.put]
         have c4 := jaA h4
         have f4 := jbd h4 0
         refine rdA 6 fun K hK => ?_
         go_simp
         have x6 : v_143.grownBy (v_143.setCell ⟨b4, 0, none⟩ (.slice (some ⟨B2, 0, none⟩) N N)) (some b4) := jbm _ _ _ _
         have s6 : (v_143.setCell ⟨b4, 0, none⟩ (.slice (some ⟨B2, 0, none⟩) N N)).heap[b4]? = some (.cells #[.slice (some ⟨B2, 0, none⟩) N N] 85 (0, 0)) := Boxed.set (v := .slice none 0 0) _ h4
         have r1 := r1.putAway h4 n1 x6
         have r3 := r3.putAway h4 n3 x6
         have y6 := jah g_143 x6 (fun r e => by cases e; exact l4)
         generalize v_143.setCell ⟨b4, 0, none⟩ (.slice (some ⟨B2, 0, none⟩) N N) = v6 at x6 s6 r1 r3 y6 ⊢
         refine hK.out _ _ y6 (fun hHeld => ?_)
         clear hK K
         try simp only [Act.put]
         refine wpAnyH_done (by kernel_rfl) ?_ _
         clear c4 f4 x6 h4 hHeld
         go_simp
         go_wp2_with fail
         go_meet
         exact ⟨y6, B1, B2, b4, q1, q2, rfl, rfl, s6, r1, r3⟩
       ·go_simp
        have l4 := g_.size
        have h4 := heap_alloc_new v_ (.cells #[.slice none 0 0] 85)
        have gn := jab v_ (.cells #[.slice none 0 0] 85)
        generalize v_.alloc (.cells #[.slice none 0 0] 85) = v_4 at h4 gn  ⊢
        generalize v_.heap.size = b4 at h4  l4 ⊢
        have g_4 := jaa g_ gn
        refine hK.out _ _ g_4 (fun hHeld => ?_)
        clear hK K
        try simp only [Act.put]
        refine rdA 1 fun K hK => ?_
        go_simp
        refine (II0.out v_4 (jaa G0.out (jaa G1.out g_4))).mono ?_
        rintro e v_41 ⟨B1, q1, rfl, r1, hB1, hg1⟩
        have g_41 := jaa g_4 hg1
        have n1 : B1 ≠ b4 := fun e9 => by have h9 := (Array.getElem?_eq_some_iff.1 h4).1; omega
        have h4 := jad h4 hg1
        refine hK.out _ _ g_41 (fun hHeld => ?_)
        clear hK K
        try simp only [Act.put]
        refine rdA 3 fun K hK => ?_
        go_simp
        refine (II1.out v_41 (jaa G0.out (jaa G1.out g_41))).mono ?_
        rintro e v_413 ⟨B2, q2, rfl, r3, hB3, hg3⟩
        have g_413 := jaa g_41 hg3
        have r1 := r1.more hg3
        have n3 : B2 ≠ b4 := fun e9 => by have h9 := (Array.getElem?_eq_some_iff.1 h4).1; omega
        have h4 := jad h4 hg3
        refine hK.out _ _ g_413 (fun hHeld => ?_)
        clear hK K
        try simp only [Act.put]
        refine tkE 5 ?_ (hv := by intro wS hSw; go_simp; (try with_reducible rfl))
        try simp only [Act.put]
        have c4 := jaA h4
        have f4 := jbd h4 0
        refine rdA 6 fun K hK => ?_
        go_simp
        have x6 : v_413.grownBy (v_413.setCell ⟨b4, 0, none⟩ (.slice (some ⟨B2, 0, none⟩) N N)) (some b4) := jbm _ _ _ _
        have s6 : (v_413.setCell ⟨b4, 0, none⟩ (.slice (some ⟨B2, 0, none⟩) N N)).heap[b4]? = some (.cells #[.slice (some ⟨B2, 0, none⟩) N N] 85 (0, 0)) := Boxed.set (v := .slice none 0 0) _ h4
        have r1 := r1.putAway h4 n1 x6
        have r3 := r3.putAway h4 n3 x6
        have y6 := jah g_413 x6 (fun r e => by cases e; exact l4)
        generalize v_413.setCell ⟨b4, 0, none⟩ (.slice (some ⟨B2, 0, none⟩) N N) = v6 at x6 s6 r1 r3 y6 ⊢
        refine hK.out _ _ y6 (fun hHeld => ?_)
        clear hK K
        try simp only [Act.put]
        refine wpAnyH_done (by kernel_rfl) ?_ _
        clear c4 f4 x6 h4 hHeld
        go_simp
        go_wp2_with fail
        go_meet
        exact ⟨y6, B1, B2, b4, q1, q2, rfl, rfl, s6, r1, r3⟩
      case rest =>
       obtain ⟨hg2, B1, B2, b10, q1, q2, rfl, rfl, hb10, hr1, hr2⟩ := hcut
       obtain ⟨w2, hw2⟩ : ∃ v, v = wc := ⟨_, rfl⟩
       rw [← hw2] at hg2 hb10 hr1 hr2 ⊢
       clear hw2 k0 k1 k2 m0 m1 m2
       have G2 := jae hg2
       have B10 := jae hb10
       have R1 := jae hr1
       have R2 := jae hr2
       obtain ⟨k0, k1, k2⟩ := jal (jad B7.out hg2)
       obtain ⟨m0, m1, m2⟩ := jal (jad B8.out hg2)
       obtain ⟨n0, n1, n2, n3, n4⟩ := jai (n := ⟨op, nam, ⟨ia, il, ic⟩, out, ⟨ao, al, cap⟩⟩) (jad BN.out (jaa G1.out hg2))
       have y2 := jac Y2.out (jaa G1.out hg2)
       have y3 := jac Y3.out (jaa G1.out hg2)
       clear hg1 hg2 hb7 hb8 hb10 hr1 hr2
       go_upto_region 3 with fail
       go_cut [11] from 29 to 41 (fun t11 wx => w2.grownBy wx none ∧ ∃ b11 : Nat, t11 = .pointer (some ⟨b11, 0, none⟩) ∧ wx.heap[b11]? = some (.cells #[.int .i64 H, .int .i64 kh, .int .i64 1, .int .i64 1, .int .i64 0, .int .i64 W, .int .i64 kw, .int .i64 1, .int .i64 1, .int .i64 0] 90 (0, 0)))
       case first =>
        refine wp_region_held_drew (S := fun w' => w2.grownBy w' none) (by kernel_rfl) (jag (jaf _)) (fun hHeld => ?_)
        refine tkE 0 ?_ (hv := by intro wS hSw; have c0 := jac n0 hSw; have c1 := jac n1 hSw; have c2 := jac n2 hSw; have c3 := jac n3 hSw; have c4 := jac n4 hSw; go_simp; (try with_reducible rfl))
        try simp only [Act.put]
        refine tkE 1 ?_ (hv := by intro wS hSw; go_simp; (try with_reducible rfl))
        try simp only [Act.put]
        refine tkE 2 ?_ (hv := by intro wS hSw; have c0 := jac k1 hSw; go_simp; (try with_reducible rfl))
        try simp only [Act.put]
        refine tkE 3 ?_ (hv := by intro wS hSw; go_simp; (try with_reducible rfl))
        try simp only [Act.put]
        refine tkE 4 ?_ (hv := by intro wS hSw; have c0 := jac m1 hSw; go_simp; (try with_reducible rfl))
        try simp only [Act.put]
        refine tkE 5 ?_ (hv := by intro wS hSw; go_simp; (try with_reducible rfl))
        try simp only [Act.put]
        refine tkE 6 ?_ (hv := by intro wS hSw; have c0 := jac y2 hSw; go_simp; (try with_reducible rfl))
        try simp only [Act.put]
        refine tkE 7 ?_ (hv := by intro wS hSw; go_simp; (try with_reducible rfl))
        try simp only [Act.put]
        refine tkE 8 ?_ (hv := by intro wS hSw; have c0 := jac m1 hSw; go_simp; (try with_reducible rfl))
        try simp only [Act.put]
        refine tkE 9 ?_ (hv := by intro wS hSw; go_simp; (try with_reducible rfl))
        try simp only [Act.put]
        refine tkE 10 ?_ (hv := by intro wS hSw; have c0 := jac y3 hSw; go_simp; (try with_reducible rfl))
        try simp only [Act.put]
        have g_ : w2.grownBy w2.drew none := jag (jaf _)
        generalize w2.drew = v_ at g_ hHeld ⊢
        refine wpAnyH_ready (rs := [11, 13]) (by kernel_rfl) (by simp) ?_
        refine AllReadyH.cons rfl (fun K hK => ?_) (AllReadyH.cons rfl (fun K hK => ?_) AllReadyH.nil)
        ·go_simp
         have h11 := heap_alloc_new v_ (.cells #[.int .i64 kh, .int .i64 kw] 2)
         have gn := jab v_ (.cells #[.int .i64 kh, .int .i64 kw] 2)
         generalize v_.alloc (.cells #[.int .i64 kh, .int .i64 kw] 2) = v_11 at h11 gn ⊢
         generalize v_.heap.size = b11 at h11 ⊢
         have g_11 := jaa g_ gn
         refine hK.out _ _ g_11 (fun hHeld => ?_)
         clear hK K
         try simp only [Act.put]
         refine wpAnyH_ready (rs := [12, 13]) (by kernel_rfl) (by simp) ?_
         refine AllReadyH.cons rfl (fun K hK => ?_) (AllReadyH.cons rfl (fun K hK => ?_) AllReadyH.nil)
         ·go_simp
          refine (WI.out v_11 b11 (jaa G0.out (jaa G1.out (jaa G2.out g_11))) h11).mono ?_
          rintro e v_11_12 ⟨rfl, hg12⟩
          have g_11_12 := jaa g_11 hg12
          refine hK.out _ _ g_11_12 (fun hHeld => ?_)
          clear hK K
          try simp only [Act.put]
          refine rdA 13 fun K hK => ?_
          go_simp
          have l13 := g_11_12.size
          have h13 := heap_alloc_new v_11_12 (.cells #[.int .i64 0, .int .i64 0, .int .i64 0, .int .i64 0, .int .i64 0, .int .i64 0, .int .i64 0, .int .i64 0, .int .i64 0, .int .i64 0] 90)
          have gn := jab v_11_12 (.cells #[.int .i64 0, .int .i64 0, .int .i64 0, .int .i64 0, .int .i64 0, .int .i64 0, .int .i64 0, .int .i64 0, .int .i64 0, .int .i64 0] 90)
          generalize v_11_12.alloc (.cells #[.int .i64 0, .int .i64 0, .int .i64 0, .int .i64 0, .int .i64 0, .int .i64 0, .int .i64 0, .int .i64 0, .int .i64 0, .int .i64 0] 90) = v_11_12_13 at h13 gn  ⊢
          generalize v_11_12.heap.size = b13 at h13 l13 ⊢
          have g_11_12_13 := jaa g_11_12 gn
          refine hK.out _ _ g_11_12_13 (fun hHeld => ?_)
          clear hK K
          try simp only [Act.put]
          refine rdA 14 fun K hK => ?_
          rw [if_pos (by kernel_rfl)]
          refine wp_store_row 90 (.tmp 11) (.tmp 41) rfl b13 #[.int .i64 H, .int .i64 kh, .int .i64 1, .int .i64 1, .int .i64 0, .int .i64 W, .int .i64 kw, .int .i64 1, .int .i64 1, .int .i64 0] rfl rfl 90 _ h13 je5 rfl (by simp [Value.oneCell']) ?_
          have s14 := setRow_heap v_11_12_13 b13 _ #[.int .i64 H, .int .i64 kh, .int .i64 1, .int .i64 1, .int .i64 0, .int .i64 W, .int .i64 kw, .int .i64 1, .int .i64 1, .int .i64 0] _ _ h13
          have y14 := jah g_11_12_13 (jcr v_11_12_13 b13 #[.int .i64 H, .int .i64 kh, .int .i64 1, .int .i64 1, .int .i64 0, .int .i64 W, .int .i64 kw, .int .i64 1, .int .i64 1, .int .i64 0]) (fun r e => by cases e; exact l13)
          refine hK.out _ _ y14 (fun hHeld => ?_)
          clear hK K
          try simp only [Act.put]
          refine wpAnyH_done (by kernel_rfl) ?_ _
          clear hHeld
          go_simp
          go_wp2_with fail
          go_meet
          exact ⟨y14, b13, rfl, s14⟩
         ·go_simp
          have l13 := g_11.size
          have h13 := heap_alloc_new v_11 (.cells #[.int .i64 0, .int .i64 0, .int .i64 0, .int .i64 0, .int .i64 0, .int .i64 0, .int .i64 0, .int .i64 0, .int .i64 0, .int .i64 0] 90)
          have gn := jab v_11 (.cells #[.int .i64 0, .int .i64 0, .int .i64 0, .int .i64 0, .int .i64 0, .int .i64 0, .int .i64 0, .int .i64 0, .int .i64 0, .int .i64 0] 90)
          have h11 := jad h11 gn
          generalize v_11.alloc (.cells #[.int .i64 0, .int .i64 0, .int .i64 0, .int .i64 0, .int .i64 0, .int .i64 0, .int .i64 0, .int .i64 0, .int .i64 0, .int .i64 0] 90) = v_11_13 at h13 gn h11 ⊢
          generalize v_11.heap.size = b13 at h13 l13 ⊢
          have g_11_13 := jaa g_11 gn
          refine hK.out _ _ g_11_13 (fun hHeld => ?_)
          clear hK K
          try simp only [Act.put]
          refine rdA 12 fun K hK => ?_
          go_simp
          refine (WI.out v_11_13 b11 (jaa G0.out (jaa G1.out (jaa G2.out g_11_13))) h11).mono ?_
          rintro e v_11_13_12 ⟨rfl, hg12⟩
          have g_11_13_12 := jaa g_11_13 hg12
          have h13 := jad h13 hg12
          refine hK.out _ _ g_11_13_12 (fun hHeld => ?_)
          clear hK K
          try simp only [Act.put]
          refine rdA 14 fun K hK => ?_
          rw [if_pos (by kernel_rfl)]
          refine wp_store_row 90 (.tmp 11) (.tmp 41) rfl b13 #[.int .i64 H, .int .i64 kh, .int .i64 1, .int .i64 1, .int .i64 0, .int .i64 W, .int .i64 kw, .int .i64 1, .int .i64 1, .int .i64 0] rfl rfl 90 _ h13 je5 rfl (by simp [Value.oneCell']) ?_
          have s14 := setRow_heap v_11_13_12 b13 _ #[.int .i64 H, .int .i64 kh, .int .i64 1, .int .i64 1, .int .i64 0, .int .i64 W, .int .i64 kw, .int .i64 1, .int .i64 1, .int .i64 0] _ _ h13
          have y14 := jah g_11_13_12 (jcr v_11_13_12 b13 #[.int .i64 H, .int .i64 kh, .int .i64 1, .int .i64 1, .int .i64 0, .int .i64 W, .int .i64 kw, .int .i64 1, .int .i64 1, .int .i64 0]) (fun r e => by cases e; exact l13)
          refine hK.out _ _ y14 (fun hHeld => ?_)
          clear hK K
          try simp only [Act.put]
          refine wpAnyH_done (by kernel_rfl) ?_ _
          clear hHeld
          go_simp
          go_wp2_with fail
          go_meet
          exact ⟨y14, b13, rfl, s14⟩
        ·go_simp
         have l13 := g_.size
         have h13 := heap_alloc_new v_ (.cells #[.int .i64 0, .int .i64 0, .int .i64 0, .int .i64 0, .int .i64 0, .int .i64 0, .int .i64 0, .int .i64 0, .int .i64 0, .int .i64 0] 90)
         have gn := jab v_ (.cells #[.int .i64 0, .int .i64 0, .int .i64 0, .int .i64 0, .int .i64 0, .int .i64 0, .int .i64 0, .int .i64 0, .int .i64 0, .int .i64 0] 90)
         generalize v_.alloc (.cells #[.int .i64 0, .int .i64 0, .int .i64 0, .int .i64 0, .int .i64 0, .int .i64 0, .int .i64 0, .int .i64 0, .int .i64 0, .int .i64 0] 90) = v_13 at h13 gn  ⊢
         generalize v_.heap.size = b13 at h13 l13 ⊢
         have g_13 := jaa g_ gn
         refine hK.out _ _ g_13 (fun hHeld => ?_)
         clear hK K
         try simp only [Act.put]
         refine rdA 11 fun K hK => ?_
         go_simp
         have h11 := heap_alloc_new v_13 (.cells #[.int .i64 kh, .int .i64 kw] 2)
         have gn := jab v_13 (.cells #[.int .i64 kh, .int .i64 kw] 2)
         generalize v_13.alloc (.cells #[.int .i64 kh, .int .i64 kw] 2) = v_13_11 at h11 gn ⊢
         generalize v_13.heap.size = b11 at h11 ⊢
         have g_13_11 := jaa g_13 gn
         have h13 := jad h13 gn
         refine hK.out _ _ g_13_11 (fun hHeld => ?_)
         clear hK K
         try simp only [Act.put]
         refine rdA 12 fun K hK => ?_
         go_simp
         refine (WI.out v_13_11 b11 (jaa G0.out (jaa G1.out (jaa G2.out g_13_11))) h11).mono ?_
         rintro e v_13_11_12 ⟨rfl, hg12⟩
         have g_13_11_12 := jaa g_13_11 hg12
         have h13 := jad h13 hg12
         refine hK.out _ _ g_13_11_12 (fun hHeld => ?_)
         clear hK K
         try simp only [Act.put]
         refine rdA 14 fun K hK => ?_
         rw [if_pos (by kernel_rfl)]
         refine wp_store_row 90 (.tmp 11) (.tmp 41) rfl b13 #[.int .i64 H, .int .i64 kh, .int .i64 1, .int .i64 1, .int .i64 0, .int .i64 W, .int .i64 kw, .int .i64 1, .int .i64 1, .int .i64 0] rfl rfl 90 _ h13 je5 rfl (by simp [Value.oneCell']) ?_
         have s14 := setRow_heap v_13_11_12 b13 _ #[.int .i64 H, .int .i64 kh, .int .i64 1, .int .i64 1, .int .i64 0, .int .i64 W, .int .i64 kw, .int .i64 1, .int .i64 1, .int .i64 0] _ _ h13
         have y14 := jah g_13_11_12 (jcr v_13_11_12 b13 #[.int .i64 H, .int .i64 kh, .int .i64 1, .int .i64 1, .int .i64 0, .int .i64 W, .int .i64 kw, .int .i64 1, .int .i64 1, .int .i64 0]) (fun r e => by cases e; exact l13)
         refine hK.out _ _ y14 (fun hHeld => ?_)
         clear hK K
         try simp only [Act.put]
         refine wpAnyH_done (by kernel_rfl) ?_ _
         clear hHeld
         go_simp
         go_wp2_with fail
         go_meet
         exact ⟨y14, b13, rfl, s14⟩
       case rest =>
        obtain ⟨hg3, b11, rfl, hb11⟩ := hcut
        obtain ⟨w3, hw3⟩ : ∃ v, v = wc := ⟨_, rfl⟩
        rw [← hw3] at hg3 hb11 ⊢
        clear hw3 k0 k1 k2 m0 m1 m2 n0 n1 n2 n3 n4 y2 y3
        have G3 := jae (jaa G2.out hg3)
        have B11 := jae hb11
        have g13 := jaa G1.out G3.out
        obtain ⟨m0, m1, m2⟩ := jal (jad B8.out G3.out)
        have y1 := jac Y1.out g13
        obtain ⟨w4, hw4⟩ : ∃ w4, w4 = w3.alloc (.cells #[.int .i64 C] 3) := ⟨_, rfl⟩
        have g34 : w3.grownBy w4 none := by rw [hw4]; exact jab _ _
        have hb12 := heap_alloc_new w3 (.cells #[.int .i64 C] 3)
        rw [← hw4] at hb12
        have B12 := jae hb12
        have G4 := jae (jaa G3.out g34)
        have g14 := jaa G1.out G4.out
        have B11 := jae (jad B11.out g34)
        have B10 := jae (jad B10.out (jaa hg3 g34))
        have R1 := jae (R1.out.more (jaa hg3 g34))
        have R2 := jae (R2.out.more (jaa hg3 g34))
        have B7 := jae (jad B7.out G4.out)
        have e0 := jac E0.out g14
        have e1' := jac E1.out g14
        have X1 := jae (jac X1.out g14)
        have G04 := jae (jaa G0.out g14)
        obtain ⟨n0, n1, n2, n3, n4⟩ := jai (n := ⟨op, nam, ⟨ia, il, ic⟩, out, ⟨ao, al, cap⟩⟩) (jad BN.out g14)
        have LB := jae (Array.getElem?_eq_some_iff.1 hb12).1
        clear hg3 hb11 g13 g34 hb12 g14
        go_upto_region 5 with fail
        rw [← hw4]
        clear hw4 m0 m1 m2 y1
        refine wp_region_held_drew (S := fun w' => w4.grownBy w' none) (by kernel_rfl) (jag (jaf _)) (fun hHeld => ?_)
        refine tkE 0 ?_ (hv := by intro wS hSw; go_simp; (try with_reducible rfl))
        try simp only [Act.put]
        refine tkE 1 ?_ (hv := by intro wS hSw; go_simp; (try with_reducible rfl))
        try simp only [Act.put]
        refine tkE 2 ?_ (hv := by intro wS hSw; have c0 := jac e1' hSw; go_simp; (try with_reducible rfl))
        try simp only [Act.put]
        refine tkE 3 ?_ (hv := by intro wS hSw; have c0 := jac n0 hSw; have c1 := jac n1 hSw; have c2 := jac n2 hSw; have c3 := jac n3 hSw; have c4 := jac n4 hSw; go_simp; (try with_reducible rfl))
        try simp only [Act.put]
        refine rdA 4 fun K hK => ?_
        go_simp
        refine (GI.out _ (jag G04.out)).mono ?_
        rintro e w5 ⟨rfl, hg5⟩
        have g5 : w4.grownBy w5 none := ⟨hg5.os, hg5.tape, hg5.output, hg5.size, hg5.block⟩
        refine hK.out _ _ (g5) (fun hHeld => ?_)
        clear hK K
        try simp only [Act.put]
        refine wpAnyH_take (i := 5) (v := .int .i64 M) rfl (by kernel_rfl) (by kernel_rfl) (by kernel_rfl) (fun _ _ _ h => h) (Or.inl ⟨by kernel_rfl, ?_⟩) (by assumption) ?_
        ·(intro wS hSw; go_simp; exact Vw.wrap_small (Int.natCast_nonneg _) (by omega))
        try simp only [Act.put]
        refine tkE 6 ?_ (hv := by intro wS hSw; go_simp; (try with_reducible rfl))
        try simp only [Act.put]
        refine wpAnyH_done (by kernel_rfl) ?_ _
        have E0' := jae e0
        have E1' := jae e1'
        have e0 := jac e0 g5
        have G5 := jae g5
        clear n0 n1 n2 n3 n4 hHeld hg5 g5 e1'
        go_simp
        go_wp2_with fail
        clear e0
        go_loopg [14, 55] 1 (fun gh d i wr => w4.grownBy wr none ∧ ((gh = 1 ∧ i = .int .i64 0 ∧ d = .slice none 0 0) ∨ (gh = 0 ∧ i = .int .i64 1 ∧ ∃ s : Sl, d = .slice s.a s.n s.c ∧ jaI wr w4.heap.size s.v (jcd xs ys H W kh kw oh ow C M))))
        case atStart => exact ⟨G5.out, .inl ⟨rfl, rfl, rfl⟩⟩
        case round =>
         obtain ⟨hg, (⟨rfl, rfl, rfl⟩ | ⟨rfl, rfl, ⟨sa, sn, sc⟩, rfl, ho⟩)⟩ := hrel
         ·have HG := jae hg
          have e1' := jac E1'.out hg
          obtain ⟨wo, rfl⟩ : ∃ wo, wo = wr := ⟨_, rfl⟩
          clear hg
          go_wp2_with fail
          clear e1'
          go_loopg [14, 61] M (fun gh d i wr => w4.grownBy wr none ∧ ∃ (m T : Nat) (ea : Option Addr) (ec : Nat), gh = M - m ∧ m ≤ M ∧ T = m * (oh * ow) ∧ i = .int .i64 m ∧ d = .slice ea T ec ∧ jaI wr w4.heap.size (.slice ea T ec) (jcd xs ys H W kh kw oh ow C m))
          case atStart => exact ⟨HG.out, 0, 0, _, _, rfl, Nat.zero_le _, by simp, rfl, rfl, by simpa [jcd] using jcT (World.ownsRow_nil _ _ _ _)⟩
          case round =>
           obtain ⟨hg, m, T, ea, ec, hgk, hm, hT, rfl, rfl, ho⟩ := hrel
           have HTT := jae hT
           have HO := jae ho
           have HG2 := jae hg
           clear hT ho
           by_cases hlt : m < M
           ·obtain ⟨w6, hw6⟩ : ∃ w6, w6 = wr.alloc (.cells #[.int .i64 m] 3) := ⟨_, rfl⟩
            have g6 : wr.grownBy w6 none := by rw [hw6]; exact jab _ _
            have hb16 := heap_alloc_new wr (.cells #[.int .i64 m] 3)
            rw [← hw6] at hb16
            have gg := jaa hg g6
            have HG6 := jae g6
            have G6 := jae gg
            have B16 := jae hb16
            obtain ⟨k0, k1, k2⟩ := jal (jad B7.out gg)
            have x1 := jac X1.out gg
            have c16 := jaA hb16
            have c12 := jaA (jad B12.out gg)
            have l1 : (m : Int) < (M : Int) := by omega
            have DV : Hid ((m : Int) / (M : Int) = 0) := Int.ediv_eq_zero_of_lt (Int.natCast_nonneg _) l1
            have M0 : ¬ M = 0 := by omega
            clear hg g6 gg hb16
            go_upto_region 13 with fail
            rw [← hw6]
            clear hw6
            refine wp_region_held_drew (S := fun w' => w6.grownBy w' none) (by kernel_rfl) (jag (jaf _)) (fun hHeld => ?_)
            refine tkE 0 ?_ (hv := by intro wS hSw; go_simp; (try with_reducible rfl))
            try simp only [Act.put]
            refine tkE 1 ?_ (hv := by intro wS hSw; go_simp; (try with_reducible rfl))
            try simp only [Act.put]
            refine tkE 2 ?_ (hv := by intro wS hSw; go_simp; (try with_reducible rfl))
            try simp only [Act.put]
            refine tkE 3 ?_ (hv := by intro wS hSw; have c0 := jac k1 hSw; go_simp; (try with_reducible rfl))
            try simp only [Act.put]
            refine tkE 4 ?_ (hv := by intro wS hSw; go_simp; (try with_reducible rfl))
            try simp only [Act.put]
            refine tkE 5 ?_ (hv := by intro wS hSw; have c0 := jac x1 hSw; go_simp; (try with_reducible rfl))
            try simp only [Act.put]
            refine wpAnyH_take (i := 6) (v := .int .i64 0) rfl (by kernel_rfl) (by kernel_rfl) (by kernel_rfl) (fun _ _ _ h => h) (Or.inl ⟨by kernel_rfl, ?_⟩) (by assumption) ?_
            ·(intro wS hSw; go_simp; (try rfl))
            try simp only [Act.put]
            refine tkE 7 ?_ (hv := by intro wS hSw; have c0 := jac c16 hSw; go_simp; (try with_reducible rfl))
            try simp only [Act.put]
            refine tkE 8 ?_ (hv := by intro wS hSw; go_simp; (try with_reducible rfl))
            try simp only [Act.put]
            refine wpAnyH_take (i := 9) (v := .int .i64 0) rfl (by kernel_rfl) (by kernel_rfl) (by kernel_rfl) (fun _ _ _ h => h) (Or.inl ⟨by kernel_rfl, ?_⟩) (by assumption) ?_
            ·(intro wS hSw; go_simp; rw [DV.out]; (try rfl))
            try simp only [Act.put]
            refine tkE 10 ?_ (hv := by intro wS hSw; have c0 := jac c12 hSw; go_simp; (try with_reducible rfl))
            try simp only [Act.put]
            refine wpAnyH_take (i := 11) (v := .int .i64 0) rfl (by kernel_rfl) (by kernel_rfl) (by kernel_rfl) (fun _ _ _ h => h) (Or.inl ⟨by kernel_rfl, ?_⟩) (by assumption) ?_
            ·(intro wS hSw; go_simp; (try rfl))
            try simp only [Act.put]
            refine wpAnyH_take (i := 12) (v := .int .i64 0) rfl (by kernel_rfl) (by kernel_rfl) (by kernel_rfl) (fun _ _ _ h => h) (Or.inl ⟨by kernel_rfl, ?_⟩) (by assumption) ?_
            ·(intro wS hSw; go_simp; (try rfl))
            try simp only [Act.put]
            refine wpAnyH_take (i := 13) (v := .slice (some ⟨B1, 0, none⟩) C C) rfl (by kernel_rfl) (by kernel_rfl) (by kernel_rfl) (fun _ _ _ h => h) (Or.inl ⟨by kernel_rfl, ?_⟩) (by assumption) ?_
            ·(intro wS hSw; go_simp; (try rfl))
            try simp only [Act.put]
            refine tkE 14 ?_ (hv := by intro wS hSw; have c0 := jac c12 hSw; go_simp; (try with_reducible rfl))
            try simp only [Act.put]
            refine wpAnyH_take (i := 15) (v := .slice (some ⟨B1, 0, none⟩) C C) rfl (by kernel_rfl) (by kernel_rfl) (by kernel_rfl) (fun _ _ _ h => h) (Or.inl ⟨by kernel_rfl, ?_⟩) (by assumption) ?_
            ·(intro wS hSw; go_simp; (try rfl))
            try simp only [Act.put]
            refine rdA 16 fun K hK => ?_
            go_simp
            have h17 := heap_alloc_new w6 (.cells #[.slice none 0 0] 85)
            replace h17 : (w6.alloc (.cells #[.slice none 0 0] 85)).drew.heap[w6.heap.size]? = some (.cells #[.slice none 0 0] 85 (0, 0)) := h17
            have g7 : w6.grownBy (w6.alloc (.cells #[.slice none 0 0] 85)).drew none := jag (jab _ _)
            generalize (w6.alloc (.cells #[.slice none 0 0] 85)).drew = w7 at h17 g7 ⊢
            refine hK.out _ _ (g7) (fun hHeld => ?_)
            clear hK K
            try simp only [Act.put]
            have c17 := jaA h17
            have f17 := jbd h17 0
            refine rdA 17 fun K hK => ?_
            go_simp
            have x8 : w7.grownBy (w7.setCell ⟨w6.heap.size, 0, none⟩ (.slice (some ⟨B1, 0, none⟩) C C)) (some w6.heap.size) := jbm _ _ _ _
            have s8 : (w7.setCell ⟨w6.heap.size, 0, none⟩ (.slice (some ⟨B1, 0, none⟩) C C)).heap[w6.heap.size]? = some (.cells #[.slice (some ⟨B1, 0, none⟩) C C] 85 (0, 0)) := Boxed.set (v := .slice none 0 0) _ h17
            have g8 := jah g7 x8 (fun r e => by cases e; exact Nat.le_refl _)
            generalize w7.setCell ⟨w6.heap.size, 0, none⟩ (.slice (some ⟨B1, 0, none⟩) C C) = w8 at x8 s8 g8 ⊢
            refine hK.out _ _ (g8) (fun hHeld => ?_)
            clear hK K
            try simp only [Act.put]
            refine wpAnyH_done (by kernel_rfl) ?_ _
            have gg8 := jaa G6.out g8
            have G8 := jae gg8
            have EC : Hid (Calls Tryz.prog 57 #[.agg #[.int .i64 H, .int .i64 kh, .int .i64 1, .int .i64 1, .int .i64 0, .int .i64 W, .int .i64 kw, .int .i64 1, .int .i64 1, .int .i64 0], .slice (some ⟨bd, od, none⟩) 4 dc, .func (.func 58) #[] #[.pointer (some ⟨w6.heap.size, 0, none⟩), .pointer (some ⟨b10, 0, none⟩), .pointer (some ⟨wr.heap.size, 0, none⟩), .pointer (some ⟨w3.heap.size, 0, none⟩)]] w8 fun e w' => ∃ s : Sl, e = .returned (.slice s.a s.n s.c) ∧ jaI w' w8.heap.size s.v (jbG (fun h v => jcg (jbp xs (H * W) C) (jcD ys (kh * kw) C m) (wpl W kh kw h v) C) oh ow) ∧ w8.grownBy w' none) := by
             obtain ⟨N2, hN2⟩ : ∃ N2, N = m * C + N2 := ⟨N - m * C, by have h9 := Nat.mul_le_mul_right C hm; have h8 := HN.out; omega⟩
             have hC2 : C ≤ N2 := by have h9 := Nat.mul_le_mul_right C hlt; rw [Nat.succ_mul] at h9; have h8 := HN.out; omega
             have hsO := HS.out
             have hsK := HSK.out
             have hlX := HLX.out
             have hlY := HLY.out
             have hRR1 := R1.out
             have hRR2 := R2.out
             have hB10 := B10.out
             rw [hsO] at hlX hRR1
             rw [hsK] at hlY hRR2
             rw [HN.out] at hlY hRR2
             rw [hN2] at hB10
             exact jlG H kh W kw oh ow (fun h v => jcg (jbp xs (H * W) C) (jcD ys (kh * kw) C m) (wpl W kh kw h v) C) ⟨some ⟨bd, od, none⟩, 4, dc⟩ [1, (M : Int), oh, ow] w6.heap.size b10 wr.heap.size w3.heap.size w8 (HD.out.more (jaa G04.out gg8)) rfl rfl rfl (Nat.le_trans HO3.out S3) (by omega) (by omega) (fun h v => jdI _ _ _ _) (fun wx p1 p2 p3 h v hx hh hv hp => jlM H kh W kw p1 p2 p3 h v _ _ _ _ B1 B2 C m (m * C) N2 q1 ((q2.drop (m * C)).take C) (jbp xs (H * W) C) (jcD ys (kh * kw) C m) wx (jad s8 hx) (jad hB10 (jaa gg8 hx)) (jad B16.out (jaa g8 hx)) (jad B12.out (jaa gg8 hx)) hp (by omega) (by omega) hW3 hH3 (hsO ▸ S3) (hsK ▸ s3) (hsO ▸ S1) (hsK ▸ s1') (hRR1.more (jaa gg8 hx)) ((hRR2.more (jaa gg8 hx)).part hlt) (jce _ _ _) (jdJ _ _ _ _) (jjL hlX) (jjM hlY hlt) rfl C1 hC2 (hN2 ▸ N3))
            have ELN := jae (jdr (fun h v => jcg (jbp xs (H * W) C) (jcD ys (kh * kw) C m) (wpl W kh kw h v) C) oh ow)
            have ERN : Hid (∀ z ∈ jbG (fun h v => jcg (jbp xs (H * W) C) (jcD ys (kh * kw) C m) (wpl W kh kw h v) C) oh ow, -9223372036854775808 ≤ z ∧ z ≤ 9223372036854775807) := fun z hz => by rw [← jdS] at hz; exact jdG (fun h v => jdI _ _ _ _) ow oh 0 z hz
            have PST := jae (jfz xs ys H W kh kw oh ow C m)
            have OWN8 : Hid (∀ wx, w8.grownBy wx none → jaI wx w4.heap.size (.slice ea T ec) (jcd xs ys H W kh kw oh ow C m)) := fun wx hx => HO.out.more (jaa (jaa HG6.out g8) hx) (by cases (Value.slice ea T ec).ownBlock <;> simp)
            obtain ⟨j0, j1, j2, j3, j4, j5, j6, j7, j8, j9⟩ := jdF (H := H) (kh := kh) (W := W) (kw := kw) (jad B11.out gg8)
            have hmf : ∀ (fn : Fn) (first cap : Array Value) (w : World), (Instr.makeFunc fn first cap).run Tryz.prog w = .ok (.func fn first cap) w := fun _ _ _ _ => rfl
            have OO1 : Hid (1 ≤ oh * ow) := Nat.mul_le_mul o1 o2
            have DL : Hid (T + oh * ow ≤ 65536) := by
             show _ ≤ _
             have h5 := Nat.mul_le_mul_right (oh * ow) hlt
             rw [Nat.succ_mul] at h5
             have h6 := HBO.out
             have h7 := HTT.out
             omega
            have LN : Hid ((jcd xs ys H W kh kw oh ow C m).length = T) := by show _ = _; rw [je6]; exact HTT.out.symm
            obtain ⟨E, hE⟩ : ∃ E, E = jbG (fun h v => jcg (jbp xs (H * W) C) (jcD ys (kh * kw) C m) (wpl W kh kw h v) C) oh ow := ⟨_, rfl⟩
            rw [← hE] at EC ELN ERN PST
            clear k0 k1 k2 x1 c16 c12 c17 f17 h17 g7 x8 s8 g8 gg8 hHeld hE
            go_simp
            go_wp2_with fail
            clear j0 j1 j2 j3 j4 j5 j6 j7 j8 j9
            refine EC.out.mono ?_
            rintro e w9 ⟨⟨ua', un', uc'⟩, rfl, hO9, hg9⟩
            obtain ⟨ug, ⟨uc3, eu⟩, hu2, hu3⟩ := jdn hO9 (by rw [ELN.out]; exact OO1.out)
            rw [ELN.out] at eu
            simp only [Sl.v, Value.slice.injEq] at eu
            obtain ⟨rfl, rfl, rfl⟩ := eu
            have G9 := jae (jaa G8.out hg9)
            have OW9 : Hid (w9.ownsRow w4.heap.size 2 1 (.slice ea T ec) T ((jcd xs ys H W kh kw oh ow C m).map (Value.int .i64))) := jc3 (OWN8.out w9 hg9) LN.out
            have sz9 : w4.heap.size ≤ w9.heap.size := G9.out.size
            have HU2 := jae hu2
            have HU3 := jae hu3
            clear hO9 hg9 hu2 hu3 EC hmf
            obtain ⟨OO, hOO⟩ : ∃ OO, OO = oh * ow := ⟨_, rfl⟩
            rw [← hOO] at DL OO1 ELN ⊢
            have HOO := jae hOO
            clear hOO
            have d1 := DL.out
            have d2 := OO1.out
            go_wp2_with (at_builtin; refine wpList_append_lies _ rfl (.tmp 96) (.tmp 97) 23 rfl w4.heap.size 2 i0 (.int .i64 0) 1 8 Tryz.underlying23 hi0 hz0 hz1 hz2 rfl (by decide) (.slice ea T ec) T ((jcd xs ys H W kh kw oh ow C m).map (Value.int .i64)) rfl (by exact OW9.out) ⟨ug, 0, none⟩ OO _ (E.map (Value.int .i64)) rfl (by rw [List.length_map, ELN.out, Nat.mul_one]) HU2.out HU3.out d2 (by simp only [maxLen]; omega) (by omega) sz9 _ rfl ?_; intro gg' cap8 wA hown8 hgrow hat hlt8)
            have ST : Hid (w4.grownBy wA none ∧ jaI wA w4.heap.size (.slice (some ⟨gg', 0, none⟩) (T + OO) cap8) (jcd xs ys H W kh kw oh ow C (m + 1))) := ⟨jah G9.out hgrow (fun r e => (World.ownsRow.lt OW9.out r e).1), by rw [PST.out]; exact jeY LN.out ELN.out hown8 (by omega) (jlL xs ys H W kh kw oh ow C m) ERN.out⟩
            have TT1 : Hid (T + OO = (m + 1) * (oh * ow)) := by show _ = _; rw [Nat.add_mul, ← HTT.out, HOO.out, Nat.one_mul]
            clear hown8 hgrow hat hlt8
            go_wp2_with fail
            go_roundg (M - (m + 1))
            case measure => omega
            case rel => exact ⟨ST.out.1, m + 1, T + OO, _, _, rfl, by omega, TT1.out, by go_num, rfl, ST.out.2⟩
           ·obtain rfl : m = M := by omega
            clear hg
            go_wp2_with fail
            go_roundg 0
            case measure => omega
            case rel => exact ⟨HG2.out, .inr ⟨rfl, rfl, ⟨_, _, _⟩, rfl, HO.out⟩⟩
         ·have HO := jae ho
          have HG := jae hg
          clear ho hg
          go_wp2
          go_ret
          exact ⟨⟨_, _, _⟩, rfl, ⟨jbD HO.out.1 G04.out.size, HO.out.2⟩, jaa G04.out HG.out⟩
end Go.Proofs.YtkefdkboejimeaaGreatDoor
namespace Go.Proofs.YtkefdkboejimeaaGreatDoor
open Go.RowKit
theorem jnN (n : Nod) (A : At) (hop : n.op = ⟨#[77, 97, 120, 80, 111, 111, 108]⟩) (u : Sl) (T0 : Ten) (D0 D1 H W kh kw oh ow N : Nat) (xs : List Int) (nam0 : ByteArray) (vty : Int) (dv : Sl) (w : World) (hno : NodeOk w n A) (hv : TensIn w u.v [(T0, ([(D0 : Int), D1, H, W], xs))]) (hd : IsInts w dv.v [(D0 : Int), D1, oh, ow]) (hker : A.ints ⟨#[107, 101, 114, 110, 101, 108, 95, 115, 104, 97, 112, 101]⟩ [(H : Int), W] = [(kh : Int), kw]) (hs : A.ints ⟨#[115, 116, 114, 105, 100, 101, 115]⟩ [1, 1] = [1, 1]) (hl : A.ints ⟨#[100, 105, 108, 97, 116, 105, 111, 110, 115]⟩ [1, 1] = [1, 1]) (hp : A.ints ⟨#[112, 97, 100, 115]⟩ [0, 0, 0, 0] = [0, 0, 0, 0]) (hN : N = D0 * D1) (hxl : xs.length = N * (H * W)) (n1 : 1 ≤ N) (e1 : oh + kh = H + 1) (e2 : ow + kw = W + 1) (k1 : 1 ≤ kh) (k2 : 1 ≤ kw) (o1 : 1 ≤ oh) (o2 : 1 ≤ ow) (hb : xs.length ≤ 65536) :
    Calls Tryz.prog 15 #[jaL n, .slice u.a u.n u.c, .agg #[.string nam0, .int .i64 vty, .slice dv.a dv.n dv.c]] w (EvQ w (.ok (jcy (jbE 1) xs N H W kh kw oh ow))) := by
     obtain ⟨za, zn, zc⟩ := dv
     obtain ⟨xa, xc, ef, p1, p2, p3⟩ := hv.vals.form
     obtain ⟨ua, un, uc⟩ := u
     simp only [Sl.v, List.map_cons, List.map_nil, List.length_cons, List.length_nil, Value.slice.injEq] at ef
     obtain ⟨rfl, rfl, rfl⟩ := ef
     obtain ⟨ub, uo, rfl⟩ := hv.vals.addr (k := 0) (by simp)
     obtain ⟨t0, t1, t2⟩ := hv.at 0 (by simp)
     have HH0 := jae (hv.has (T0, ([(D0 : Int), D1, H, W], xs)) (by simp))
     obtain ⟨tx, ⟨xda, xdn, xdc⟩, ⟨xta, xtn, xtc⟩⟩ := T0
     simp only [List.getElem_cons_zero, Nat.zero_mul, Nat.add_zero] at t0 t1 t2 HH0
     have EC : Hid (∀ wx : World, w.grownBy wx none → Calls Tryz.prog 26 #[jaL n, .agg #[.int .i64 tx, .slice xda xdn xdc, .slice xta xtn xtc], .slice za zn zc, .func (.func 27) #[] #[]] wx fun e w' => ∃ s : Sl, e = .returned (.slice s.a s.n s.c) ∧ jaI w' wx.heap.size s.v (jcy (jbE 1) xs N H W kh kw oh ow) ∧ wx.grownBy w' none) := fun wx hx => jjK n A ⟨tx, ⟨xda, xdn, xdc⟩, ⟨xta, xtn, xtc⟩⟩ D0 D1 H W kh kw oh ow N ⟨za, zn, zc⟩ xs wx (hno.more hx) (HH0.out.1.more hx) (HH0.out.2.more hx) (hd.more hx) hker hs hl hp hN hxl n1 e1 e2 k1 k2 o1 o2 hb
     obtain ⟨R0, hR0⟩ : ∃ R0, R0 = jcy (jbE 1) xs N H W kh kw oh ow := ⟨_, rfl⟩
     simp only
     rw [← hR0] at EC ⊢
     obtain ⟨op, nam, ⟨ia, il, ic⟩, out, ⟨ao, al, cap⟩⟩ := n
     simp only at hop
     subst hop
     unfold jaL at EC ⊢
     simp only at EC ⊢
     obtain ⟨w0, hw0⟩ : ∃ w0, w0 = (w.alloc (.cells #[.string ⟨#[77, 97, 120, 80, 111, 111, 108]⟩, .string nam, .slice ia il ic, .string out, .slice ao al cap] 35)).alloc (.cells #[.string nam0, .int .i64 vty, .slice za zn zc] 53) := ⟨_, rfl⟩
     have g0 : w.grownBy w0 none := by rw [hw0]; exact jaa (jab _ _) (jab _ _)
     have hbx := jax w (.cells #[.string ⟨#[77, 97, 120, 80, 111, 111, 108]⟩, .string nam, .slice ia il ic, .string out, .slice ao al cap] 35) (.cells #[.string nam0, .int .i64 vty, .slice za zn zc] 53)
     rw [← hw0] at hbx
     obtain ⟨n0, n1', n2, n3, n4⟩ := jai (n := ⟨⟨#[77, 97, 120, 80, 111, 111, 108]⟩, nam, ⟨ia, il, ic⟩, out, ⟨ao, al, cap⟩⟩) hbx.1
     obtain ⟨v0, v1, v2⟩ := jal hbx.2
     have t0 := jac t0 g0
     have t1 := jac t1 g0
     have t2 := jac t2 g0
     have G0 := jae g0
     clear hbx hv hno hd hker hs hl hp hN hxl n1 e1 e2 k1 k2 o1 o2 hb g0 p1 p2 p3 hR0 HH0 v0 v1
     rw [hw0] at n0
     go_enter Tryz.func15, Tryz.ntmps15
     go_upto_region 5 with fail
     rw [← hw0]
     rw [← hw0] at n0
     clear hw0
     refine wp_region_held_drew (S := fun w' => w0.grownBy w' none) (by kernel_rfl) (jag (jaf _)) (fun hHeld => ?_)
     refine tkE 0 ?_ (hv := by intro wS hSw; have c0 := jac n0 hSw; have c1 := jac n1' hSw; have c2 := jac n2 hSw; have c3 := jac n3 hSw; have c4 := jac n4 hSw; go_simp; (try with_reducible rfl))
     try simp only [Act.put]
     refine tkE 1 ?_ (hv := by intro wS hSw; go_simp; (try with_reducible rfl))
     try simp only [Act.put]
     refine tkE 2 ?_ (hv := by intro wS hSw; go_simp; (try with_reducible rfl))
     try simp only [Act.put]
     refine tkE 3 ?_ (hv := by intro wS hSw; have c0 := jac t0 hSw; have c1 := jac t1 hSw; have c2 := jac t2 hSw; go_simp; (try with_reducible rfl))
     try simp only [Act.put]
     refine tkE 4 ?_ (hv := by intro wS hSw; go_simp; (try with_reducible rfl))
     try simp only [Act.put]
     refine tkE 5 ?_ (hv := by intro wS hSw; have c0 := jac v2 hSw; go_simp; (try with_reducible rfl))
     try simp only [Act.put]
     refine rdA 6 fun K hK => ?_
     go_simp
     refine (EC.out _ (jaa G0.out (jag (jaf _)))).mono ?_
     rintro e w2 ⟨⟨sa, sn, sc⟩, rfl, os, hg2⟩
     have g2 : w0.grownBy w2 none := ⟨hg2.os, hg2.tape, hg2.output, hg2.size, hg2.block⟩
     refine hK.out _ _ (g2) (fun hHeld => ?_)
     clear hK K
     try simp only
     refine tkE 7 ?_ (hv := by intro wS hSw; go_simp; (try with_reducible rfl))
     try simp only [Act.put]
     refine tkE 8 ?_ (hv := by intro wS hSw; go_simp; (try with_reducible rfl))
     try simp only [Act.put]
     refine wpAnyH_done (by kernel_rfl) ?_ _
     have hz := G0.out.size
     have OS := jae (show jaI w2 w.heap.size (Sl.v ⟨sa, sn, sc⟩) R0 from ⟨jbD os.1 hz, os.2⟩)
     have G2 := jae (jaa G0.out g2)
     clear os hg2 g2 hz
     go_simp
     go_wp2
     go_ret2
     exact ⟨G2.out, ⟨sa, sn, sc⟩, rfl, OS.out⟩
end Go.Proofs.YtkefdkboejimeaaGreatDoor
