/- A part. -/
import Derived.Test.YtkefdkboejimeaaGreatDoorMini
import Derived.Test.YtkefdkboejimeaaGreatDoorMini2
import Derived.Test.YtkefdkboejimeaaGreatDoorPartBM
import Derived.Test.YtkefdkboejimeaaGreatDoorPartBL
import Derived.Test.YtkefdkboejimeaaGreatDoorPartBG
import Derived.Laws.EntriesVeiled
import Derived.Deep.CutRange
set_option maxHeartbeats 8000000
set_option maxRecDepth 100000
namespace Go.Proofs.YtkefdkboejimeaaGreatDoor
open Go.RowKit
theorem jg6 (w : World) (o o' o'' : Obj) : (((w.alloc o).alloc o').alloc o'').heap[w.heap.size]? = some o ∧ (((w.alloc o).alloc o').alloc o'').heap[w.heap.size + 1]? = some o' ∧ (((w.alloc o).alloc o').alloc o'').heap[w.heap.size + 1 + 1]? = some o'' := by
 have h := jax w o o'
 refine ⟨jad h.1 (jab _ _), jad h.2 (jab _ _), ?_⟩
 have h3 := heap_alloc_new ((w.alloc o).alloc o') o''
 simpa using h3
theorem jem {w : World} {B : Nat} {te : TypeId} {a b : Int} (h : w.heap[B]? = some (.cells #[.int .i64 a, .int .i64 b] te (0, 0))) (ha : -9223372036854775808 ≤ a ∧ a ≤ 9223372036854775807) (hb : -9223372036854775808 ≤ b ∧ b ≤ 9223372036854775807) : IsInts w (.slice (some ⟨B, 0, none⟩) 2 2) [a, b] := by
 refine ⟨_, 2, rfl, by simp, by decide, by simp, (fun e => by cases e), fun _ => ⟨B, 0, rfl, fun t ht => ?_⟩, fun z hz => ?_⟩
 ·rw [Nat.zero_add, cell_of_row w B t _ _ (0, 0) h]
  match t, ht with
  | 0, _ => rfl
  | 1, _ => rfl
 ·simp only [List.mem_cons, List.not_mem_nil, or_false] at hz
  rcases hz with rfl | rfl
  ·exact ha
  ·exact hb
theorem jlJ {f : List Int → Int} (hf : ∀ ys : List Int, (∀ y ∈ ys, Rng y) → Rng (f ys)) {xs : List Int} (hx : ∀ z ∈ xs, Rng z) (n H W kh kw oh ow : Nat) : ∀ z ∈ jcy f xs n H W kh kw oh ow, -9223372036854775808 ≤ z ∧ z ≤ 9223372036854775807 := by
 intro z hz
 unfold jcy at hz
 obtain ⟨i, -, hz⟩ := List.mem_flatMap.1 hz
 unfold jbG at hz
 obtain ⟨a, -, hz⟩ := List.mem_flatMap.1 hz
 obtain ⟨b, -, rfl⟩ := List.mem_map.1 hz
 refine hf _ fun y hy => ?_
 unfold jhv at hy
 obtain ⟨p, -, rfl⟩ := List.mem_map.1 hy
 by_cases hp : p.2 < (jdT xs (H * W) i).length
 ·rw [List.getD, List.getElem?_eq_getElem hp, Option.getD_some]
  exact hx _ (jki _ (List.getElem_mem _))
 ·rw [List.getD, List.getElem?_eq_none (by omega)]
  exact jof
theorem jlK {f : List Int → Int} (hf : ∀ ys : List Int, (∀ y ∈ ys, Rng y) → Rng (f ys)) {img : List Int} (hx : ∀ z ∈ img, Rng z) (W kh kw h v : Nat) : Rng (f (jhv img W kh kw h v)) := by
 refine hf _ fun y hy => ?_
 unfold jhv at hy
 obtain ⟨p, -, rfl⟩ := List.mem_map.1 hy
 by_cases hp : p.2 < img.length
 ·rw [List.getD, List.getElem?_eq_getElem hp, Option.getD_some]
  exact hx _ (List.getElem_mem _)
 ·rw [List.getD, List.getElem?_eq_none (by omega)]
  exact jof
theorem jjK (n : Nod) (A : At) (X : Ten) (D0 D1 H W kh kw oh ow N : Nat) (dv : Sl) (xs : List Int) (w : World) (hn : NodeOk w n A) (hx : IsInts w X.dv.v [(D0 : Int), D1, H, W]) (hxs : IsInts w X.tv.v xs) (hd : IsInts w dv.v [(D0 : Int), D1, oh, ow]) (hker : A.ints ⟨#[107, 101, 114, 110, 101, 108, 95, 115, 104, 97, 112, 101]⟩ [(H : Int), W] = [(kh : Int), kw]) (hs : A.ints ⟨#[115, 116, 114, 105, 100, 101, 115]⟩ [1, 1] = [1, 1]) (hl : A.ints ⟨#[100, 105, 108, 97, 116, 105, 111, 110, 115]⟩ [1, 1] = [1, 1]) (hp : A.ints ⟨#[112, 97, 100, 115]⟩ [0, 0, 0, 0] = [0, 0, 0, 0]) (hN : N = D0 * D1) (hxl : xs.length = N * (H * W)) (n1 : 1 ≤ N) (e1 : oh + kh = H + 1) (e2 : ow + kw = W + 1) (k1 : 1 ≤ kh) (k2 : 1 ≤ kw) (o1 : 1 ≤ oh) (o2 : 1 ≤ ow) (hb : xs.length ≤ 65536) :
    Calls Tryz.prog 26 #[jaL n, .agg #[.int .i64 X.ty, .slice X.dv.a X.dv.n X.dv.c, .slice X.tv.a X.tv.n X.tv.c], .slice dv.a dv.n dv.c, .func (.func 27) #[] #[]] w fun e w' => ∃ s : Sl, e = .returned (.slice s.a s.n s.c) ∧ jaI w' w.heap.size s.v (jcy (jbE 1) xs N H W kh kw oh ow) ∧ w.grownBy w' none := by
     obtain ⟨i0, hi0, hz0, hz1, hz2⟩ := info_parts jdk
     have hH1 : 1 ≤ H := by omega
     have hW1 : 1 ≤ W := by omega
     have S1 : 1 ≤ H * W := Nat.mul_le_mul hH1 hW1
     have S3 : H * W ≤ 65536 := by rw [hxl] at hb; exact Nat.le_trans (Nat.le_mul_of_pos_left _ n1) hb
     have hN3 : N ≤ 65536 := by rw [hxl] at hb; exact Nat.le_trans (Nat.le_mul_of_pos_right _ S1) hb
     have hH3 : H ≤ 65536 := Nat.le_trans (Nat.le_mul_of_pos_right _ hW1) S3
     have hW3 : W ≤ 65536 := Nat.le_trans (Nat.le_mul_of_pos_left _ hH1) S3
     have K3 : kh * kw ≤ 65536 := Nat.le_trans (Nat.mul_le_mul (by omega) (by omega)) S3
     have O3 : oh * ow ≤ H * W := Nat.mul_le_mul (by omega) (by omega)
     have NO : N * (oh * ow) ≤ 65536 := Nat.le_trans (Nat.mul_le_mul_left _ O3) (by omega)
     obtain ⟨ty, ⟨da, dn, dc⟩, ⟨ta, tn, tc⟩⟩ := X
     obtain ⟨oa, on, oc⟩ := dv
     have II := jae (fun wx (hg : w.grownBy wx none) => jd2 ⟨ty, ⟨da, dn, dc⟩, ⟨ta, tn, tc⟩⟩ D0 D1 H W N (H * W) xs wx (hx.more hg) (hxs.more hg) hN rfl hxl n1 S1 hb)
     have KI : Hid (∀ (wx : World) (B : Nat), w.grownBy wx none → wx.heap[B]? = some (.cells #[.int .i64 H, .int .i64 W] 2 (0, 0)) → Calls Tryz.prog 61 #[jaL n, .string ⟨#[107, 101, 114, 110, 101, 108, 95, 115, 104, 97, 112, 101]⟩, .slice (some ⟨B, 0, none⟩) 2 2] wx fun e w' => ∃ u : Sl, e = .returned u.v ∧ IsInts w' u.v [(kh : Int), kw] ∧ wx.grownBy w' none) := fun wx B hg hB => by
      have h := jca n A ⟨#[107, 101, 114, 110, 101, 108, 95, 115, 104, 97, 112, 101]⟩ ⟨some ⟨B, 0, none⟩, 2, 2⟩ [(H : Int), W] wx (hn.more hg) (jem hB (by omega) (by omega))
      rw [hker] at h
      exact h
     have WI : Hid (∀ (wx : World) (u : Sl), w.grownBy wx none → IsInts wx u.v [(kh : Int), kw] → Calls Tryz.prog 55 #[jaL n, .slice da dn dc, .slice u.a u.n u.c] wx fun e w' => e = .returned (.agg #[.int .i64 H, .int .i64 kh, .int .i64 1, .int .i64 1, .int .i64 0, .int .i64 W, .int .i64 kw, .int .i64 1, .int .i64 1, .int .i64 0]) ∧ wx.grownBy w' none) := fun wx u hg hu => jdH n A ⟨da, dn, dc⟩ u D0 D1 H W kh kw wx (hn.more hg) (hx.more hg) hu hs hl hp
     have XR : ∀ z ∈ xs, Rng z := hxs.wf
     have HXR := jae XR
     have HD := jae hd
     obtain ⟨_, _, ed, s1, s2, s3⟩ := hx.sl
     simp only [Sl.v, Value.slice.injEq, List.length_cons, List.length_nil, Nat.zero_add, Nat.reduceAdd] at ed hx
     obtain ⟨rfl, rfl, rfl⟩ := ed
     obtain ⟨bd, od, rfl⟩ := jaM hx (by simp)
     have x2 := jaC hx (k := 2) (by simp)
     have x3 := jaC hx (k := 3) (by simp)
     simp only [List.getD_cons_zero, List.getD_cons_succ] at x2 x3
     obtain ⟨w0, hw0⟩ : ∃ w0, w0 = ((w.alloc (.cells #[.string n.op, .string n.name, .slice n.iv.a n.iv.n n.iv.c, .string n.out, .slice n.av.a n.av.n n.av.c] 35)).alloc (.cells #[.int .i64 ty, .slice (some ⟨bd, od, none⟩) 4 dc, .slice ta tn tc] 25)).alloc (.cells #[.func (.func 27) #[] #[]] 99) := ⟨_, rfl⟩
     have g0 : w.grownBy w0 none := by rw [hw0]; exact jaa (jab _ _) (jaa (jab _ _) (jab _ _))
     have hbx := jg6 w (.cells #[.string n.op, .string n.name, .slice n.iv.a n.iv.n n.iv.c, .string n.out, .slice n.av.a n.av.n n.av.c] 35) (.cells #[.int .i64 ty, .slice (some ⟨bd, od, none⟩) 4 dc, .slice ta tn tc] 25) (.cells #[.func (.func 27) #[] #[]] 99)
     rw [← hw0] at hbx
     obtain ⟨op, nam, ⟨ia, il, ic⟩, out, ⟨ao, al, cap⟩⟩ := n
     unfold jaL at KI WI ⊢
     simp only at KI WI II hbx hw0 ⊢
     have BT := jae hbx.2.1
     have BN := jae hbx.1
     have BF := jae hbx.2.2
     obtain ⟨n0, n1', n2, n3, n4⟩ := jai (n := ⟨op, nam, ⟨ia, il, ic⟩, out, ⟨ao, al, cap⟩⟩) hbx.1
     obtain ⟨t0, t1, t2⟩ := jal hbx.2.1
     have y2 := jac x2 g0
     have y3 := jac x3 g0
     have G0 := jae g0
     have HNO := jae NO
     have XLEN := jae hxl
     have HO3 := jae O3
     clear hn hx hxs hd hker hs hl hp hN hxl hbx g0 x2 x3 XR s1 s2 s3 hb NO O3
     go_enter Tryz.func26, Tryz.ntmps26
     go_upto_region 1 with fail
     rw [← hw0]
     clear hw0
     refine wp_region_held_drew (S := fun w' => w0.grownBy w' none) (by kernel_rfl) (jag (jaf _)) (fun hHeld => ?_)
     refine tkE 0 ?_ (hv := by intro wS hSw; have c0 := jac n0 hSw; have c1 := jac n1' hSw; have c2 := jac n2 hSw; have c3 := jac n3 hSw; have c4 := jac n4 hSw; go_simp; (try with_reducible rfl))
     try simp only [Act.put]
     refine tkE 1 ?_ (hv := by intro wS hSw; go_simp; (try with_reducible rfl))
     try simp only [Act.put]
     refine tkE 2 ?_ (hv := by intro wS hSw; have c0 := jac t1 hSw; go_simp; (try with_reducible rfl))
     try simp only [Act.put]
     refine tkE 3 ?_ (hv := by intro wS hSw; go_simp; (try with_reducible rfl))
     try simp only [Act.put]
     refine tkE 4 ?_ (hv := by intro wS hSw; have c0 := jac y2 hSw; go_simp; (try with_reducible rfl))
     try simp only [Act.put]
     refine tkE 5 ?_ (hv := by intro wS hSw; go_simp; (try with_reducible rfl))
     try simp only [Act.put]
     refine tkE 6 ?_ (hv := by intro wS hSw; have c0 := jac t1 hSw; go_simp; (try with_reducible rfl))
     try simp only [Act.put]
     refine tkE 7 ?_ (hv := by intro wS hSw; go_simp; (try with_reducible rfl))
     try simp only [Act.put]
     refine tkE 8 ?_ (hv := by intro wS hSw; have c0 := jac y3 hSw; go_simp; (try with_reducible rfl))
     try simp only [Act.put]
     refine rdA 9 fun K hK => ?_
     go_simp
     have hB := heap_alloc_new w0 (.cells #[.int .i64 H, .int .i64 W] 2)
     have g1 : w0.grownBy (w0.alloc (.cells #[.int .i64 H, .int .i64 W] 2)).drew none := jag (jab _ _)
     replace hB : (w0.alloc (.cells #[.int .i64 H, .int .i64 W] 2)).drew.heap[w0.heap.size]? = some (.cells #[.int .i64 H, .int .i64 W] 2 (0, 0)) := hB
     generalize hv : (w0.alloc (.cells #[.int .i64 H, .int .i64 W] 2)).drew = w1 at g1 hB ⊢
     refine hK.out _ _ (g1) (fun hHeld => ?_)
     clear hK K
     try simp only [Act.put]
     refine rdA 10 fun K hK => ?_
     go_simp
     refine (KI.out w1 _ (jaa G0.out g1) hB).mono ?_
     rintro e w2 ⟨⟨ua, un, uc⟩, rfl, iu, hg2⟩
     have g2 := jaa g1 hg2
     simp only [Sl.v] at iu ⊢
     refine hK.out _ _ (g2) (fun hHeld => ?_)
     clear hK K
     try simp only [Act.put]
     refine tkE 11 ?_ (hv := by intro wS hSw; go_simp; (try with_reducible rfl))
     try simp only [Act.put]
     refine wpAnyH_done (by kernel_rfl) ?_ _
     have IU := jae iu
     have G2 := jae g2
     have WC := jae (WI.out w2 ⟨ua, un, uc⟩ (jaa G0.out g2) iu)
     obtain ⟨m0, m1, m2, m3, m4⟩ := jai (n := ⟨op, nam, ⟨ia, il, ic⟩, out, ⟨ao, al, cap⟩⟩) (jad BN.out g2)
     obtain ⟨v0, v1, v2⟩ := jal (jad BT.out g2)
     clear iu g1 g2 hg2 hB hv n0 n1' n2 n3 n4 t0 t1 t2 y2 y3 hHeld
     go_simp
     go_wp2_with fail
     clear m0 m1 m2 m3 m4 v0 v1 v2
     refine WC.out.mono ?_
     rintro e w3 ⟨rfl, hg3⟩
     obtain ⟨w4, hw4⟩ : ∃ w4, w4 = w3.alloc (.cells #[.int .i64 H, .int .i64 kh, .int .i64 1, .int .i64 1, .int .i64 0, .int .i64 W, .int .i64 kw, .int .i64 1, .int .i64 1, .int .i64 0] 90) := ⟨_, rfl⟩
     have hb4 := heap_alloc_new w3 (.cells #[.int .i64 H, .int .i64 kh, .int .i64 1, .int .i64 1, .int .i64 0, .int .i64 W, .int .i64 kw, .int .i64 1, .int .i64 1, .int .i64 0] 90)
     have g34 : w3.grownBy w4 none := by rw [hw4]; exact jab _ _
     rw [← hw4] at hb4
     have g4 := jaa G2.out (jaa hg3 g34)
     have IC := jae (II.out w4 (jaa G0.out g4))
     obtain ⟨v0, v1, v2⟩ := jal (jad BT.out g4)
     have G4 := jae g4
     have HB4 := jae hb4
     rw [hw4] at v0 v1 v2
     clear hb4 g34 g4 hg3 WC
     go_wp2_with fail
     rw [← hw4]
     clear v0 v1 v2 hw4
     refine IC.out.mono ?_
     rintro e w5 ⟨B, ss, rfl, hrw, hB5, hg5⟩
     have HRW := jae hrw
     have G5 := jae (jaa G4.out hg5)
     have HB5 := jae (jad HB4.out hg5)
     have BF5 := jae (jad BF.out (jaa G4.out hg5))
     have Z5 := jae (jaa G0.out G5.out).size
     clear hrw hg5 IC
     go_wp2_with fail
     go_loopg [11, 33] N (fun gh d i wr => w5.grownBy wr none ∧ ∃ (t T : Nat) (ea : Option Addr) (ec : Nat), gh = N - t ∧ t ≤ N ∧ T = t * (oh * ow) ∧ i = .int .i64 t ∧ d = .slice ea T ec ∧ jaI wr w5.heap.size (.slice ea T ec) (jcy (jbE 1) xs t H W kh kw oh ow))
     case atStart => exact ⟨jaf _, 0, 0, _, _, rfl, Nat.zero_le _, by simp, rfl, rfl, by simpa [jcy] using jcT (World.ownsRow_nil _ _ _ _)⟩
     case round =>
      obtain ⟨hg, t, T, ea, ec, hgk, ht, hT, rfl, rfl, ho⟩ := hrel
      have HG := jae hg
      have HO := jae ho
      have HTT := jae hT
      by_cases hlt : t < N
      ·have hlI : t < (jbp xs (H * W) N).length := by simp [jbp]; exact hlt
       have rc := (HRW.out.more hg).at' t hlI
       have ri := (HRW.out.more hg).each t hlI
       have LI : (jbp xs (H * W) N).getD t [] = jdT xs (H * W) t := by simp [jbp, List.getD, hlt]
       rw [LI] at ri
       obtain ⟨⟨ra, rn, rcap⟩, hrs⟩ : ∃ s, s = ss.getD t jbQ := ⟨_, rfl⟩
       rw [← hrs] at rc ri
       rw [Nat.zero_add] at rc
       simp only at rc
       have HRI := jae ri
       have ILN : Hid ((jdT xs (H * W) t).length = H * W) := by
        obtain ⟨_, _, er, -⟩ := ri.sl
        show _ = _
        unfold jdT
        have h5 : (t + 1) * (H * W) ≤ N * (H * W) := Nat.mul_le_mul_right _ hlt
        have h6 := XLEN.out
        rw [Nat.add_mul] at h5
        rw [List.length_take, List.length_drop]
        omega
       have l1 : (t : Int) < (N : Int) := by omega
       obtain ⟨w6, hw6⟩ : ∃ w6, w6 = wr.alloc (.cells #[.slice ra rn rcap] 23) := ⟨_, rfl⟩
       have hb6 := heap_alloc_new wr (.cells #[.slice ra rn rcap] 23)
       have g6 : wr.grownBy w6 none := by rw [hw6]; exact jab _ _
       rw [← hw6] at hb6
       have gg6 := jaa hg g6
       have HB6 := jae hb6
       have BF6 := jae (jad BF5.out gg6)
       have IMR : ∀ z ∈ jdT xs (H * W) t, Rng z := fun z hz => HXR.out z (jki z hz)
       have EC : Hid (Calls Tryz.prog 57 #[.agg #[.int .i64 H, .int .i64 kh, .int .i64 1, .int .i64 1, .int .i64 0, .int .i64 W, .int .i64 kw, .int .i64 1, .int .i64 1, .int .i64 0], .slice oa on oc, .func (.func 62) #[] #[.pointer (some ⟨w.heap.size + 1 + 1, 0, none⟩), .pointer (some ⟨wr.heap.size, 0, none⟩)]] w6 fun e w' => ∃ s : Sl, e = .returned (.slice s.a s.n s.c) ∧ jaI w' w6.heap.size s.v (jbG (fun h v => (jbE 1) (jhv (jdT xs (H * W) t) W kh kw h v)) oh ow) ∧ w6.grownBy w' none) := jlF H kh W kw oh ow (fun h v => (jbE 1) (jhv (jdT xs (H * W) t) W kh kw h v)) ⟨oa, on, oc⟩ [(D0 : Int), D1, oh, ow] _ _ w6 (HD.out.more (jaa G0.out (jaa G5.out gg6))) rfl rfl rfl (Nat.le_trans HO3.out S3) (by omega) (by omega) (fun h v => jlK (fun ys h => je4 1 ys h) IMR W kh kw h v) (fun wx p1 p2 p3 h v hx hh hv hp => jlI H kh W kw h v p1 p2 p3 _ _ ⟨ra, rn, rcap⟩ (jdT xs (H * W) t) wx (jad BF6.out hx) (jad HB6.out hx) hp (by omega) (by omega) hW3 hH3 S3 K3 ((HRI.out.more g6).more hx) ILN.out S1)
       have OWN6 : Hid (∀ wx, w6.grownBy wx none → jaI wx w5.heap.size (.slice ea T ec) (jcy (jbE 1) xs t H W kh kw oh ow)) := fun wx hx => HO.out.more (jaa g6 hx) (by cases (Value.slice ea T ec).ownBlock <;> simp)
       have ELN := jae (jdr (fun h v => (jbE 1) (jhv (jdT xs (H * W) t) W kh kw h v)) oh ow)
       have ERN : Hid (∀ z ∈ jbG (fun h v => (jbE 1) (jhv (jdT xs (H * W) t) W kh kw h v)) oh ow, -9223372036854775808 ≤ z ∧ z ≤ 9223372036854775807) := fun z hz => by rw [← jdS] at hz; exact jdG (fun h v => jlK (fun ys h => je4 1 ys h) IMR W kh kw h v) ow oh 0 z hz
       have PST := jae (ji5 (jbE 1) xs t H W kh kw oh ow)
       obtain ⟨q0, q1, q2, q3, q4, q5, q6, q7, q8, q9⟩ := jdF (jad HB5.out gg6)
       rw [hw6] at q0 q1 q2 q3 q4 q5 q6 q7 q8 q9
       obtain ⟨E, hE⟩ : ∃ E, E = jbG (fun h v => (jbE 1) (jhv (jdT xs (H * W) t) W kh kw h v)) oh ow := ⟨_, rfl⟩
       rw [← hE] at EC ELN ERN PST
       have hmf : ∀ (fn : Fn) (first cap : Array Value) (w : World), (Instr.makeFunc fn first cap).run Tryz.prog w = .ok (.func fn first cap) w := fun _ _ _ _ => rfl
       have OO1 : Hid (1 ≤ oh * ow) := Nat.mul_le_mul o1 o2
       have DL : Hid (T + oh * ow ≤ 65536) := by
        show _ ≤ _
        have h5 : (t + 1) * (oh * ow) ≤ N * (oh * ow) := Nat.mul_le_mul_right _ hlt
        rw [Nat.add_mul] at h5
        have h6 := HNO.out
        have h7 := HTT.out
        omega
       have LN : Hid ((jcy (jbE 1) xs t H W kh kw oh ow).length = T) := by show _ = _; rw [jkh]; exact HTT.out.symm
       have G6 := jae gg6
       clear hb6 g6 gg6 hE IMR ri hrs LI hlI hg ho hT
       go_wp2_with fail
       rw [← hw6]
       clear hw6 q0 q1 q2 q3 q4 q5 q6 q7 q8 q9 rc
       refine EC.out.mono ?_
       rintro e w7 ⟨⟨ua', un', uc'⟩, rfl, hO7, hg7⟩
       obtain ⟨ug, ⟨uc3, eu⟩, hu2, hu3⟩ := jdn hO7 (by rw [ELN.out]; exact OO1.out)
       rw [ELN.out] at eu
       simp only [Sl.v, Value.slice.injEq] at eu
       obtain ⟨rfl, rfl, rfl⟩ := eu
       have G7 := jae (jaa G6.out hg7)
       have OW7 : Hid (w7.ownsRow w5.heap.size 2 1 (.slice ea T ec) T ((jcy (jbE 1) xs t H W kh kw oh ow).map (Value.int .i64))) := jc3 (OWN6.out w7 hg7) LN.out
       have sz7 : w5.heap.size ≤ w7.heap.size := G7.out.size
       have HU2 := jae hu2
       have HU3 := jae hu3
       clear hO7 hg7 hu2 hu3 EC hmf
       obtain ⟨OO, hOO⟩ : ∃ OO, OO = oh * ow := ⟨_, rfl⟩
       rw [← hOO] at DL OO1 ELN ⊢
       have HOO := jae hOO
       clear hOO
       have d1 := DL.out
       have d2 := OO1.out
       go_wp2_with (at_builtin; refine wpList_append_lies _ rfl (.tmp 37) (.tmp 41) 23 rfl w5.heap.size 2 i0 (.int .i64 0) 1 8 Tryz.underlying23 hi0 hz0 hz1 hz2 rfl (by decide) (.slice ea T ec) T ((jcy (jbE 1) xs t H W kh kw oh ow).map (Value.int .i64)) rfl (by exact OW7.out) ⟨ug, 0, none⟩ OO _ (E.map (Value.int .i64)) rfl (by rw [List.length_map, ELN.out, Nat.mul_one]) HU2.out HU3.out d2 (by simp only [maxLen]; omega) (by omega) sz7 _ rfl ?_; intro gg cap8 w8 hown8 hgrow hat hlt8)
       have ST : Hid (w5.grownBy w8 none ∧ jaI w8 w5.heap.size (.slice (some ⟨gg, 0, none⟩) (T + OO) cap8) (jcy (jbE 1) xs (t + 1) H W kh kw oh ow)) := ⟨jah G7.out hgrow (fun r e => (World.ownsRow.lt OW7.out r e).1), by rw [PST.out]; exact jeY LN.out ELN.out hown8 (by omega) (jlJ (fun ys h => je4 1 ys h) HXR.out t H W kh kw oh ow) ERN.out⟩
       have TT1 : Hid (T + OO = (t + 1) * (oh * ow)) := by show _ = _; rw [Nat.add_mul, ← HTT.out, HOO.out, Nat.one_mul]
       clear hown8 hgrow hat hlt8
       go_wp2_with fail
       go_roundg (N - (t + 1))
       case measure => omega
       case rel => exact ⟨ST.out.1, t + 1, T + OO, _, _, rfl, by omega, TT1.out, by go_num, rfl, ST.out.2⟩
      ·obtain rfl : t = N := by omega
       clear hg ho hT
       go_wp2
       go_ret
       exact ⟨⟨_, _, _⟩, rfl, ⟨jbD HO.out.1 Z5.out, HO.out.2⟩, jaa G0.out (jaa G5.out HG.out)⟩
end Go.Proofs.YtkefdkboejimeaaGreatDoor
namespace Go.Proofs.YtkefdkboejimeaaGreatDoor
open Go.RowKit
theorem IsInts.putAway2 {w w' : World} {v : Value} {zs : List Int} {B n c : Nat} {a : Option Addr} {te : TypeId} (h : IsInts w v zs) (hb : w.heap[B]? = some (.cells #[.slice a n c] te (0, 0))) (hg : w.grownBy w' (some B)) : IsInts w' v zs := by
 obtain ⟨ao, cap, rfl, h1, h2, h3, h4, h5, h6⟩ := h
 refine ⟨ao, cap, rfl, h1, h2, h3, h4, fun hl => ?_, h6⟩
 obtain ⟨b, off, rfl, hc⟩ := h5 hl
 have hne : b ≠ B := fun e => by
  subst e
  have h9 := hc 0 hl
  rw [cell_of_row w b (off + 0) _ _ (0, 0) hb] at h9
  cases off with
  | zero => simp at h9
  | succ off => simp at h9
 exact ⟨b, off, rfl, fun t ht => jaX (hc t ht) hg hne⟩
theorem Rws.putAway {w w' : World} {B off b n c : Nat} {ss : List Sl} {L : List (List Int)} {a : Option Addr} {te : TypeId} (h : Rws w B off ss L) (hb : w.heap[b]? = some (.cells #[.slice a n c] te (0, 0))) (hne : B ≠ b) (hg : w.grownBy w' (some b)) : Rws w' B off ss L :=
 ⟨h.sl, fun k hk => jaX (h.at' k hk) hg hne, fun k hk => (h.each k hk).putAway2 hb hg⟩
theorem Rws.lt {w : World} {B off : Nat} {ss : List Sl} {x : List Int} {L : List (List Int)} (h : Rws w B off ss (x :: L)) : B < w.heap.size := World.block_lt_of_cell? w _ (h.at' 0 (by simp))
end Go.Proofs.YtkefdkboejimeaaGreatDoor
namespace Go.Proofs.YtkefdkboejimeaaGreatDoor
open Go.RowKit
def jcD (ys : List Int) (s C m : Nat) : List (List Int) := (List.range C).map fun c => jdT ys s (m * C + c)
def jcd (xs ys : List Int) (H W kh kw oh ow C M : Nat) : List Int := (List.range M).flatMap fun m => jbG (fun h v => jcg (jbp xs (H * W) C) (jcD ys (kh * kw) C m) (wpl W kh kw h v) C) oh ow
theorem jfz (xs ys : List Int) (H W kh kw oh ow C M : Nat) : jcd xs ys H W kh kw oh ow C (M + 1) = jcd xs ys H W kh kw oh ow C M ++ jbG (fun h v => jcg (jbp xs (H * W) C) (jcD ys (kh * kw) C M) (wpl W kh kw h v) C) oh ow := by
 simp [jcd, List.range_succ]
theorem je6 (xs ys : List Int) (H W kh kw oh ow C : Nat) : ∀ M, (jcd xs ys H W kh kw oh ow C M).length = M * (oh * ow)
 | 0 => by simp [jcd]
 | M + 1 => by rw [jfz, List.length_append, je6 xs ys H W kh kw oh ow C M, jdr, Nat.add_mul, Nat.one_mul]
theorem jnM {s : Int} (hs : Rng s) (ch ker : List Int) (ps : List (Nat × Nat)) : Rng (jnJ s ch ker ps) := by
 unfold jnJ
 induction ps generalizing s with
 | nil => exact hs
 | cons p ps ih => exact ih (jpo 1 _ _)
theorem jdI (C K : List (List Int)) (ps : List (Nat × Nat)) : ∀ k, Rng (jcg C K ps k)
 | 0 => jof
 | k + 1 => jnM (jdI C K ps k) _ _ _
theorem jlL (xs ys : List Int) (H W kh kw oh ow C M : Nat) : ∀ z ∈ jcd xs ys H W kh kw oh ow C M, -9223372036854775808 ≤ z ∧ z ≤ 9223372036854775807 := by
 intro z hz
 obtain ⟨m, -, hz⟩ := List.mem_flatMap.1 hz
 unfold jbG at hz
 obtain ⟨a, -, hz⟩ := List.mem_flatMap.1 hz
 obtain ⟨b, -, rfl⟩ := List.mem_map.1 hz
 exact jdI _ _ _ _
theorem jdJ (ys : List Int) (s C m : Nat) : (jcD ys s C m).length = C := by simp [jcD]
theorem jce (ys : List Int) (s n : Nat) : (jbp ys s n).length = n := by simp [jbp]
theorem jjL {xs : List Int} {s n : Nat} (h : xs.length = n * s) : ∀ c ∈ jbp xs s n, c.length = s := by
 intro c hc
 obtain ⟨i, hi, rfl⟩ := List.mem_map.1 hc
 exact jiq h (List.mem_range.1 hi)
theorem jiO {C M m c : Nat} (hm : m < M) (hc : c < C) : m * C + c < M * C := by
 have h := Nat.mul_le_mul_right C hm
 rw [Nat.succ_mul] at h
 omega
theorem jjM {ys : List Int} {s C M m : Nat} (h : ys.length = (M * C) * s) (hm : m < M) : ∀ c ∈ jcD ys s C m, c.length = s := by
 intro c hc
 obtain ⟨i, hi, rfl⟩ := List.mem_map.1 hc
 exact jiq h (jiO hm (List.mem_range.1 hi))
theorem Rws.part {w : World} {B s C M m : Nat} {ss : List Sl} {ys : List Int} (h : Rws w B 0 ss (jbp ys s (M * C))) (hm : m < M) : Rws w B (m * C) ((ss.drop (m * C)).take C) (jcD ys s C m) := by
 have hl : ss.length = M * C := by rw [h.sl, jce]
 have e : ∀ k, k < C → ((ss.drop (m * C)).take C).getD k jbQ = ss.getD (m * C + k) jbQ := fun k hk => by
  simp [List.getD, hk]
 refine ⟨?_, fun k hk => ?_, fun k hk => ?_⟩
 ·rw [List.length_take, List.length_drop, hl, jdJ]
  have h2 := Nat.mul_le_mul_right C hm
  rw [Nat.succ_mul] at h2
  omega
 ·rw [jdJ] at hk
  have h2 := h.at' (m * C + k) (by rw [jce]; exact jiO hm hk)
  rw [Nat.zero_add] at h2
  rw [e k hk]
  exact h2
 ·rw [jdJ] at hk
  have h2 := h.each (m * C + k) (by rw [jce]; exact jiO hm hk)
  rw [e k hk]
  have e2 : (jcD ys s C m).getD k [] = (jbp ys s (M * C)).getD (m * C + k) [] := by
   simp [jcD, jbp, List.getD, hk, jiO hm hk]
  rw [e2]
  exact h2
theorem Rws.lt' {w : World} {B off : Nat} {ss : List Sl} {L : List (List Int)} (h : Rws w B off ss L) (hl : 0 < L.length) : B < w.heap.size := World.block_lt_of_cell? w _ (h.at' 0 hl)
theorem jlM (H kh W kw p1 p2 p3 h v c1 c2 c3 c4 B1 B2 C m K N2 : Nat) (s1 s2 : List Sl) (CH KS : List (List Int)) (w : World) (b1 : w.heap[c1]? = some (.cells #[.slice (some ⟨B1, 0, none⟩) C C] 85 (0, 0))) (b2 : w.heap[c2]? = some (.cells #[.slice (some ⟨B2, 0, none⟩) (K + N2) (K + N2)] 85 (0, 0))) (b3 : w.heap[c3]? = some (.cells #[.int .i64 m] 3 (0, 0))) (b4 : w.heap[c4]? = some (.cells #[.int .i64 C] 3 (0, 0))) (hp : PlB H kh W kw h v w p1 p2 p3) (hh : h + kh ≤ H) (hv : v + kw ≤ W) (hW : W ≤ 65536) (hH : H ≤ 65536) (hL : H * W ≤ 65536) (hKK : kh * kw ≤ 65536) (h0 : 0 < H * W) (h1 : 0 < kh * kw) (r1 : Rws w B1 0 s1 CH) (r2 : Rws w B2 K s2 KS) (l1 : CH.length = C) (l2 : KS.length = C) (hcl : ∀ c ∈ CH, c.length = H * W) (hkl : ∀ c ∈ KS, c.length = kh * kw) (hK : K = m * C) (C1 : 1 ≤ C) (hN2 : C ≤ N2) (hb : K + N2 ≤ 65536) :
    Calls Tryz.prog 58 #[plV p1 p2 p3, .pointer (some ⟨c1, 0, none⟩), .pointer (some ⟨c2, 0, none⟩), .pointer (some ⟨c3, 0, none⟩), .pointer (some ⟨c4, 0, none⟩)] w fun e w' => e = .returned (.int .i64 (jcg CH KS (wpl W kh kw h v) C)) ∧ w.grownBy w' none := by
     have k1 := jaA b1
     have k2 := jaA b2
     have k3 := jaA b3
     have k4 := jaA b4
     have PW : Hid (∀ wx, w.grownBy wx none → Calls Tryz.prog 59 #[.slice (some ⟨B1, 0, none⟩) C C, .slice (some ⟨B2, K, none⟩) C N2, plV p1 p2 p3] wx fun e w' => e = .returned (.int .i64 (jcg CH KS (wpl W kh kw h v) C)) ∧ wx.grownBy w' none) := fun wx hx => by
      have h := jh5 H kh W kw h v p1 p2 p3 B1 0 C B2 K N2 s1 s2 CH KS wx (hp.more hx) hh hv hW hH hL hKK (r1.more hx) (r2.more hx) (by rw [l1, l2]) hcl hkl (by omega) h0 h1
      rw [l1, l2] at h
      exact h
     have HW : Hid (IntKind.i64.wrap ((m : Int) * C) = (K : Int)) := by
      show _ = _
      rw [← Int.natCast_mul, ← hK]
      exact Vw.wrap_small (Int.natCast_nonneg _) (by omega)
     have e1 : ¬ N2 = 0 := by omega
     generalize jcg CH KS (wpl W kh kw h v) C = z at PW ⊢
     clear b1 b2 b3 b4 hp hh hv r1 r2 l1 l2 hcl hkl hK h0 h1 hL hKK
     unfold plV at PW ⊢
     go_enter Tryz.func58, Tryz.ntmps58
     go_upto_region 1 with fail
     have hw := HW.out
     refine wp_region_held_drew (S := fun w' => w.grownBy w' none) (by kernel_rfl) (jag (jaf _)) (fun hHeld => ?_)
     refine tkE 0 ?_ (hv := by intro wS hSw; have c0 := jac k1 hSw; go_simp; (try with_reducible rfl))
     try simp only [Act.put]
     refine tkE 1 ?_ (hv := by intro wS hSw; have c0 := jac k2 hSw; go_simp; (try with_reducible rfl))
     try simp only [Act.put]
     refine tkE 2 ?_ (hv := by intro wS hSw; have c0 := jac k3 hSw; go_simp; (try with_reducible rfl))
     try simp only [Act.put]
     refine tkE 3 ?_ (hv := by intro wS hSw; have c0 := jac k4 hSw; go_simp; (try with_reducible rfl))
     try simp only [Act.put]
     refine wpAnyH_take (i := 4) (v := .int .i64 (K : Int)) rfl (by kernel_rfl) (by kernel_rfl) (by kernel_rfl) (fun _ _ _ h => h) (Or.inl ⟨by kernel_rfl, ?_⟩) (by assumption) ?_
     ·(intro wS hSw; go_simp; (try simp only [hw]))
     try simp only [Act.put]
     clear hw
     refine wpAnyH_take (i := 5) (v := .slice (some ⟨B2, K, none⟩) N2 N2) rfl (by kernel_rfl) (by kernel_rfl) (by kernel_rfl) (fun _ _ _ h => h) (Or.inl ⟨by kernel_rfl, ?_⟩) (by assumption) ?_
     ·(intro wS hSw; go_simp; (intro hx; exact absurd hx (by omega)))
     try simp only [Act.put]
     refine tkE 6 ?_ (hv := by intro wS hSw; have c0 := jac k4 hSw; go_simp; (try with_reducible rfl))
     try simp only [Act.put]
     refine wpAnyH_take (i := 7) (v := .slice (some ⟨B2, K, none⟩) C N2) rfl (by kernel_rfl) (by kernel_rfl) (by kernel_rfl) (fun _ _ _ h => h) (Or.inl ⟨by kernel_rfl, ?_⟩) (by assumption) ?_
     ·(intro wS hSw; go_simp; (try rfl))
     try simp only [Act.put]
     refine tkE 8 ?_ (hv := by intro wS hSw; go_simp; (try with_reducible rfl))
     try simp only [Act.put]
     refine rdA 9 fun K hK => ?_
     go_simp
     refine (PW.out _ (jag (jaf _))).mono ?_
     rintro e w1 ⟨rfl, hg1⟩
     have g1 : w.grownBy w1 none := ⟨hg1.os, hg1.tape, hg1.output, hg1.size, hg1.block⟩
     refine hK.out _ _ (g1) (fun hHeld => ?_)
     clear hK K
     try simp only [Act.put]
     refine tkE 10 ?_ (hv := by intro wS hSw; go_simp; (try with_reducible rfl))
     try simp only [Act.put]
     refine wpAnyH_done (by kernel_rfl) ?_ _
     go_simp
     go_wp2
     go_ret
     exact ⟨rfl, g1⟩
end Go.Proofs.YtkefdkboejimeaaGreatDoor
