/- A part. -/
import Derived.Test.YtkefdkboejimeaaGreatDoorMini
import Derived.Test.YtkefdkboejimeaaGreatDoorPartBF
import Derived.Test.YtkefdkboejimeaaGreatDoorPartAX
import Derived.Test.YtkefdkboejimeaaGreatDoorPartAW
import Derived.Test.YtkefdkboejimeaaGreatDoorPartAV
set_option maxHeartbeats 16000000
set_option maxRecDepth 100000
namespace Go.Proofs.YtkefdkboejimeaaGreatDoor
open Go.RowKit
theorem jlv {n t : Nat} (h : t < n) : (jbh n).getD t 0 = (t : Int) := by simp [jbh, List.getD, h]
theorem jnz (xs yt : List Int) (t a k b : Nat) : jeB xs yt (t + 1) a k b = jeB xs yt t a k b ++ tms (blk xs t a k) (blk yt t b k) := by
 unfold jeB
 rw [List.range_succ, List.flatMap_append]
 simp
theorem jdn {w : World} {base : Nat} {v : Value} {zs : List Int} (h : jaI w base v zs) (hl : 0 < zs.length) : ∃ g, (∃ c, v = .slice (some ⟨g, 0, none⟩) zs.length c) ∧ (∀ j u, (zs.map (Value.int .i64))[j]? = some u → w.cell? ((⟨g, 0, none⟩ : Addr).add j) = some u) ∧ ∀ u ∈ zs.map (Value.int .i64), u.oneCell' = true := by
 have h1 : ∀ u ∈ zs.map (Value.int .i64), u.oneCell' = true := fun u hu => by
  obtain ⟨z, -, rfl⟩ := List.mem_map.1 hu
  rfl
 rcases h.1.2 with ⟨e, h0⟩ | ⟨g, cap, cur, e, -⟩
 ·omega
 ·refine ⟨g, ⟨cap, e⟩, fun j u hu => ?_, h1⟩
  have hj := (List.getElem?_eq_some_iff.1 hu).1
  rw [List.length_map] at hj
  have hr := h.1
  rw [e] at hr
  rw [Addr.add_lit, Nat.zero_add, hr.cellAt j (by omega)]
  exact hu
theorem jeY {w : World} {base m n : Nat} {v : Value} {zs us : List Int} (hn : zs.length = n) (hm : us.length = m) (h : w.ownsRow base 2 1 v (n + m) (zs.map (Value.int .i64) ++ us.map (Value.int .i64))) (hl : n + m ≤ 1000000) (hz : ∀ y ∈ zs, -9223372036854775808 ≤ y ∧ y ≤ 9223372036854775807) (hu : ∀ y ∈ us, -9223372036854775808 ≤ y ∧ y ≤ 9223372036854775807) : jaI w base v (zs ++ us) := by
 subst hn hm
 refine ⟨by rw [List.length_append, List.map_append]; exact h, by rw [List.length_append]; omega, fun y hy => ?_⟩
 rcases List.mem_append.1 hy with hy | hy
 ·exact hz y hy
 ·exact hu y hy
theorem jlw {w w' : World} {base : Nat} {v : Value} {zs : List Int} (h : Owns w base v zs) (hg : w.grownBy w' none) : Owns w' base v zs := h.new hg
theorem new1 {v w' : World} {o : Obj} (h : (v.alloc o).grownBy w' none) : w'.heap[v.heap.size]? = some o := jad (heap_alloc_new v o) h
theorem jpi {v w' : World} {o : Obj} (h : (v.alloc o).drew.grownBy w' none) : w'.heap[v.heap.size]? = some o := jad (w := (v.alloc o).drew) (heap_alloc_new v o) h
theorem new2 {v w' : World} {o o' : Obj} (h : ((v.alloc o).alloc o').grownBy w' none) : w'.heap[v.heap.size]? = some o ∧ w'.heap[v.heap.size + 1]? = some o' := ⟨jad (jax v o o').1 h, jad (jax v o o').2 h⟩
theorem jpj {v w' : World} {o o' : Obj} (h : ((v.alloc o).alloc o').drew.grownBy w' none) : w'.heap[v.heap.size]? = some o ∧ w'.heap[v.heap.size + 1]? = some o' := ⟨jad (w := ((v.alloc o).alloc o').drew) (jax v o o').1 h, jad (w := ((v.alloc o).alloc o').drew) (jax v o o').2 h⟩
theorem jgX {w : World} {base te sz n t B : Nat} {v : Value} {cs : List Value} {cur : Array Value} {m : Nat × Nat} (h : w.ownsRow base te sz v n cs) (hb : w.heap[B]? = some (.cells cur t m)) (ht : te ≠ t) : v.ownBlock = none ∨ v.ownBlock ≠ some B := by
 rcases h.2 with ⟨e, -⟩ | ⟨g, cap, cur', e, -, hg, -⟩
 ·exact .inl (by rw [e]; rfl)
 ·refine .inr ?_
  rw [e]
  simp only [Value.ownBlock, ne_eq, Option.some.injEq]
  rintro rfl
  rw [hg] at hb
  simp only [Option.some.injEq, Obj.cells.injEq] at hb
  exact ht hb.2.1
structure FinQ (w0 W : World) (d t : Sl) (DT yt : List Int) : Prop where
 d : IsInts W d.v DT
 t : IsInts W t.v yt
 g : w0.grownBy W none
theorem jlx {w0 wR : World} {d t : Sl} {DT yt : List Int} {b1 b2 : Nat} (X Y : Obj) (hd : Owns wR b1 d.v DT) (ht : Vw.Owns64 wR b2 t.v yt) (g : w0.grownBy wR none) : ((wR.alloc X).alloc Y).heap[wR.heap.size]? = some X ∧ ((wR.alloc X).alloc Y).heap[wR.heap.size + 1]? = some Y ∧ FinQ w0 ((wR.alloc X).alloc Y) d t DT yt :=
 have g2 := jaa (jab wR X) (jab _ Y)
 ⟨(jax wR X Y).1, (jax wR X Y).2, hd.ints.more g2, (jaI.ints (w := wR) ht).more g2, jaa g g2⟩
theorem jeZ {w0 wR : World} {d t : Sl} {DT yt : List Int} {b1 b2 B : Nat} {z0 z1 z2 z3 : Value} (x0 x1 x2 x3 : Value) (hd : Owns wR b1 d.v DT) (ht : Vw.Owns64 wR b2 t.v yt) (g : w0.grownBy wR none) (hk : wR.heap[B]? = some (.cells #[z0, z1, z2, z3] 128 (0, 0))) (hB : w0.heap.size ≤ B) :
    ∃ W, W = ((((wR.setCell ⟨B, 0, none⟩ x0).setCell ⟨B, 1, none⟩ x1).setCell ⟨B, 2, none⟩ x2).setCell ⟨B, 3, none⟩ x3) ∧ W.heap[B]? = some (.cells #[x0, x1, x2, x3] 128 (0, 0)) ∧ Owns W b1 d.v DT ∧ Vw.Owns64 W b2 t.v yt ∧ w0.grownBy W none ∧ W.heap.size = wR.heap.size ∧ (∀ C o, C ≠ B → wR.heap[C]? = some o → W.heap[C]? = some o) := by
     obtain ⟨h1, h2⟩ := jld x0 x1 x2 x3 hk
     refine ⟨_, rfl, h1, hd.more h2 (jgX hd.1 hk (by decide)), ⟨ht.1.kept h2 (jgX ht.1 hk (by decide)), ht.2⟩, jas g h2 hB, by simp [World.setCell], fun C o hC hCo => ?_⟩
     rw [← hCo]
     exact h2.block C (Array.getElem?_eq_some_iff.1 hCo).1 (by simpa using hC)
theorem jbW {w0 wR : World} {d t : Sl} {DT yt : List Int} {b1 b2 B : Nat} {z0 z1 z2 z3 : Value} (x0 x1 x2 x3 : Value) (Y : Obj) (hd : Owns wR b1 d.v DT) (ht : Vw.Owns64 wR b2 t.v yt) (g : w0.grownBy wR none) (hk : wR.heap[B]? = some (.cells #[z0, z1, z2, z3] 128 (0, 0))) (hB : w0.heap.size ≤ B) :
    ((((((wR.setCell ⟨B, 0, none⟩ x0).setCell ⟨B, 1, none⟩ x1).setCell ⟨B, 2, none⟩ x2).setCell ⟨B, 3, none⟩ x3).alloc Y).heap[B]? = some (.cells #[x0, x1, x2, x3] 128 (0, 0))) ∧ (((((wR.setCell ⟨B, 0, none⟩ x0).setCell ⟨B, 1, none⟩ x1).setCell ⟨B, 2, none⟩ x2).setCell ⟨B, 3, none⟩ x3).alloc Y).heap[wR.heap.size]? = some Y ∧ FinQ w0 (((((wR.setCell ⟨B, 0, none⟩ x0).setCell ⟨B, 1, none⟩ x1).setCell ⟨B, 2, none⟩ x2).setCell ⟨B, 3, none⟩ x3).alloc Y) d t DT yt := by
     obtain ⟨W, hW, h1, h2, h3, h4, h5, -⟩ := jeZ x0 x1 x2 x3 hd ht g hk hB
     rw [← hW]
     refine ⟨jad h1 (jab _ _), ?_, h2.ints.more (jab _ _), (jaI.ints (w := W) h3).more (jab _ _), jaa h4 (jab _ _)⟩
     rw [← h5]
     exact heap_alloc_new W Y
theorem jaZ {w0 wR : World} {d t : Sl} {DT yt : List Int} {b1 b2 B C : Nat} {z0 z1 z2 z3 v0 v1 v2 v3 : Value} (x0 x1 x2 x3 y0 y1 y2 y3 : Value) (hd : Owns wR b1 d.v DT) (ht : Vw.Owns64 wR b2 t.v yt) (g : w0.grownBy wR none) (hk : wR.heap[B]? = some (.cells #[z0, z1, z2, z3] 128 (0, 0))) (hc : wR.heap[C]? = some (.cells #[v0, v1, v2, v3] 128 (0, 0))) (hne : C ≠ B) (hB : w0.heap.size ≤ B) (hC : w0.heap.size ≤ C) :
    (((((((((wR.setCell ⟨B, 0, none⟩ x0).setCell ⟨B, 1, none⟩ x1).setCell ⟨B, 2, none⟩ x2).setCell ⟨B, 3, none⟩ x3).setCell ⟨C, 0, none⟩ y0).setCell ⟨C, 1, none⟩ y1).setCell ⟨C, 2, none⟩ y2).setCell ⟨C, 3, none⟩ y3).heap[B]? = some (.cells #[x0, x1, x2, x3] 128 (0, 0))) ∧ ((((((((wR.setCell ⟨B, 0, none⟩ x0).setCell ⟨B, 1, none⟩ x1).setCell ⟨B, 2, none⟩ x2).setCell ⟨B, 3, none⟩ x3).setCell ⟨C, 0, none⟩ y0).setCell ⟨C, 1, none⟩ y1).setCell ⟨C, 2, none⟩ y2).setCell ⟨C, 3, none⟩ y3).heap[C]? = some (.cells #[y0, y1, y2, y3] 128 (0, 0)) ∧ FinQ w0 ((((((((wR.setCell ⟨B, 0, none⟩ x0).setCell ⟨B, 1, none⟩ x1).setCell ⟨B, 2, none⟩ x2).setCell ⟨B, 3, none⟩ x3).setCell ⟨C, 0, none⟩ y0).setCell ⟨C, 1, none⟩ y1).setCell ⟨C, 2, none⟩ y2).setCell ⟨C, 3, none⟩ y3) d t DT yt := by
     obtain ⟨W, hW, h1, h2, h3, h4, h5, h6⟩ := jeZ x0 x1 x2 x3 hd ht g hk hB
     rw [← hW]
     obtain ⟨V, hV, k1, k2, k3, k4, k5, k6⟩ := jeZ y0 y1 y2 y3 h2 h3 h4 (h6 C _ hne hc) hC
     rw [← hV]
     exact ⟨k6 B _ hne.symm h1, k1, k2.ints, jaI.ints (w := V) k3, k4⟩
theorem jjE (x y : Ten) (A : List Int) (n a k b : Nat) (xs ys yt : List Int) (dv : Sl) (w : World) (hA : A.length = n) (hdx : ja3 (A ++ [(a : Int), (k : Int)]) = 0) (hdy : ja3 (A ++ [(k : Int), (b : Int)]) = 0) (hdz : ja3 (A ++ [(a : Int), (b : Int)]) = 0)
    (hxd : IsInts w x.dv.v (A ++ [(a : Int), (k : Int)])) (hyd : IsInts w y.dv.v (A ++ [(k : Int), (b : Int)])) (hzd : IsInts w dv.v (A ++ [(a : Int), (b : Int)])) (hxs : IsInts w x.tv.v xs) (hys : IsInts w y.tv.v ys)
    (hyt : Vw.rdL 0 (Vw.pickL (A ++ [(k : Int), (b : Int)]) (ja8 n)) (Vw.pickL (jbs (A ++ [(k : Int), (b : Int)])) (ja8 n)) ys = yt) (hpd : Vw.pickL (A ++ [(k : Int), (b : Int)]) (ja8 n) = A ++ [(b : Int), (k : Int)])
    (hxl : xs.length = (jaF A).toNat * (a * k)) (hyl : yt.length = (jaF A).toNat * (b * k)) :
    Calls Tryz.prog 42 #[jdL x, jdL y, .slice dv.a dv.n dv.c] w fun e w' => ∃ u : Sl, e = .returned u.v ∧ jaI w' w.heap.size u.v (jeB xs yt (jaF A).toNat a k b) ∧ w.grownBy w' none := by
     obtain ⟨tx, ⟨xa, xn, xc⟩, ⟨xd, xm, xk⟩⟩ := x
     obtain ⟨ty, ⟨ya, yn, yc⟩, ⟨yd, ym, yk⟩⟩ := y
     obtain ⟨za, zn, zc⟩ := dv
     unfold jdL
     simp only
     obtain ⟨DT, hDT⟩ : ∃ DT, DT = A ++ [(b : Int), (k : Int)] := ⟨_, rfl⟩
     have HXD := jae hxd
     have HYD := jae hyd
     have HZD := jae hzd
     have HXS := jae hxs
     have HYS := jae hys
     obtain ⟨w0, hw0⟩ : ∃ w0, w0 = (w.alloc (.cells #[.int .i64 tx, .slice xa xn xc, .slice xd xm xk] 25)).alloc (.cells #[.int .i64 ty, .slice ya yn yc, .slice yd ym yk] 25) := ⟨_, rfl⟩
     have g0 : w.grownBy w0 none := by rw [hw0]; exact jaa (jab _ _) (jab _ _)
     have hbx := jax w (.cells #[.int .i64 tx, .slice xa xn xc, .slice xd xm xk] 25) (.cells #[.int .i64 ty, .slice ya yn yc, .slice yd ym yk] 25)
     rw [← hw0] at hbx
     have BX : Hid (∀ wx, w0.grownBy wx none → wx.heap[w.heap.size]? = some (.cells #[.int .i64 tx, .slice xa xn xc, .slice xd xm xk] 25 (0, 0)) ∧ wx.heap[w.heap.size + 1]? = some (.cells #[.int .i64 ty, .slice ya yn yc, .slice yd ym yk] 25 (0, 0))) := fun wx hg => ⟨jad hbx.1 hg, jad hbx.2 hg⟩
     have ex : (A ++ [(a : Int), (k : Int)]).length = n + 2 := by rw [List.length_append, hA]; rfl
     have ey : (A ++ [(k : Int), (b : Int)]).length = n + 2 := by rw [List.length_append, hA]; rfl
     have ez : (A ++ [(a : Int), (b : Int)]).length = n + 2 := by rw [List.length_append, hA]; rfl
     have eg : ∀ p q : Int, (A ++ [p, q]).getD n 0 = p ∧ (A ++ [p, q]).getD (n + 1) 0 = q := fun p q => by
      subst hA
      simp [List.getD]
     have PX : Hid (∀ wx, w0.grownBy wx none → Calls Tryz.prog 85 #[.agg #[.int .i64 tx, .slice xa xn xc, .slice xd xm xk]] wx fun e w' => e = .returned (.agg #[.slice xa n xc, .int .i64 a, .int .i64 k, .slice xd xm xk]) ∧ wx.grownBy w' none) := fun wx hx => by
      have h := jfw ⟨tx, ⟨xa, xn, xc⟩, ⟨xd, xm, xk⟩⟩ _ n wx (HXD.out.more (jaa g0 hx)) ex
      rw [(eg _ _).1, (eg _ _).2] at h
      exact h
     have TY : Hid (∀ wx, w0.grownBy wx none → Calls Tryz.prog 86 #[.agg #[.int .i64 ty, .slice ya yn yc, .slice yd ym yk]] wx fun e w' => ∃ d t : Sl, e = .returned (jdL ⟨ty, d, t⟩) ∧ Owns w' wx.heap.size d.v DT ∧ Vw.Owns64 w' wx.heap.size t.v yt ∧ wx.grownBy w' none) := fun wx hx => by
      have h := jh0 ⟨ty, ⟨ya, yn, yc⟩, ⟨yd, ym, yk⟩⟩ _ ys n wx hdy ey (HYD.out.more (jaa g0 hx)) (HYS.out.more (jaa g0 hx))
      unfold jp8 at h
      rw [hyt, hpd, ← hDT] at h
      exact h
     have PR : Hid (∀ (wx : World) (d t : Sl), IsInts wx d.v DT → Calls Tryz.prog 85 #[.agg #[.int .i64 ty, .slice d.a d.n d.c, .slice t.a t.n t.c]] wx fun e w' => e = .returned (.agg #[.slice d.a n d.c, .int .i64 b, .int .i64 k, .slice t.a t.n t.c]) ∧ wx.grownBy w' none) := fun wx d t hi => by
      rw [hDT] at hi
      have h := jfw ⟨ty, d, t⟩ _ n wx hi (by rw [List.length_append, hA]; rfl)
      rw [(eg _ _).1, (eg _ _).2] at h
      exact h
     obtain ⟨x0, x1, x2⟩ := jal hbx.1
     obtain ⟨y0, y1, y2⟩ := jal hbx.2
     have Z0 : w0.heap.size = w.heap.size + 1 + 1 := by rw [hw0]; simp
     replace Z0 := jae Z0
     obtain ⟨N, hN⟩ : ∃ N, N = (jaF A).toNat := ⟨_, rfl⟩
     have FX := jaH hdx
     have FY := jaH hdy
     have FZ := jaH hdz
     have fa1 : (1 : Int) ≤ a := FX.pos _ (by simp)
     have fk1 : (1 : Int) ≤ k := FX.pos _ (by simp)
     have fb1 : (1 : Int) ≤ b := FY.pos _ (by simp)
     have FA : Fine A := ⟨fun z hz => FX.pos z (by simp [hz]), by have := FX.few; rw [List.length_append] at this; omega, by
      have h1 := FX.le
      rw [jby] at h1
      have h2 : 1 ≤ jaF [(a : Int), (k : Int)] := prod_pos _ (by simp; omega)
      have h3 : 1 ≤ jaF A := prod_pos _ (fun z hz => FX.pos z (by simp [hz]))
      have := jbS h2 (show (0 : Int) ≤ jaF A by omega)
      omega⟩
     have hNA : jaF A = (N : Int) := by have := FA.prod_pos; omega
     have pN : ∀ p q : Nat, jaF (A ++ [(p : Int), (q : Int)]) = ((N * (p * q) : Nat) : Int) := fun p q => by
      rw [jby, hNA, Int.natCast_mul, Int.natCast_mul]
      simp [jaF]
     have sx : N * (a * k) ≤ 65536 := by have := FX.le; rw [pN] at this; omega
     have sy : N * (k * b) ≤ 65536 := by have := FY.le; rw [pN] at this; omega
     have sz : N * (a * b) ≤ 65536 := by have := FZ.le; rw [pN] at this; omega
     have nn1 : 1 ≤ N := by have := FA.prod_pos; omega
     rw [← hN] at hxl hyl ⊢
     have SX : Hid (xs.length ≤ 65536) := by show _ ≤ _; rw [hxl]; exact sx
     have SY : Hid (yt.length ≤ 65536) := by show _ ≤ _; rw [hyl, Nat.mul_comm b k]; exact sy
     have SZ : Hid (N * (a * b) ≤ 65536) := sz
     have SAB : Hid (a * b ≤ 65536) := Nat.le_trans (Nat.le_mul_of_pos_left _ nn1) sz
     have SA1 : Hid (1 ≤ a) := by show 1 ≤ a; omega
     have SB1 : Hid (1 ≤ b) := by show 1 ≤ b; omega
     have SK1 : Hid (1 ≤ k) := by show 1 ≤ k; omega
     have SAB1 : Hid (0 < a * b) := Nat.mul_pos SA1.out SB1.out
     have SA : Hid (a ≤ 65536) := Nat.le_trans (Nat.le_mul_of_pos_right _ SB1.out) SAB.out
     have SN : Hid (N ≤ 65536) := Nat.le_trans (Nat.le_mul_of_pos_right _ SAB1.out) sz
     have HN1 : Hid (0 < N) := nn1
     have HNN : Hid ((jaF A).toNat = N) := hN.symm
     have HCA : Hid (ja3 A = 0) := FA.ok
     obtain ⟨i0, hi0, hz0, hz1, hz2⟩ := info_parts jdk
     obtain ⟨zx, zy, ez1, z1, z2, z3⟩ := hzd.sl
     rw [ez] at ez1 z1
     simp only [Sl.v, Value.slice.injEq] at ez1
     obtain ⟨rfl, ezn, rfl⟩ := ez1
     subst ezn
     clear FX FY FZ FA fa1 fk1 fb1 hNA pN sx sy sz nn1 hN z3
     have i6 : n ≤ zc := by omega
     have G0 := jae g0
     have HYT := jae hyl
     have HXT := jae hxl
     have HDX := jae hdx
     have HDZ := jae hdz
     have HDY := jae hdy
     have HAL := jae hA
     have HDT := jae hDT
     have HEZ := jae ez
     clear hxd hyd hzd hxs hys hbx eg hdx hdy hdz hyt hpd hxl hyl hA hDT ex ey ez g0
     go_enter Tryz.func42, Tryz.ntmps42
     go_wp2_with fail
     rw [← hw0]
     clear hw0
     go_cut [7, 8] from 14 to 18 (fun p7 p8 wx => ∃ (B7 B8 : Nat) (d t : Sl), p7 = .pointer (some ⟨B7, 0, none⟩) ∧ p8 = .pointer (some ⟨B8, 0, none⟩) ∧ wx.heap[B7]? = some (.cells #[.slice xa n xc, .int .i64 a, .int .i64 k, .slice xd xm xk] 128 (0, 0)) ∧ wx.heap[B8]? = some (.cells #[.slice d.a n d.c, .int .i64 b, .int .i64 k, .slice t.a t.n t.c] 128 (0, 0)) ∧ IsInts wx d.v DT ∧ IsInts wx t.v yt ∧ w0.grownBy wx none)
     case first =>
      go_region_held3 (fun w' => w'.cell? ⟨w.heap.size, 0, none⟩ = some (.int .i64 tx) ∧ w'.cell? ⟨w.heap.size, 1, none⟩ = some (.slice xa xn xc) ∧ w'.cell? ⟨w.heap.size, 2, none⟩ = some (.slice xd xm xk) ∧ w'.cell? ⟨w.heap.size + 1, 0, none⟩ = some (.int .i64 ty) ∧ w'.cell? ⟨w.heap.size + 1, 1, none⟩ = some (.slice ya yn yc) ∧ w'.cell? ⟨w.heap.size + 1, 2, none⟩ = some (.slice yd ym yk)) (go_keep) (first | (have dd := done2; go_at_call 85; refine (PR.out _ ⟨da, dn, dc⟩ ⟨ta, tn, tc⟩ ((jlw hod (by with_reducible first | exact jag (jaf _) | exact jag (jab _ _) | exact jag (jaa (jab _ _) (jab _ _)) | exact jaf _ | exact jab _ _ | exact jaa (jab _ _) (jab _ _))).ints)).mono ?_; rintro e wR ⟨rfl, hgR⟩; have gTR : wT.grownBy wR none := jaa (by with_reducible first | exact jag (jaf _) | exact jag (jab _ _) | exact jag (jaa (jab _ _) (jab _ _)) | exact jaf _ | exact jab _ _ | exact jaa (jab _ _) (jab _ _)) hgR; have gR : w0.grownBy wR none := jaa gT gTR; obtain ⟨x0, x1, x2⟩ := jal (BX.out wR gR).1; obtain ⟨y0, y1, y2⟩ := jal (BX.out wR gR).2; (try (with_reducible (replace kP1 := jad kP1 gTR))); (try (with_reducible (replace kP2 := jad kP2 gTR))); (try (with_reducible (replace kT1 := jad kT1 gTR))); (try (with_reducible (replace kT2 := jad kT2 gTR))); (first | ((with_reducible (have kk := jpj hgR)); obtain ⟨kR1, kR2⟩ := kk) | ((with_reducible (have kk := new2 hgR)); obtain ⟨kR1, kR2⟩ := kk) | (with_reducible (have kR1 := jpi hgR)) | (with_reducible (have kR1 := new1 hgR)) | skip); (try (have lR1 := (Array.getElem?_eq_some_iff.1 kR1).1)); (try (have lR2 := (Array.getElem?_eq_some_iff.1 kR2).1)); have sP := gP.size; have sPT := gPT.size; have sTR := gTR.size; have zz := Z0.out; have ltA500 : w.heap.size < wR.heap.size := (by omega); have nA501 : w.heap.size ≠ wR.heap.size := (by omega); have nB501 := nA501.symm; have nA502 : w.heap.size ≠ wR.heap.size + 1 := (by omega); have nB502 := nA502.symm; have ltA502 : w.heap.size + 1 < wR.heap.size := (by omega); have nA503 : w.heap.size + 1 ≠ wR.heap.size := (by omega); have nB503 := nA503.symm; have nA504 : w.heap.size + 1 ≠ wR.heap.size + 1 := (by omega); have nB504 := nA504.symm; (try (have tt := kP1; have ltkP1 : w0.heap.size < wR.heap.size := (by omega); have nA1 : w0.heap.size ≠ w.heap.size := (by omega); have nB1 := nA1.symm; have nA2 : w0.heap.size ≠ w.heap.size + 1 := (by omega); have nB2 := nA2.symm; have nA3 : w0.heap.size ≠ wR.heap.size := (by omega); have nB3 := nA3.symm; have nA4 : w0.heap.size ≠ wR.heap.size + 1 := (by omega); have nB4 := nA4.symm; clear tt)); (try (have tt := kP1; have tu := kP2; have nA5 : w0.heap.size ≠ w0.heap.size + 1 := (by omega); have nB5 := nA5.symm; clear tt tu)); (try (have tt := kP1; have tu := kT1; have nA6 : w0.heap.size ≠ wP.heap.size := (by omega); have nB6 := nA6.symm; clear tt tu)); (try (have tt := kP1; have tu := kT2; have nA7 : w0.heap.size ≠ wP.heap.size + 1 := (by omega); have nB7 := nA7.symm; clear tt tu)); (try (have tt := kP1; have tu := kR1; have nA8 : w0.heap.size ≠ wT.heap.size := (by omega); have nB8 := nA8.symm; clear tt tu)); (try (have tt := kP1; have tu := kR2; have nA9 : w0.heap.size ≠ wT.heap.size + 1 := (by omega); have nB9 := nA9.symm; clear tt tu)); (try (have tt := kP2; have ltkP2 : w0.heap.size + 1 < wR.heap.size := (by omega); have nA10 : w0.heap.size + 1 ≠ w.heap.size := (by omega); have nB10 := nA10.symm; have nA11 : w0.heap.size + 1 ≠ w.heap.size + 1 := (by omega); have nB11 := nA11.symm; have nA12 : w0.heap.size + 1 ≠ wR.heap.size := (by omega); have nB12 := nA12.symm; have nA13 : w0.heap.size + 1 ≠ wR.heap.size + 1 := (by omega); have nB13 := nA13.symm; clear tt)); (try (have tt := kP2; have tu := kT1; have nA14 : w0.heap.size + 1 ≠ wP.heap.size := (by omega); have nB14 := nA14.symm; clear tt tu)); (try (have tt := kP2; have tu := kT2; have nA15 : w0.heap.size + 1 ≠ wP.heap.size + 1 := (by omega); have nB15 := nA15.symm; clear tt tu)); (try (have tt := kP2; have tu := kR1; have nA16 : w0.heap.size + 1 ≠ wT.heap.size := (by omega); have nB16 := nA16.symm; clear tt tu)); (try (have tt := kP2; have tu := kR2; have nA17 : w0.heap.size + 1 ≠ wT.heap.size + 1 := (by omega); have nB17 := nA17.symm; clear tt tu)); (try (have tt := kT1; have ltkT1 : wP.heap.size < wR.heap.size := (by omega); have nA18 : wP.heap.size ≠ w.heap.size := (by omega); have nB18 := nA18.symm; have nA19 : wP.heap.size ≠ w.heap.size + 1 := (by omega); have nB19 := nA19.symm; have nA20 : wP.heap.size ≠ wR.heap.size := (by omega); have nB20 := nA20.symm; have nA21 : wP.heap.size ≠ wR.heap.size + 1 := (by omega); have nB21 := nA21.symm; clear tt)); (try (have tt := kT1; have tu := kT2; have nA22 : wP.heap.size ≠ wP.heap.size + 1 := (by omega); have nB22 := nA22.symm; clear tt tu)); (try (have tt := kT1; have tu := kR1; have nA23 : wP.heap.size ≠ wT.heap.size := (by omega); have nB23 := nA23.symm; clear tt tu)); (try (have tt := kT1; have tu := kR2; have nA24 : wP.heap.size ≠ wT.heap.size + 1 := (by omega); have nB24 := nA24.symm; clear tt tu)); (try (have tt := kT2; have ltkT2 : wP.heap.size + 1 < wR.heap.size := (by omega); have nA25 : wP.heap.size + 1 ≠ w.heap.size := (by omega); have nB25 := nA25.symm; have nA26 : wP.heap.size + 1 ≠ w.heap.size + 1 := (by omega); have nB26 := nA26.symm; have nA27 : wP.heap.size + 1 ≠ wR.heap.size := (by omega); have nB27 := nA27.symm; have nA28 : wP.heap.size + 1 ≠ wR.heap.size + 1 := (by omega); have nB28 := nA28.symm; clear tt)); (try (have tt := kT2; have tu := kR1; have nA29 : wP.heap.size + 1 ≠ wT.heap.size := (by omega); have nB29 := nA29.symm; clear tt tu)); (try (have tt := kT2; have tu := kR2; have nA30 : wP.heap.size + 1 ≠ wT.heap.size + 1 := (by omega); have nB30 := nA30.symm; clear tt tu)); (try (have tt := kR1; have ltkR1 : wT.heap.size < wR.heap.size := (by omega); have nA31 : wT.heap.size ≠ w.heap.size := (by omega); have nB31 := nA31.symm; have nA32 : wT.heap.size ≠ w.heap.size + 1 := (by omega); have nB32 := nA32.symm; have nA33 : wT.heap.size ≠ wR.heap.size := (by omega); have nB33 := nA33.symm; have nA34 : wT.heap.size ≠ wR.heap.size + 1 := (by omega); have nB34 := nA34.symm; clear tt)); (try (have tt := kR1; have tu := kR2; have nA35 : wT.heap.size ≠ wT.heap.size + 1 := (by omega); have nB35 := nA35.symm; clear tt tu)); (try (have tt := kR2; have ltkR2 : wT.heap.size + 1 < wR.heap.size := (by omega); have nA36 : wT.heap.size + 1 ≠ w.heap.size := (by omega); have nB36 := nA36.symm; have nA37 : wT.heap.size + 1 ≠ w.heap.size + 1 := (by omega); have nB37 := nA37.symm; have nA38 : wT.heap.size + 1 ≠ wR.heap.size := (by omega); have nB38 := nA38.symm; have nA39 : wT.heap.size + 1 ≠ wR.heap.size + 1 := (by omega); have nB39 := nA39.symm; clear tt)); clear zz sP sPT sTR; (try (have qq := jaB kP1; obtain ⟨ckP10, ckP11, ckP12, ckP13, fkP10, fkP11, fkP12, fkP13⟩ := qq)); (try (have qq := jaB kP2; obtain ⟨ckP20, ckP21, ckP22, ckP23, fkP20, fkP21, fkP22, fkP23⟩ := qq)); (try (have qq := jaB kT1; obtain ⟨ckT10, ckT11, ckT12, ckT13, fkT10, fkT11, fkT12, fkT13⟩ := qq)); (try (have qq := jaB kT2; obtain ⟨ckT20, ckT21, ckT22, ckT23, fkT20, fkT21, fkT22, fkT23⟩ := qq)); (try (have qq := jaB kR1; obtain ⟨ckR10, ckR11, ckR12, ckR13, fkR10, fkR11, fkR12, fkR13⟩ := qq)); (try (have qq := jaB kR2; obtain ⟨ckR20, ckR21, ckR22, ckR23, fkR20, fkR21, fkR22, fkR23⟩ := qq))) | ((fail_if_success (have dd := done2)); have dd := done1; go_at_call 86; refine (TY.out _ (jaa gP (by with_reducible first | exact jag (jaf _) | exact jag (jab _ _) | exact jag (jaa (jab _ _) (jab _ _)) | exact jaf _ | exact jab _ _ | exact jaa (jab _ _) (jab _ _)))).mono ?_; rintro e wT ⟨⟨da, dn, dc⟩, ⟨ta, tn, tc⟩, rfl, hod, hot, hgT⟩; have gPT : wP.grownBy wT none := jaa (by with_reducible first | exact jag (jaf _) | exact jag (jab _ _) | exact jag (jaa (jab _ _) (jab _ _)) | exact jaf _ | exact jab _ _ | exact jaa (jab _ _) (jab _ _)) hgT; have gT : w0.grownBy wT none := jaa gP gPT; obtain ⟨x0, x1, x2⟩ := jal (BX.out wT gT).1; obtain ⟨y0, y1, y2⟩ := jal (BX.out wT gT).2; (try (with_reducible (replace kP1 := jad kP1 gPT))); (try (with_reducible (replace kP2 := jad kP2 gPT))); (first | ((with_reducible (have kk := jpj hgT)); obtain ⟨kT1, kT2⟩ := kk) | ((with_reducible (have kk := new2 hgT)); obtain ⟨kT1, kT2⟩ := kk) | (with_reducible (have kT1 := jpi hgT)) | (with_reducible (have kT1 := new1 hgT)) | skip); (try (have lT1 := (Array.getElem?_eq_some_iff.1 kT1).1)); (try (have lT2 := (Array.getElem?_eq_some_iff.1 kT2).1)); unfold jdL; simp only; have done2 : True := trivial) | ((fail_if_success (have dd := done1)); go_at_call 85; refine (PX.out _ (by with_reducible first | exact jag (jaf _) | exact jag (jab _ _) | exact jag (jaa (jab _ _) (jab _ _)) | exact jaf _ | exact jab _ _ | exact jaa (jab _ _) (jab _ _))).mono ?_; rintro e wP ⟨rfl, hgP⟩; have gP : w0.grownBy wP none := jaa (by with_reducible first | exact jag (jaf _) | exact jag (jab _ _) | exact jag (jaa (jab _ _) (jab _ _)) | exact jaf _ | exact jab _ _ | exact jaa (jab _ _) (jab _ _)) hgP; obtain ⟨x0, x1, x2⟩ := jal (BX.out wP gP).1; obtain ⟨y0, y1, y2⟩ := jal (BX.out wP gP).2; (first | ((with_reducible (have kk := jpj hgP)); obtain ⟨kP1, kP2⟩ := kk) | ((with_reducible (have kk := new2 hgP)); obtain ⟨kP1, kP2⟩ := kk) | (with_reducible (have kP1 := jpi hgP)) | (with_reducible (have kP1 := new1 hgP)) | skip); (try (have lP1 := (Array.getElem?_eq_some_iff.1 kP1).1)); (try (have lP2 := (Array.getElem?_eq_some_iff.1 kP2).1)); have done1 : True := trivial) | fail)
      all_goals (go_wp2_with fail; go_meet)
      all_goals
       have HD := jlw hod gTR
       have HTT : Vw.Owns64 wR _ (Sl.v ⟨ta, tn, tc⟩) yt := ⟨hot.1.kept gTR (by cases (Sl.v ⟨ta, tn, tc⟩).ownBlock <;> simp), hot.2⟩
       have g1 := gP.size
       have g2 := gPT.size
       have g3 := gTR.size
       first
        | (with_reducible (have q := jlx (.cells #[.slice xa n xc, .int .i64 a, .int .i64 k, .slice xd xm xk] 128) (.cells #[.slice da n dc, .int .i64 b, .int .i64 k, .slice ta tn tc] 128) HD HTT gR); exact ⟨_, _, ⟨da, dn, dc⟩, ⟨ta, tn, tc⟩, rfl, rfl, q.1, q.2.1, q.2.2.d, q.2.2.t, q.2.2.g⟩)
        | (with_reducible (have q := jlx (.cells #[.slice da n dc, .int .i64 b, .int .i64 k, .slice ta tn tc] 128) (.cells #[.slice xa n xc, .int .i64 a, .int .i64 k, .slice xd xm xk] 128) HD HTT gR); exact ⟨_, _, ⟨da, dn, dc⟩, ⟨ta, tn, tc⟩, rfl, rfl, q.2.1, q.1, q.2.2.d, q.2.2.t, q.2.2.g⟩)
        | (with_reducible (have q := jbW (.slice xa n xc) (.int .i64 a) (.int .i64 k) (.slice xd xm xk) (.cells #[.slice da n dc, .int .i64 b, .int .i64 k, .slice ta tn tc] 128) HD HTT gR kP1 (by omega)); exact ⟨_, _, ⟨da, dn, dc⟩, ⟨ta, tn, tc⟩, rfl, rfl, q.1, q.2.1, q.2.2.d, q.2.2.t, q.2.2.g⟩)
        | (with_reducible (have q := jbW (.slice da n dc) (.int .i64 b) (.int .i64 k) (.slice ta tn tc) (.cells #[.slice xa n xc, .int .i64 a, .int .i64 k, .slice xd xm xk] 128) HD HTT gR kP1 (by omega)); exact ⟨_, _, ⟨da, dn, dc⟩, ⟨ta, tn, tc⟩, rfl, rfl, q.2.1, q.1, q.2.2.d, q.2.2.t, q.2.2.g⟩)
        | (with_reducible (have q := jbW (.slice xa n xc) (.int .i64 a) (.int .i64 k) (.slice xd xm xk) (.cells #[.slice da n dc, .int .i64 b, .int .i64 k, .slice ta tn tc] 128) HD HTT gR kP2 (by omega)); exact ⟨_, _, ⟨da, dn, dc⟩, ⟨ta, tn, tc⟩, rfl, rfl, q.1, q.2.1, q.2.2.d, q.2.2.t, q.2.2.g⟩)
        | (with_reducible (have q := jbW (.slice da n dc) (.int .i64 b) (.int .i64 k) (.slice ta tn tc) (.cells #[.slice xa n xc, .int .i64 a, .int .i64 k, .slice xd xm xk] 128) HD HTT gR kP2 (by omega)); exact ⟨_, _, ⟨da, dn, dc⟩, ⟨ta, tn, tc⟩, rfl, rfl, q.2.1, q.1, q.2.2.d, q.2.2.t, q.2.2.g⟩)
        | (with_reducible (have q := jbW (.slice xa n xc) (.int .i64 a) (.int .i64 k) (.slice xd xm xk) (.cells #[.slice da n dc, .int .i64 b, .int .i64 k, .slice ta tn tc] 128) HD HTT gR kT1 (by omega)); exact ⟨_, _, ⟨da, dn, dc⟩, ⟨ta, tn, tc⟩, rfl, rfl, q.1, q.2.1, q.2.2.d, q.2.2.t, q.2.2.g⟩)
        | (with_reducible (have q := jbW (.slice da n dc) (.int .i64 b) (.int .i64 k) (.slice ta tn tc) (.cells #[.slice xa n xc, .int .i64 a, .int .i64 k, .slice xd xm xk] 128) HD HTT gR kT1 (by omega)); exact ⟨_, _, ⟨da, dn, dc⟩, ⟨ta, tn, tc⟩, rfl, rfl, q.2.1, q.1, q.2.2.d, q.2.2.t, q.2.2.g⟩)
        | (with_reducible (have q := jbW (.slice xa n xc) (.int .i64 a) (.int .i64 k) (.slice xd xm xk) (.cells #[.slice da n dc, .int .i64 b, .int .i64 k, .slice ta tn tc] 128) HD HTT gR kT2 (by omega)); exact ⟨_, _, ⟨da, dn, dc⟩, ⟨ta, tn, tc⟩, rfl, rfl, q.1, q.2.1, q.2.2.d, q.2.2.t, q.2.2.g⟩)
        | (with_reducible (have q := jbW (.slice da n dc) (.int .i64 b) (.int .i64 k) (.slice ta tn tc) (.cells #[.slice xa n xc, .int .i64 a, .int .i64 k, .slice xd xm xk] 128) HD HTT gR kT2 (by omega)); exact ⟨_, _, ⟨da, dn, dc⟩, ⟨ta, tn, tc⟩, rfl, rfl, q.2.1, q.1, q.2.2.d, q.2.2.t, q.2.2.g⟩)
        | (with_reducible (have q := jbW (.slice xa n xc) (.int .i64 a) (.int .i64 k) (.slice xd xm xk) (.cells #[.slice da n dc, .int .i64 b, .int .i64 k, .slice ta tn tc] 128) HD HTT gR kR1 (by omega)); exact ⟨_, _, ⟨da, dn, dc⟩, ⟨ta, tn, tc⟩, rfl, rfl, q.1, q.2.1, q.2.2.d, q.2.2.t, q.2.2.g⟩)
        | (with_reducible (have q := jbW (.slice da n dc) (.int .i64 b) (.int .i64 k) (.slice ta tn tc) (.cells #[.slice xa n xc, .int .i64 a, .int .i64 k, .slice xd xm xk] 128) HD HTT gR kR1 (by omega)); exact ⟨_, _, ⟨da, dn, dc⟩, ⟨ta, tn, tc⟩, rfl, rfl, q.2.1, q.1, q.2.2.d, q.2.2.t, q.2.2.g⟩)
        | (with_reducible (have q := jbW (.slice xa n xc) (.int .i64 a) (.int .i64 k) (.slice xd xm xk) (.cells #[.slice da n dc, .int .i64 b, .int .i64 k, .slice ta tn tc] 128) HD HTT gR kR2 (by omega)); exact ⟨_, _, ⟨da, dn, dc⟩, ⟨ta, tn, tc⟩, rfl, rfl, q.1, q.2.1, q.2.2.d, q.2.2.t, q.2.2.g⟩)
        | (with_reducible (have q := jbW (.slice da n dc) (.int .i64 b) (.int .i64 k) (.slice ta tn tc) (.cells #[.slice xa n xc, .int .i64 a, .int .i64 k, .slice xd xm xk] 128) HD HTT gR kR2 (by omega)); exact ⟨_, _, ⟨da, dn, dc⟩, ⟨ta, tn, tc⟩, rfl, rfl, q.2.1, q.1, q.2.2.d, q.2.2.t, q.2.2.g⟩)
        | (with_reducible (have q := jaZ (.slice xa n xc) (.int .i64 a) (.int .i64 k) (.slice xd xm xk) (.slice da n dc) (.int .i64 b) (.int .i64 k) (.slice ta tn tc) HD HTT gR kP1 kP2 (by first | assumption | omega) (by omega) (by omega)); exact ⟨_, _, ⟨da, dn, dc⟩, ⟨ta, tn, tc⟩, rfl, rfl, q.1, q.2.1, q.2.2.d, q.2.2.t, q.2.2.g⟩)
        | (with_reducible (have q := jaZ (.slice xa n xc) (.int .i64 a) (.int .i64 k) (.slice xd xm xk) (.slice da n dc) (.int .i64 b) (.int .i64 k) (.slice ta tn tc) HD HTT gR kP1 kT1 (by first | assumption | omega) (by omega) (by omega)); exact ⟨_, _, ⟨da, dn, dc⟩, ⟨ta, tn, tc⟩, rfl, rfl, q.1, q.2.1, q.2.2.d, q.2.2.t, q.2.2.g⟩)
        | (with_reducible (have q := jaZ (.slice xa n xc) (.int .i64 a) (.int .i64 k) (.slice xd xm xk) (.slice da n dc) (.int .i64 b) (.int .i64 k) (.slice ta tn tc) HD HTT gR kP1 kT2 (by first | assumption | omega) (by omega) (by omega)); exact ⟨_, _, ⟨da, dn, dc⟩, ⟨ta, tn, tc⟩, rfl, rfl, q.1, q.2.1, q.2.2.d, q.2.2.t, q.2.2.g⟩)
        | (with_reducible (have q := jaZ (.slice xa n xc) (.int .i64 a) (.int .i64 k) (.slice xd xm xk) (.slice da n dc) (.int .i64 b) (.int .i64 k) (.slice ta tn tc) HD HTT gR kP1 kR1 (by first | assumption | omega) (by omega) (by omega)); exact ⟨_, _, ⟨da, dn, dc⟩, ⟨ta, tn, tc⟩, rfl, rfl, q.1, q.2.1, q.2.2.d, q.2.2.t, q.2.2.g⟩)
        | (with_reducible (have q := jaZ (.slice xa n xc) (.int .i64 a) (.int .i64 k) (.slice xd xm xk) (.slice da n dc) (.int .i64 b) (.int .i64 k) (.slice ta tn tc) HD HTT gR kP1 kR2 (by first | assumption | omega) (by omega) (by omega)); exact ⟨_, _, ⟨da, dn, dc⟩, ⟨ta, tn, tc⟩, rfl, rfl, q.1, q.2.1, q.2.2.d, q.2.2.t, q.2.2.g⟩)
        | (with_reducible (have q := jaZ (.slice xa n xc) (.int .i64 a) (.int .i64 k) (.slice xd xm xk) (.slice da n dc) (.int .i64 b) (.int .i64 k) (.slice ta tn tc) HD HTT gR kP2 kP1 (by first | assumption | omega) (by omega) (by omega)); exact ⟨_, _, ⟨da, dn, dc⟩, ⟨ta, tn, tc⟩, rfl, rfl, q.1, q.2.1, q.2.2.d, q.2.2.t, q.2.2.g⟩)
        | (with_reducible (have q := jaZ (.slice xa n xc) (.int .i64 a) (.int .i64 k) (.slice xd xm xk) (.slice da n dc) (.int .i64 b) (.int .i64 k) (.slice ta tn tc) HD HTT gR kP2 kT1 (by first | assumption | omega) (by omega) (by omega)); exact ⟨_, _, ⟨da, dn, dc⟩, ⟨ta, tn, tc⟩, rfl, rfl, q.1, q.2.1, q.2.2.d, q.2.2.t, q.2.2.g⟩)
        | (with_reducible (have q := jaZ (.slice xa n xc) (.int .i64 a) (.int .i64 k) (.slice xd xm xk) (.slice da n dc) (.int .i64 b) (.int .i64 k) (.slice ta tn tc) HD HTT gR kP2 kT2 (by first | assumption | omega) (by omega) (by omega)); exact ⟨_, _, ⟨da, dn, dc⟩, ⟨ta, tn, tc⟩, rfl, rfl, q.1, q.2.1, q.2.2.d, q.2.2.t, q.2.2.g⟩)
        | (with_reducible (have q := jaZ (.slice xa n xc) (.int .i64 a) (.int .i64 k) (.slice xd xm xk) (.slice da n dc) (.int .i64 b) (.int .i64 k) (.slice ta tn tc) HD HTT gR kP2 kR1 (by first | assumption | omega) (by omega) (by omega)); exact ⟨_, _, ⟨da, dn, dc⟩, ⟨ta, tn, tc⟩, rfl, rfl, q.1, q.2.1, q.2.2.d, q.2.2.t, q.2.2.g⟩)
        | (with_reducible (have q := jaZ (.slice xa n xc) (.int .i64 a) (.int .i64 k) (.slice xd xm xk) (.slice da n dc) (.int .i64 b) (.int .i64 k) (.slice ta tn tc) HD HTT gR kP2 kR2 (by first | assumption | omega) (by omega) (by omega)); exact ⟨_, _, ⟨da, dn, dc⟩, ⟨ta, tn, tc⟩, rfl, rfl, q.1, q.2.1, q.2.2.d, q.2.2.t, q.2.2.g⟩)
        | (with_reducible (have q := jaZ (.slice xa n xc) (.int .i64 a) (.int .i64 k) (.slice xd xm xk) (.slice da n dc) (.int .i64 b) (.int .i64 k) (.slice ta tn tc) HD HTT gR kT1 kP1 (by first | assumption | omega) (by omega) (by omega)); exact ⟨_, _, ⟨da, dn, dc⟩, ⟨ta, tn, tc⟩, rfl, rfl, q.1, q.2.1, q.2.2.d, q.2.2.t, q.2.2.g⟩)
        | (with_reducible (have q := jaZ (.slice xa n xc) (.int .i64 a) (.int .i64 k) (.slice xd xm xk) (.slice da n dc) (.int .i64 b) (.int .i64 k) (.slice ta tn tc) HD HTT gR kT1 kP2 (by first | assumption | omega) (by omega) (by omega)); exact ⟨_, _, ⟨da, dn, dc⟩, ⟨ta, tn, tc⟩, rfl, rfl, q.1, q.2.1, q.2.2.d, q.2.2.t, q.2.2.g⟩)
        | (with_reducible (have q := jaZ (.slice xa n xc) (.int .i64 a) (.int .i64 k) (.slice xd xm xk) (.slice da n dc) (.int .i64 b) (.int .i64 k) (.slice ta tn tc) HD HTT gR kT1 kT2 (by first | assumption | omega) (by omega) (by omega)); exact ⟨_, _, ⟨da, dn, dc⟩, ⟨ta, tn, tc⟩, rfl, rfl, q.1, q.2.1, q.2.2.d, q.2.2.t, q.2.2.g⟩)
        | (with_reducible (have q := jaZ (.slice xa n xc) (.int .i64 a) (.int .i64 k) (.slice xd xm xk) (.slice da n dc) (.int .i64 b) (.int .i64 k) (.slice ta tn tc) HD HTT gR kT1 kR1 (by first | assumption | omega) (by omega) (by omega)); exact ⟨_, _, ⟨da, dn, dc⟩, ⟨ta, tn, tc⟩, rfl, rfl, q.1, q.2.1, q.2.2.d, q.2.2.t, q.2.2.g⟩)
        | (with_reducible (have q := jaZ (.slice xa n xc) (.int .i64 a) (.int .i64 k) (.slice xd xm xk) (.slice da n dc) (.int .i64 b) (.int .i64 k) (.slice ta tn tc) HD HTT gR kT1 kR2 (by first | assumption | omega) (by omega) (by omega)); exact ⟨_, _, ⟨da, dn, dc⟩, ⟨ta, tn, tc⟩, rfl, rfl, q.1, q.2.1, q.2.2.d, q.2.2.t, q.2.2.g⟩)
        | (with_reducible (have q := jaZ (.slice xa n xc) (.int .i64 a) (.int .i64 k) (.slice xd xm xk) (.slice da n dc) (.int .i64 b) (.int .i64 k) (.slice ta tn tc) HD HTT gR kT2 kP1 (by first | assumption | omega) (by omega) (by omega)); exact ⟨_, _, ⟨da, dn, dc⟩, ⟨ta, tn, tc⟩, rfl, rfl, q.1, q.2.1, q.2.2.d, q.2.2.t, q.2.2.g⟩)
        | (with_reducible (have q := jaZ (.slice xa n xc) (.int .i64 a) (.int .i64 k) (.slice xd xm xk) (.slice da n dc) (.int .i64 b) (.int .i64 k) (.slice ta tn tc) HD HTT gR kT2 kP2 (by first | assumption | omega) (by omega) (by omega)); exact ⟨_, _, ⟨da, dn, dc⟩, ⟨ta, tn, tc⟩, rfl, rfl, q.1, q.2.1, q.2.2.d, q.2.2.t, q.2.2.g⟩)
        | (with_reducible (have q := jaZ (.slice xa n xc) (.int .i64 a) (.int .i64 k) (.slice xd xm xk) (.slice da n dc) (.int .i64 b) (.int .i64 k) (.slice ta tn tc) HD HTT gR kT2 kT1 (by first | assumption | omega) (by omega) (by omega)); exact ⟨_, _, ⟨da, dn, dc⟩, ⟨ta, tn, tc⟩, rfl, rfl, q.1, q.2.1, q.2.2.d, q.2.2.t, q.2.2.g⟩)
        | (with_reducible (have q := jaZ (.slice xa n xc) (.int .i64 a) (.int .i64 k) (.slice xd xm xk) (.slice da n dc) (.int .i64 b) (.int .i64 k) (.slice ta tn tc) HD HTT gR kT2 kR1 (by first | assumption | omega) (by omega) (by omega)); exact ⟨_, _, ⟨da, dn, dc⟩, ⟨ta, tn, tc⟩, rfl, rfl, q.1, q.2.1, q.2.2.d, q.2.2.t, q.2.2.g⟩)
        | (with_reducible (have q := jaZ (.slice xa n xc) (.int .i64 a) (.int .i64 k) (.slice xd xm xk) (.slice da n dc) (.int .i64 b) (.int .i64 k) (.slice ta tn tc) HD HTT gR kT2 kR2 (by first | assumption | omega) (by omega) (by omega)); exact ⟨_, _, ⟨da, dn, dc⟩, ⟨ta, tn, tc⟩, rfl, rfl, q.1, q.2.1, q.2.2.d, q.2.2.t, q.2.2.g⟩)
        | (with_reducible (have q := jaZ (.slice xa n xc) (.int .i64 a) (.int .i64 k) (.slice xd xm xk) (.slice da n dc) (.int .i64 b) (.int .i64 k) (.slice ta tn tc) HD HTT gR kR1 kP1 (by first | assumption | omega) (by omega) (by omega)); exact ⟨_, _, ⟨da, dn, dc⟩, ⟨ta, tn, tc⟩, rfl, rfl, q.1, q.2.1, q.2.2.d, q.2.2.t, q.2.2.g⟩)
        | (with_reducible (have q := jaZ (.slice xa n xc) (.int .i64 a) (.int .i64 k) (.slice xd xm xk) (.slice da n dc) (.int .i64 b) (.int .i64 k) (.slice ta tn tc) HD HTT gR kR1 kP2 (by first | assumption | omega) (by omega) (by omega)); exact ⟨_, _, ⟨da, dn, dc⟩, ⟨ta, tn, tc⟩, rfl, rfl, q.1, q.2.1, q.2.2.d, q.2.2.t, q.2.2.g⟩)
        | (with_reducible (have q := jaZ (.slice xa n xc) (.int .i64 a) (.int .i64 k) (.slice xd xm xk) (.slice da n dc) (.int .i64 b) (.int .i64 k) (.slice ta tn tc) HD HTT gR kR1 kT1 (by first | assumption | omega) (by omega) (by omega)); exact ⟨_, _, ⟨da, dn, dc⟩, ⟨ta, tn, tc⟩, rfl, rfl, q.1, q.2.1, q.2.2.d, q.2.2.t, q.2.2.g⟩)
        | (with_reducible (have q := jaZ (.slice xa n xc) (.int .i64 a) (.int .i64 k) (.slice xd xm xk) (.slice da n dc) (.int .i64 b) (.int .i64 k) (.slice ta tn tc) HD HTT gR kR1 kT2 (by first | assumption | omega) (by omega) (by omega)); exact ⟨_, _, ⟨da, dn, dc⟩, ⟨ta, tn, tc⟩, rfl, rfl, q.1, q.2.1, q.2.2.d, q.2.2.t, q.2.2.g⟩)
        | (with_reducible (have q := jaZ (.slice xa n xc) (.int .i64 a) (.int .i64 k) (.slice xd xm xk) (.slice da n dc) (.int .i64 b) (.int .i64 k) (.slice ta tn tc) HD HTT gR kR1 kR2 (by first | assumption | omega) (by omega) (by omega)); exact ⟨_, _, ⟨da, dn, dc⟩, ⟨ta, tn, tc⟩, rfl, rfl, q.1, q.2.1, q.2.2.d, q.2.2.t, q.2.2.g⟩)
        | (with_reducible (have q := jaZ (.slice xa n xc) (.int .i64 a) (.int .i64 k) (.slice xd xm xk) (.slice da n dc) (.int .i64 b) (.int .i64 k) (.slice ta tn tc) HD HTT gR kR2 kP1 (by first | assumption | omega) (by omega) (by omega)); exact ⟨_, _, ⟨da, dn, dc⟩, ⟨ta, tn, tc⟩, rfl, rfl, q.1, q.2.1, q.2.2.d, q.2.2.t, q.2.2.g⟩)
        | (with_reducible (have q := jaZ (.slice xa n xc) (.int .i64 a) (.int .i64 k) (.slice xd xm xk) (.slice da n dc) (.int .i64 b) (.int .i64 k) (.slice ta tn tc) HD HTT gR kR2 kP2 (by first | assumption | omega) (by omega) (by omega)); exact ⟨_, _, ⟨da, dn, dc⟩, ⟨ta, tn, tc⟩, rfl, rfl, q.1, q.2.1, q.2.2.d, q.2.2.t, q.2.2.g⟩)
        | (with_reducible (have q := jaZ (.slice xa n xc) (.int .i64 a) (.int .i64 k) (.slice xd xm xk) (.slice da n dc) (.int .i64 b) (.int .i64 k) (.slice ta tn tc) HD HTT gR kR2 kT1 (by first | assumption | omega) (by omega) (by omega)); exact ⟨_, _, ⟨da, dn, dc⟩, ⟨ta, tn, tc⟩, rfl, rfl, q.1, q.2.1, q.2.2.d, q.2.2.t, q.2.2.g⟩)
        | (with_reducible (have q := jaZ (.slice xa n xc) (.int .i64 a) (.int .i64 k) (.slice xd xm xk) (.slice da n dc) (.int .i64 b) (.int .i64 k) (.slice ta tn tc) HD HTT gR kR2 kT2 (by first | assumption | omega) (by omega) (by omega)); exact ⟨_, _, ⟨da, dn, dc⟩, ⟨ta, tn, tc⟩, rfl, rfl, q.1, q.2.1, q.2.2.d, q.2.2.t, q.2.2.g⟩)
        | (with_reducible (have q := jaZ (.slice xa n xc) (.int .i64 a) (.int .i64 k) (.slice xd xm xk) (.slice da n dc) (.int .i64 b) (.int .i64 k) (.slice ta tn tc) HD HTT gR kR2 kR1 (by first | assumption | omega) (by omega) (by omega)); exact ⟨_, _, ⟨da, dn, dc⟩, ⟨ta, tn, tc⟩, rfl, rfl, q.1, q.2.1, q.2.2.d, q.2.2.t, q.2.2.g⟩)
     case rest =>
      obtain ⟨B7, B8, ⟨da, dn, dc⟩, ⟨ta, tn, tc⟩, rfl, rfl, h7, h8, hd, ht, hg⟩ := hcut
      simp only at h8
      have H7 : Hid (∀ wx, wc.grownBy wx none → wx.heap[B7]? = some (.cells #[.slice xa n xc, .int .i64 a, .int .i64 k, .slice xd xm xk] 128 (0, 0))) := fun wx hx => jad h7 hx
      have H8 : Hid (∀ wx, wc.grownBy wx none → wx.heap[B8]? = some (.cells #[.slice da n dc, .int .i64 b, .int .i64 k, .slice ta tn tc] 128 (0, 0))) := fun wx hx => jad h8 hx
      have HD := jae hd
      have HT := jae ht
      have HG := jae (jaa G0.out hg)
      obtain ⟨p0, p1, p2, p3, -⟩ := jaB h7
      obtain ⟨q0, q1, q2, q3, -⟩ := jaB h8
      have i1 : (n : Int) + 2 - 2 = n := by omega
      have SL : Hid (∀ wx, wc.grownBy wx none → Calls Tryz.prog 87 #[.agg #[.slice xa n xc, .int .i64 a, .int .i64 k, .slice xd xm xk], .slice za n zc] wx fun e w' => ∃ u : Sl, e = .returned u.v ∧ Vw.Owns64 w' wx.heap.size u.v (jbh N) ∧ wx.grownBy w' none) := fun wx hx => by
       have f1 := ((HXD.out.more (jaa HG.out hx)).front (k := n) (by rw [List.length_append, HAL.out]; omega))
       have f2 := ((HZD.out.more (jaa HG.out hx)).front (k := n) (by rw [List.length_append, HAL.out]; omega))
       rw [List.take_left' HAL.out] at f1 f2
       have h := jeW ⟨xa, n, xc⟩ ⟨xd, xm, xk⟩ ⟨za, n, zc⟩ a k A wx HCA.out f1 f2
       rw [HNN.out] at h
       exact h
      have SR : Hid (∀ wx, wc.grownBy wx none → Calls Tryz.prog 87 #[.agg #[.slice da n dc, .int .i64 b, .int .i64 k, .slice ta tn tc], .slice za n zc] wx fun e w' => ∃ u : Sl, e = .returned u.v ∧ Vw.Owns64 w' wx.heap.size u.v (jbh N) ∧ wx.grownBy w' none) := fun wx hx => by
       have f0 := HD.out.more hx
       rw [HDT.out] at f0
       have f1 := f0.front (k := n) (by rw [List.length_append, HAL.out]; omega)
       have f2 := ((HZD.out.more (jaa HG.out hx)).front (k := n) (by rw [List.length_append, HAL.out]; omega))
       rw [List.take_left' HAL.out] at f1 f2
       have h := jeW ⟨da, n, dc⟩ ⟨ta, tn, tc⟩ ⟨za, n, zc⟩ b k A wx HCA.out f1 f2
       rw [HNN.out] at h
       exact h
      clear h7 h8 hd ht hg
      go_wp2_with fail
      go_region_held3 (fun w' => w'.cell? ⟨B7, 0, none⟩ = some (.slice xa n xc) ∧ w'.cell? ⟨B7, 1, none⟩ = some (.int .i64 a) ∧ w'.cell? ⟨B7, 2, none⟩ = some (.int .i64 k) ∧ w'.cell? ⟨B7, 3, none⟩ = some (.slice xd xm xk) ∧ w'.cell? ⟨B8, 0, none⟩ = some (.slice da n dc) ∧ w'.cell? ⟨B8, 1, none⟩ = some (.int .i64 b) ∧ w'.cell? ⟨B8, 2, none⟩ = some (.int .i64 k) ∧ w'.cell? ⟨B8, 3, none⟩ = some (.slice ta tn tc)) (go_keep) (first | (have dd := done1; go_at_call 87; refine (SR.out _ g5).mono ?_; rintro e w6 ⟨⟨ca, cn, cc⟩, rfl, ho6, hg6⟩; have g6 : wc.grownBy w6 none := jaa g5 hg6; obtain ⟨p0, p1, p2, p3, -⟩ := jaB (H7.out w6 g6); obtain ⟨q0, q1, q2, q3, -⟩ := jaB (H8.out w6 g6)) | ((fail_if_success (have dd := done1)); go_at_call 87; refine (SL.out _ (jag (jaf _))).mono ?_; rintro e w5 ⟨⟨ra, rn, rc⟩, rfl, ho5, hg5⟩; have g5 : wc.grownBy w5 none := jaa (jag (jaf _)) hg5; obtain ⟨p0, p1, p2, p3, -⟩ := jaB (H7.out w5 g5); obtain ⟨q0, q1, q2, q3, -⟩ := jaB (H8.out w5 g5); have done1 : True := trivial) | fail)
      simp only [Sl.v]
      obtain ⟨rx, rcc, er, r1, r2, r3⟩ := (jaI.ints (w := w5) ho5).sl
      rw [jaO] at er r1 r3
      simp only [Sl.v, Value.slice.injEq] at er
      obtain ⟨rfl, ern, rfl⟩ := er
      replace ern := ern.symm
      subst ern
      obtain ⟨cx, ccc, ec, s1, s2, s3⟩ := (jaI.ints (w := w6) ho6).sl
      rw [jaO] at ec s1 s3
      simp only [Sl.v, Value.slice.injEq] at ec
      obtain ⟨rfl, ecn, rfl⟩ := ec
      replace ecn := ecn.symm
      subst ecn
      obtain ⟨rb, ro, rfl, hrc⟩ := (jaI.ints (w := w5) ho5).get (k := 0) (by rw [jaO]; exact HN1.out)
      obtain ⟨cb, co, rfl, hcc⟩ := (jaI.ints (w := w6) ho6).get (k := 0) (by rw [jaO]; exact HN1.out)
      have RC : Hid (∀ t, t < N → w6.cell? ⟨rb, ro + t, none⟩ = some (.int .i64 t)) := fun t h => by
       have := jac (hrc t (by rw [jaO]; exact h)) hg6
       rwa [jlv h] at this
      have CC : Hid (∀ t, t < N → w6.cell? ⟨cb, co + t, none⟩ = some (.int .i64 t)) := fun t h => by
       have := hcc t (by rw [jaO]; exact h)
       rwa [jlv h] at this
      have HS6 := jae g6
      have GW6 := jae (jaa HG.out g6)
      clear hrc hcc ho5 hg5 ho6 hg6 g5 g6 p0 p1 p2 p3 q0 q1 q2 q3 done1 i1
      go_wp2_with fail
      go_loopw [12, 32] (fun d i wr => w6.grownBy wr none ∧ ∃ (t D : Nat) (va : Option Addr) (vc : Nat), t ≤ N ∧ i = .int .i64 t ∧ D = t * (a * b) ∧ d = .slice va D vc ∧ jaI wr w6.heap.size (.slice va D vc) (jeB xs yt t a k b)) (fun _ i _ => N - (intOf i).toNat)
      case atStart => exact ⟨jaf _, 0, 0, none, 0, Nat.zero_le _, rfl, by rw [Nat.zero_mul], rfl, jcT (World.ownsRow_nil _ _ _ _)⟩
      case round =>
       obtain ⟨hgr, t, D, va, vc, htl, rfl, hDE, rfl, ho⟩ := hrel
       have HGr := jae hgr
       have HO := jae ho
       have HDE := jae hDE
       clear ho hDE
       by_cases hlt : t < N
       ·obtain ⟨p0, p1, p2, p3, -⟩ := jaB (H7.out wr (jaa HS6.out hgr))
        obtain ⟨q0, q1, q2, q3, -⟩ := jaB (H8.out wr (jaa HS6.out hgr))
        have RC6 := jae (RC.out t hlt)
        have CC6 := jae (CC.out t hlt)
        have rc0 := jac RC6.out hgr
        have cc0 := jac CC6.out hgr
        have TB : Hid (∀ m, t * m + m ≤ N * m) := fun m => by
         rw [show t * m + m = (t + 1) * m from by rw [Nat.add_mul]; omega]
         exact Nat.mul_le_mul_right _ hlt
        have BL : Hid (∀ wx, wr.grownBy wx none → Calls Tryz.prog 88 #[.agg #[.slice xa n xc, .int .i64 a, .int .i64 k, .slice xd xm xk], .int .i64 t] wx fun e w' => ∃ (u : Sl) (rs : List (Sl × List Int)), e = .returned u.v ∧ Blk w' u.v rs k ∧ rs.map (·.2) = blk xs t a k ∧ wx.grownBy w' none) := fun wx hx => jgO ⟨xa, n, xc⟩ a k t ⟨xd, xm, xk⟩ xs wx (HXS.out.more (jaa GW6.out (jaa hgr hx))) SA1.out SK1.out (by rw [HXT.out]; exact TB.out _) SX.out
        have BR : Hid (∀ wx, wr.grownBy wx none → Calls Tryz.prog 88 #[.agg #[.slice da n dc, .int .i64 b, .int .i64 k, .slice ta tn tc], .int .i64 t] wx fun e w' => ∃ (u : Sl) (rs : List (Sl × List Int)), e = .returned u.v ∧ Blk w' u.v rs k ∧ rs.map (·.2) = blk yt t b k ∧ wx.grownBy w' none) := fun wx hx => jgO ⟨da, n, dc⟩ b k t ⟨ta, tn, tc⟩ yt wx (HT.out.more (jaa HS6.out (jaa hgr hx))) SB1.out SK1.out (by rw [HYT.out]; exact TB.out _) SY.out
        have LN : Hid ((jeB xs yt t a k b).length = D) := by show _ = _; rw [ji4, HDE.out]
        have DL : Hid (D + a * b ≤ 65536) := by
         have h1 := TB.out (a * b)
         have h2 := SZ.out
         have h3 := HDE.out
         show _ ≤ _
         omega
        have tl : (t : Int) < (N : Int) := by omega
        have tl5 : t < 70000 := by have := SN.out; omega
        clear hgr
        go_wp2_with fail
        refine wp_region_held_drew (S := (fun w' => w'.cell? ⟨B7, 0, none⟩ = some (.slice xa n xc) ∧ w'.cell? ⟨B7, 1, none⟩ = some (.int .i64 a) ∧ w'.cell? ⟨B7, 2, none⟩ = some (.int .i64 k) ∧ w'.cell? ⟨B7, 3, none⟩ = some (.slice xd xm xk) ∧ w'.cell? ⟨B8, 0, none⟩ = some (.slice da n dc) ∧ w'.cell? ⟨B8, 1, none⟩ = some (.int .i64 b) ∧ w'.cell? ⟨B8, 2, none⟩ = some (.int .i64 k) ∧ w'.cell? ⟨B8, 3, none⟩ = some (.slice ta tn tc) ∧ w'.cell? ⟨rb, ro + t, none⟩ = some (.int .i64 t) ∧ w'.cell? ⟨cb, co + t, none⟩ = some (.int .i64 t))) (by kernel_rfl) (by go_keep) (fun hHeld => ?_)
        refine tkA 0 ?_
        try simp only [Act.put]
        refine tkA 1 ?_
        try simp only [Act.put]
        refine tkA 2 ?_
        try simp only [Act.put]
        refine tkA 3 ?_
        try simp only [Act.put]
        refine tkA 4 ?_
        try simp only [Act.put]
        refine tkA 5 ?_
        try simp only [Act.put]
        refine tkA 7 ?_
        try simp only [Act.put]
        refine tkA 8 ?_
        try simp only [Act.put]
        refine tkA 9 ?_
        try simp only [Act.put]
        refine tkA 10 ?_
        try simp only [Act.put]
        refine tkA 11 ?_
        try simp only [Act.put]
        refine wpAnyH_ready (rs := [6]) (by kernel_rfl) (by simp) ?_
        refine AllReadyH.cons rfl (fun K hK => ?_) ?_
        ·skip
         go_simp
         refine (BL.out _ (jag (jaf _))).mono ?_
         rintro e w7 ⟨⟨pa, pn, pc⟩, rs, rfl, hB1, hM1, hg7⟩
         have g7 : wr.grownBy w7 none := jaa (jag (jaf _)) hg7
         obtain ⟨p0, p1, p2, p3, -⟩ := jaB (H7.out w7 (jaa HS6.out (jaa HGr.out g7)))
         obtain ⟨q0, q1, q2, q3, -⟩ := jaB (H8.out w7 (jaa HS6.out (jaa HGr.out g7)))
         have rk := jac rc0 g7
         have ck := jac cc0 g7
         try simp only [Sl.v]
         refine hK.out _ _ (by first | assumption | go_keep) (fun hHeld => ?_)
         clear hK K
         try simp only [Act.put]
         refine wpAnyH_ready (rs := [12]) (by kernel_rfl) (by simp) ?_
         refine AllReadyH.cons rfl (fun K hK => ?_) ?_
         ·skip
          go_simp
          refine (BR.out _ g7).mono ?_
          rintro e w8 ⟨⟨qa, qn, qc⟩, cs, rfl, hB2, hM2, hg8⟩
          have g8 : wr.grownBy w8 none := jaa g7 hg8
          obtain ⟨p0, p1, p2, p3, -⟩ := jaB (H7.out w8 (jaa HS6.out (jaa HGr.out g8)))
          obtain ⟨q0, q1, q2, q3, -⟩ := jaB (H8.out w8 (jaa HS6.out (jaa HGr.out g8)))
          have rk := jac rc0 g8
          have ck := jac cc0 g8
          try simp only [Sl.v]
          refine hK.out _ _ (by first | assumption | go_keep) (fun hHeld => ?_)
          clear hK K
          try simp only [Act.put]
          refine wpAnyH_ready (rs := [13]) (by kernel_rfl) (by simp) ?_
          refine AllReadyH.cons rfl (fun K hK => ?_) ?_
          ·skip
           go_simp
           have lr : rs.length = a := by have h := congrArg List.length hM1; rwa [List.length_map, jaR] at h
           have lc : cs.length = b := by have h := congrArg List.length hM2; rwa [List.length_map, jaR] at h
           refine (jlc ⟨pa, pn, pc⟩ ⟨qa, qn, qc⟩ rs cs k w8 (hB1.more hg8) hB2 (by rw [lr, lc]; exact SAB.out) (by rw [lr]; have := SA.out; omega)).mono ?_
           rintro e w9 ⟨⟨ua, un, uc⟩, rfl, hO9, hg9⟩
           rw [hM1, hM2] at hO9
           have g9 : wr.grownBy w9 none := jaa g8 hg9
           obtain ⟨p0, p1, p2, p3, -⟩ := jaB (H7.out w9 (jaa HS6.out (jaa HGr.out g9)))
           obtain ⟨q0, q1, q2, q3, -⟩ := jaB (H8.out w9 (jaa HS6.out (jaa HGr.out g9)))
           have rk := jac rc0 g9
           have ck := jac cc0 g9
           try simp only [Sl.v]
           refine hK.out _ _ (by first | assumption | go_keep) (fun hHeld => ?_)
           clear hK K
           try simp only [Act.put]
           refine wpAnyH_ready (rs := [14]) (by kernel_rfl) (by simp) ?_
           refine AllReadyH.cons rfl (fun K hK => ?_) ?_
           ·skip
            obtain ⟨ug, ⟨uc', eu⟩, hu2, hu3⟩ := jdn hO9 (by rw [jbL, jaR, jaR]; exact SAB1.out)
            rw [jbL, jaR, jaR] at eu
            simp only [Sl.v, Value.slice.injEq] at eu
            obtain ⟨rfl, rfl, rfl⟩ := eu
            have OW9 : w9.ownsRow w6.heap.size 2 1 (.slice va D vc) D ((jeB xs yt t a k b).map (Value.int .i64)) := jc3 (HO.out.more g9 (by cases (Value.slice va D vc).ownBlock <;> simp)) LN.out
            have sz9 : w6.heap.size ≤ w9.heap.size := (jaa HGr.out g9).size
            refine step_append_lies w9 (by rfl) (.tmp 35) (.tmp 48) 23 (by rfl) w6.heap.size 2 i0 (.int .i64 0) 1 8 Tryz.underlying23 hi0 hz0 hz1 hz2 (by rfl) (by decide) (.slice va D vc) D ((jeB xs yt t a k b).map (Value.int .i64)) (by rfl) OW9 ⟨ug, 0, none⟩ (a * b) _ ((tms (blk xs t a k) (blk yt t b k)).map (Value.int .i64)) (by rfl) (by rw [List.length_map, jbL, jaR, jaR, Nat.mul_one]) hu2 hu3 SAB1.out (by have := DL.out; have := SAB.out; simp only [maxLen]; omega) (by have := DL.out; have := SAB.out; omega) sz9 _ rfl ?_
            intro gg cap8 wA hown8 hgrow _ _
            have gA : w6.grownBy wA none := jah (jaa HGr.out g9) hgrow (fun r e => (World.ownsRow.lt OW9 r e).1)
            have ST : Hid (w6.grownBy wA none ∧ jaI wA w6.heap.size (.slice (some ⟨gg, 0, none⟩) (D + a * b) cap8) (jeB xs yt (t + 1) a k b)) := ⟨gA, by rw [jnz]; exact jeY LN.out (by rw [jbL, jaR, jaR]) hown8 (by have := DL.out; have := SAB.out; omega) (fun z hz => by have := (jka _ _ _ _ _ _ z hz).2; omega) (fun z hz => by have := (jhu _ _ z hz).2; omega)⟩
            obtain ⟨p0, p1, p2, p3, -⟩ := jaB (H7.out wA (jaa HS6.out gA))
            obtain ⟨q0, q1, q2, q3, -⟩ := jaB (H8.out wA (jaa HS6.out gA))
            have rk := jac RC6.out gA
            have ck := jac CC6.out gA
            refine hK.out _ _ (by first | assumption | go_keep) (fun hHeld => ?_)
            clear hK K
            try simp only [Act.put]
            refine tkA 15 ?_
            try simp only [Act.put]
            refine wpAnyH_done (by kernel_rfl) ?_ _
            try go_simp
            go_wp2_with fail
            go_roundw
            case rel => exact ⟨ST.out.1, t + 1, D + a * b, _, _, hlt, by go_num, by rw [Nat.add_mul, Nat.one_mul, HDE.out], rfl, ST.out.2⟩
            case measure => simp [intOf]; omega
           exact AllReadyH.nil
          exact AllReadyH.nil
         exact AllReadyH.nil
        exact AllReadyH.nil
       ·obtain rfl : t = N := by omega
        have OF : Hid (jaI wr w.heap.size (.slice va D vc) (jeB xs yt t a k b)) := ⟨ja6 HO.out.1 GW6.out.size, HO.out.2⟩
        clear hgr
        go_wp2
        go_ret
        exact ⟨⟨_, _, _⟩, rfl, OF.out, jaa GW6.out HGr.out⟩
end Go.Proofs.YtkefdkboejimeaaGreatDoor
namespace Go.Proofs.YtkefdkboejimeaaGreatDoor
open Go.RowKit
def ytL (y ys : List Int) : List Int := Vw.rdL 0 (Vw.pickL y (ja8 (y.length - 2))) (Vw.pickL (jbs y) (ja8 (y.length - 2))) ys
def mmL (x xs y ys : List Int) : List Int := jeB xs (ytL y ys) (jaF (x.take (x.length - 2))).toNat (x.getD (x.length - 2) 0).toNat (x.getD (x.length - 1) 0).toNat (y.getD (y.length - 1) 0).toNat
structure ShpM (x y : List Int) (A : List Int) (a k b : Nat) : Prop where
 ex : x = A ++ [(a : Int), (k : Int)]
 ey : y = A ++ [(k : Int), (b : Int)]
 few : A.length ≤ 1
 cx : ja3 x = 0
 cy : ja3 y = 0
 cz : ja3 (A ++ [(a : Int), (b : Int)]) = 0
theorem jgY : ∀ {A : List Int}, A.length ≤ 1 → ∀ p q : Int, Vw.pickL (A ++ [p, q]) (ja8 A.length) = A ++ [q, p]
 | [], _, p, q => rfl
 | [z], _, p, q => rfl
 | _ :: _ :: _, h, _, _ => by simp at h
theorem ShpM.len {x y A : List Int} {a k b : Nat} (h : ShpM x y A a k b) : x.length = A.length + 2 ∧ y.length = A.length + 2 := by
 rw [h.ex, h.ey]
 simp
theorem ShpM.mm {x y A : List Int} {a k b : Nat} (h : ShpM x y A a k b) (xs ys : List Int) : mmL x xs y ys = jeB xs (ytL y ys) (jaF A).toNat a k b := by
 obtain ⟨l1, l2⟩ := h.len
 have e1 : x.take A.length = A := by rw [h.ex]; exact List.take_left' rfl
 have eg : ∀ p q : Int, (A ++ [p, q]).getD A.length 0 = p ∧ (A ++ [p, q]).getD (A.length + 1) 0 = q := fun p q => by simp [List.getD]
 have e2 : x.getD A.length 0 = a := by rw [h.ex]; exact (eg _ _).1
 have e3 : x.getD (A.length + 1) 0 = k := by rw [h.ex]; exact (eg _ _).2
 have e4 : y.getD (A.length + 1) 0 = b := by rw [h.ey]; exact (eg _ _).2
 unfold mmL
 rw [l1, l2, show A.length + 2 - 2 = A.length from rfl, show A.length + 2 - 1 = A.length + 1 from rfl, e1, e2, e3, e4]
 simp
theorem je0 {A : List Int} {k b : Nat} (hA : A.length ≤ 1) (hc : ja3 (A ++ [(k : Int), (b : Int)]) = 0) {ys : List Int} (hl : (ys.length : Int) = jaF (A ++ [(k : Int), (b : Int)])) : Vw.rdOk 0 (Vw.pickL (A ++ [(k : Int), (b : Int)]) (ja8 A.length)) (Vw.pickL (jbs (A ++ [(k : Int), (b : Int)])) (ja8 A.length)) ys = true := by
 have F := jaH hc
 have hf := F.le
 match A, hA with
 | [], _ =>
  have hk := F.pos (k : Int) (by simp)
  have hb := F.pos (b : Int) (by simp)
  have e1 : Vw.pickL ([] ++ [(k : Int), (b : Int)]) (ja8 0) = [(b : Int), (k : Int)] := rfl
  have e2 : Vw.pickL (jbs ([] ++ [(k : Int), (b : Int)])) (ja8 0) = [1, (b : Int)] := by simp [jbs, jaF, Vw.pickL, ja8, jbh, List.range, List.range.loop]
  simp only [List.length_nil]
  rw [e1, e2]
  simp only [List.nil_append, jaF] at hf hl
  have m1 : (k : Int) * (b * 1) = b * (k * 1) := by rw [Int.mul_one, Int.mul_one, Int.mul_comm]
  have hkb : (b : Int) ≤ k * (b * 1) := by rw [Int.mul_one]; exact jbJ hk (by omega)
  have hm : Vw.MayV 0 [(b : Int), (k : Int)] [1, (b : Int)] := ⟨⟨by intro z hz; simp at hz; omega, by simp, by simp only [jaF]; omega⟩, rfl, by omega, by omega, by intro s hs; simp at hs; omega⟩
  unfold Vw.rdOk
  rw [Vw.mayB_iff.2 hm]
  have hlst : Vw.lst [(b : Int), (k : Int)] [1, (b : Int)] = k * b - 1 := by
   simp only [Vw.lst]
   rw [Int.sub_mul, Int.sub_mul]
   omega
  rw [hlst]
  simp
  rw [Int.mul_one] at hl
  omega
 | [z], _ =>
  have hz := F.pos z (by simp)
  have hk := F.pos (k : Int) (by simp)
  have hb := F.pos (b : Int) (by simp)
  have e1 : Vw.pickL ([z] ++ [(k : Int), (b : Int)]) (ja8 1) = [z, (b : Int), (k : Int)] := rfl
  have e2 : Vw.pickL (jbs ([z] ++ [(k : Int), (b : Int)])) (ja8 1) = [(k : Int) * b, 1, (b : Int)] := by simp [jbs, jaF, Vw.pickL, ja8, jbh, List.range, List.range.loop]
  simp only [List.length_cons, List.length_nil]
  rw [e1, e2]
  simp only [List.cons_append, List.nil_append, jaF, Int.mul_one] at hf hl
  obtain ⟨K, hK⟩ : ∃ K, K = (k : Int) * b := ⟨_, rfl⟩
  have hkb : (b : Int) ≤ K := by rw [hK]; exact jbJ hk (by omega)
  have hzk : K ≤ z * K := jbJ hz (by omega)
  rw [← hK] at hf hl ⊢
  have hm : Vw.MayV 0 [z, (b : Int), (k : Int)] [K, 1, (b : Int)] := ⟨⟨by intro s hs; simp at hs; omega, by simp, by simp only [jaF, Int.mul_one]; rw [Int.mul_comm (b : Int) k, ← hK]; exact hf⟩, rfl, by omega, by omega, by intro s hs; simp at hs; omega⟩
  unfold Vw.rdOk
  rw [Vw.mayB_iff.2 hm]
  have hlst : Vw.lst [z, (b : Int), (k : Int)] [K, 1, (b : Int)] = z * K - 1 := by
   simp only [Vw.lst]
   rw [Int.sub_mul, Int.sub_mul, Int.sub_mul, ← hK]
   omega
  rw [hlst]
  simp
  omega
theorem jp9 {A : List Int} {k b : Nat} (hA : A.length ≤ 1) (hc : ja3 (A ++ [(k : Int), (b : Int)]) = 0) {ys : List Int} (hl : (ys.length : Int) = jaF (A ++ [(k : Int), (b : Int)])) : (ytL (A ++ [(k : Int), (b : Int)]) ys).length = (jaF A).toNat * (b * k) := by
 have h := je0 hA hc hl
 have e : (A ++ [(k : Int), (b : Int)]).length - 2 = A.length := by simp
 unfold ytL
 rw [e, Vw.rdL, if_pos h, Vw.shows, List.length_map]
 have hm : Vw.MayV 0 (Vw.pickL (A ++ [(k : Int), (b : Int)]) (ja8 A.length)) (Vw.pickL (jbs (A ++ [(k : Int), (b : Int)])) (ja8 A.length)) := Vw.mayB_iff.1 (by unfold Vw.rdOk at h; exact (Bool.and_eq_true_iff.1 h).1)
 rw [Vw.plc_length _ _ _ hm.len hm.fine.pos, jgY hA, jby]
 have F := jaH hc
 have h1 : 1 ≤ jaF A := prod_pos _ (fun z hz => F.pos z (by simp [hz]))
 have h2 : jaF [(b : Int), (k : Int)] = ((b * k : Nat) : Int) := by simp [jaF]
 obtain ⟨N, hN⟩ : ∃ N : Nat, jaF A = N := ⟨(jaF A).toNat, by omega⟩
 rw [h2, hN, ← Int.natCast_mul, Int.toNat_natCast, Int.toNat_natCast]
end Go.Proofs.YtkefdkboejimeaaGreatDoor
namespace Go.Proofs.YtkefdkboejimeaaGreatDoor
open Go.RowKit
theorem jnA (n : Nod) (hop : n.op = ⟨#[77, 97, 116, 77, 117, 108]⟩) (u : Sl) (T0 T1 : Ten) (x y xs ys : List Int) (A : List Int) (a k b : Nat) (nam0 : ByteArray) (vty : Int) (dv : Sl) (l : List Int) (w : World) (hs : ShpM x y A a k b) (hl : l = A ++ [(a : Int), (b : Int)]) (hv : TensIn w u.v [(T0, (x, xs)), (T1, (y, ys))]) (hd : IsInts w dv.v l) (hxl : (xs.length : Int) = jaF x) (hyl : (ys.length : Int) = jaF y) :
    Calls Tryz.prog 17 #[jaL n, .slice u.a u.n u.c, .agg #[.string nam0, .int .i64 vty, .slice dv.a dv.n dv.c]] w (EvQ w (.ok (mmL x xs y ys))) := by
     subst hl
     have hcy := hs.cy
     rw [hs.ey] at hcy hyl
     have hcx := hs.cx
     rw [hs.ex] at hcx hxl
     have eyt : Vw.rdL 0 (Vw.pickL (A ++ [(k : Int), (b : Int)]) (ja8 A.length)) (Vw.pickL (jbs (A ++ [(k : Int), (b : Int)])) (ja8 A.length)) ys = ytL y ys := by
      rw [hs.ey]
      unfold ytL
      rw [show (A ++ [(k : Int), (b : Int)]).length - 2 = A.length from by simp]
     have hyt2 := jp9 hs.few hcy hyl
     rw [← hs.ey] at hyt2
     have hxl2 : xs.length = (jaF A).toNat * (a * k) := by
      have F := jaH hcx
      have h1 : 1 ≤ jaF A := prod_pos _ (fun z hz => F.pos z (by simp [hz]))
      obtain ⟨N, hN⟩ : ∃ N : Nat, jaF A = N := ⟨(jaF A).toNat, by omega⟩
      rw [jby, hN, show jaF [(a : Int), (k : Int)] = ((a * k : Nat) : Int) from by simp [jaF], ← Int.natCast_mul] at hxl
      rw [hN, Int.toNat_natCast]
      omega
     obtain ⟨xa, xc, e1, p1, p2, p3⟩ := hv.vals.form
     obtain ⟨ua, un, uc⟩ := u
     simp only [Sl.v, List.map_cons, List.map_nil, List.length_cons, List.length_nil, Value.slice.injEq] at e1
     obtain ⟨rfl, rfl, rfl⟩ := e1
     obtain ⟨ub, uo, rfl⟩ := hv.vals.addr (k := 0) (by simp)
     obtain ⟨t0, t1, t2⟩ := hv.at 0 (by simp)
     obtain ⟨s0, s1, s2⟩ := hv.at 1 (by simp)
     have HH0 := jae (hv.has (T0, (x, xs)) (by simp))
     have HH1 := jae (hv.has (T1, (y, ys)) (by simp))
     obtain ⟨tx, ⟨xda, xdn, xdc⟩, ⟨xta, xtn, xtc⟩⟩ := T0
     obtain ⟨ty, ⟨yda, ydn, ydc⟩, ⟨yta, ytn, ytc⟩⟩ := T1
     obtain ⟨za, zn, zc⟩ := dv
     simp only [List.getElem_cons_zero, List.getElem_cons_succ, Nat.zero_mul, Nat.add_zero, Nat.one_mul] at t0 t1 t2 s0 s1 s2 HH0 HH1
     have EM := jae (hs.mm xs ys)
     have MM : Hid (∀ wx, w.grownBy wx none → Calls Tryz.prog 42 #[.agg #[.int .i64 tx, .slice xda xdn xdc, .slice xta xtn xtc], .agg #[.int .i64 ty, .slice yda ydn ydc, .slice yta ytn ytc], .slice za zn zc] wx fun e w' => ∃ u : Sl, e = .returned u.v ∧ jaI w' wx.heap.size u.v (mmL x xs y ys) ∧ wx.grownBy w' none) := fun wx hx => by
      have h0 := HH0.out
      have h1 := HH1.out
      have h := jjE ⟨tx, ⟨xda, xdn, xdc⟩, ⟨xta, xtn, xtc⟩⟩ ⟨ty, ⟨yda, ydn, ydc⟩, ⟨yta, ytn, ytc⟩⟩ A A.length a k b xs ys (ytL y ys) ⟨za, zn, zc⟩ wx rfl hcx hcy hs.cz (by rw [← hs.ex]; exact h0.1.more hx) (by rw [← hs.ey]; exact h1.1.more hx) (hd.more hx) (h0.2.more hx) (h1.2.more hx) eyt (jgY hs.few _ _) hxl2 hyt2
      rw [← EM.out] at h
      exact h
     obtain ⟨op, nam, ⟨ia, il, ic⟩, out, ⟨ao, al, cap⟩⟩ := n
     simp only at hop
     subst hop
     unfold jaL
     simp only
     obtain ⟨w0, hw0⟩ : ∃ w0, w0 = (w.alloc (.cells #[.string ⟨#[77, 97, 116, 77, 117, 108]⟩, .string nam, .slice ia il ic, .string out, .slice ao al cap] 35)).alloc (.cells #[.string nam0, .int .i64 vty, .slice za zn zc] 53) := ⟨_, rfl⟩
     have g0 : w.grownBy w0 none := by rw [hw0]; exact jaa (jab _ _) (jab _ _)
     have hbx := jax w (.cells #[.string ⟨#[77, 97, 116, 77, 117, 108]⟩, .string nam, .slice ia il ic, .string out, .slice ao al cap] 35) (.cells #[.string nam0, .int .i64 vty, .slice za zn zc] 53)
     rw [← hw0] at hbx
     obtain ⟨n0, -, -, -, -⟩ := jai (n := ⟨⟨#[77, 97, 116, 77, 117, 108]⟩, nam, ⟨ia, il, ic⟩, out, ⟨ao, al, cap⟩⟩) hbx.1
     obtain ⟨v0, v1, v2⟩ := jal hbx.2
     have v2' : Hid (∀ wx, w0.grownBy wx none → wx.cell? ⟨w.heap.size + 1, 2, none⟩ = some (.slice za zn zc)) := fun wx hx => jac v2 hx
     have TT : Hid (∀ wx, w.grownBy wx none → wx.cell? ⟨ub, uo, none⟩ = some (.int .i64 tx) ∧ wx.cell? ⟨ub, uo + 1, none⟩ = some (.slice xda xdn xdc) ∧ wx.cell? ⟨ub, uo + 2, none⟩ = some (.slice xta xtn xtc) ∧ wx.cell? ⟨ub, uo + 3, none⟩ = some (.int .i64 ty) ∧ wx.cell? ⟨ub, uo + 3 + 1, none⟩ = some (.slice yda ydn ydc) ∧ wx.cell? ⟨ub, uo + 3 + 2, none⟩ = some (.slice yta ytn ytc)) := fun wx hx => ⟨jac t0 hx, jac t1 hx, jac t2 hx, jac s0 hx, jac s1 hx, jac s2 hx⟩
     obtain ⟨t0, t1, t2, s0, s1, s2⟩ := TT.out w0 g0
     have G0 := jae g0
     have i0' : (0 : Int) < 2 := by decide
     have i1' : (1 : Int) < 2 := by decide
     clear hbx hv hd hs hcx hcy hxl hyl eyt hyt2 hxl2 v0 v1 g0
     go_enter Tryz.func17, Tryz.ntmps17
     rw [hw0] at n0 t0 t1 t2 s0 s1 s2 v2
     go_wp2_with fail
     rw [← hw0]
     rw [← hw0] at n0 t0 t1 t2 s0 s1 s2 v2
     clear hw0 n0
     go_region_held3 (fun w' => w'.cell? ⟨ub, uo, none⟩ = some (.int .i64 tx) ∧ w'.cell? ⟨ub, uo + 1, none⟩ = some (.slice xda xdn xdc) ∧ w'.cell? ⟨ub, uo + 2, none⟩ = some (.slice xta xtn xtc) ∧ w'.cell? ⟨ub, uo + 3, none⟩ = some (.int .i64 ty) ∧ w'.cell? ⟨ub, uo + 3 + 1, none⟩ = some (.slice yda ydn ydc) ∧ w'.cell? ⟨ub, uo + 3 + 2, none⟩ = some (.slice yta ytn ytc) ∧ w'.cell? ⟨w.heap.size + 1, 2, none⟩ = some (.slice za zn zc)) (go_keep) (first | (go_at_call 42; refine (MM.out _ (jag G0.out)).mono ?_; rintro e w3 ⟨⟨qa, qn, qc⟩, rfl, ho3, hg3⟩; have g3 : w0.grownBy w3 none := jaa (jag (jaf _)) hg3; obtain ⟨t0, t1, t2, s0, s1, s2⟩ := TT.out w3 (jaa G0.out g3); have v2 := v2'.out w3 g3) | fail)
     have HO : Hid (jaI w3 w.heap.size (.slice qa qn qc) (mmL x xs y ys)) := ⟨ja6 ho3.1 G0.out.size, ho3.2⟩
     have HG := jae (jaa G0.out g3)
     clear ho3 hg3 g3 t0 t1 t2 s0 s1 s2 v2
     go_wp2
     go_ret2
     exact jp0 rfl HG.out ⟨⟨qa, qn, qc⟩, rfl, HO.out⟩
end Go.Proofs.YtkefdkboejimeaaGreatDoor
namespace Go.Proofs.YtkefdkboejimeaaGreatDoor
open Go.RowKit
theorem jbq {α : Type} {w w' : World} {r : R α} {Q Q' : α → Value → World → Prop} {e : Ending} (h : jbj w r Q e w') (hq : ∀ a v, r = .ok a → Q a v w' → Q' a v w') : jbj w r Q' e w' := by
 cases r with
 | error c => exact h
 | ok a =>
  obtain ⟨hg, v, he, hv⟩ := h
  exact ⟨hg, v, he, hq a v rfl hv⟩
theorem jh2 (w : World) (op out : ByteArray) (iv : Sl) (ins : List ByteArray) (hi : jb8 w iv.v ins) : NodeIn w ⟨op, ⟨#[]⟩, iv, out, jbQ⟩ ins [] [] :=
 ⟨hi, jaU.isL (te := 38) (base := 0) jc0 (jaU.nil ..) (by simp), (fun j a h => by simp at h), by simp, (fun a h => by cases h)⟩
theorem jcV (w : World) (op out : ByteArray) (iv : Sl) : NodeOk w ⟨op, ⟨#[]⟩, iv, out, jbQ⟩ ⟨op, [], []⟩ :=
 ⟨rfl, jaU.isL (te := 38) (base := 0) jc0 (jaU.nil ..) (by simp), (fun j a h => by simp at h), (fun a h => by cases h)⟩
def jly (t0 t1 : Int) (x y : List Int) (d : R (List Int)) : R (Int × List Int) :=
 (jhd t0).bind fun _ => (ja9 x).bind fun _ => (jhd t1).bind fun _ => (ja9 y).bind fun _ => (jb0 [t0, t1]).bind fun t => (jaz (t == 1)).bind fun _ => d.bind fun d => (ja9 d).bind fun _ => .ok (1, d)
theorem jdo {α β γ : Type} (r : R α) (f : α → R β) (g : β → R γ) : (r.bind f).bind g = r.bind fun a => (f a).bind g := by cases r <;> rfl
theorem job (v0 v1 : Val) (x y : List Int) (d : R (List Int)) : jbo 0 true [(v0, x), (v1, y)] ((jb0 (jcS [(v0, x), (v1, y)])).bind (fun t => (jaz (t == 1)).bind (fun _ => .ok (1 : Int)))) d [] = jly v0.ty v1.ty x y d := by
 unfold jbo jly
 simp only [jhB, jaz, if_true, jek, jcS, List.map_cons, List.map_nil, jda, jdo]
 rfl
theorem je1 {t : Int} (h : jhd t = .ok ()) : jaV t = true := by
 unfold jhd at h
 by_cases hb : jaV t = true
 ·exact hb
 ·rw [if_neg hb] at h
  cases h
theorem jaG {α β : Type} {r : R α} {f : α → R β} {b : β} (h : r.bind f = .ok b) : ∃ a, r = .ok a ∧ f a = .ok b := by
 cases r with
 | error c => cases h
 | ok a => exact ⟨a, rfl, h⟩
theorem jbR {x : List Int} {n : Int} (h : ja9 x = .ok n) : ja3 x = 0 := by
 unfold ja9 at h
 split at h
 ·assumption
 ·cases h
theorem jpC {v0 v1 : Val} {x y : List Int} (h : jek [(v0, x), (v1, y)] = .ok ()) : (∀ s ∈ jcS [(v0, x), (v1, y)], jaV s = true) ∧ ja3 x = 0 ∧ ja3 y = 0 := by
 simp only [jek] at h
 obtain ⟨_, h1, h⟩ := jaG h
 obtain ⟨_, h2, h⟩ := jaG h
 obtain ⟨_, h3, h⟩ := jaG h
 obtain ⟨_, h4, h⟩ := jaG h
 refine ⟨fun s hs => ?_, jbR h2, jbR h4⟩
 simp only [jcS, List.map_cons, List.map_nil, List.mem_cons, List.not_mem_nil, or_false] at hs
 rcases hs with rfl | rfl
 ·exact je1 h1
 ·exact je1 h3
theorem mout (out : ByteArray) (iv : Sl) (i1 i2 : ByteArray) (hck : jbl (jcf ⟨#[77, 97, 116, 77, 117, 108]⟩) ⟨#[77, 97, 116, 77, 117, 108]⟩ [i1, i2] out [] [] = 0) (ho : out.size ≤ 1048576) (u : Sl) (v0 v1 : Val) (x y : List Int) (w : World) (hl : Laid w) (hi : jb8 w iv.v [i1, i2]) (hv : ValsIn w u.v [(v0, x), (v1, y)]) :
    Calls Tryz.prog 53 #[jaL ⟨⟨#[77, 97, 116, 77, 117, 108]⟩, ⟨#[]⟩, iv, out, jbQ⟩, .slice u.a u.n u.c] w (jju out w (jly v0.ty v1.ty x y (ja1 x y))) := by
     refine jf0 ⟨⟨#[77, 97, 116, 77, 117, 108]⟩, ⟨#[]⟩, iv, out, jbQ⟩ u _ w fun wx hx => ?_
     have key := jcB ⟨⟨#[77, 97, 116, 77, 117, 108]⟩, ⟨#[]⟩, iv, out, jbQ⟩ ⟨⟨#[77, 97, 116, 77, 117, 108]⟩, [], []⟩ [i1, i2] u [(v0, x), (v1, y)] wx (hl.more hx) (jh2 wx ⟨#[77, 97, 116, 77, 117, 108]⟩ out iv _ (hi.more hx)) (hv.more hx) (by show out.size ≤ _; omega) _ _ (fun hc hll hin wy hy => ((jdX ⟨⟨#[77, 97, 116, 77, 117, 108]⟩, ⟨#[]⟩, iv, out, jbQ⟩ ⟨⟨#[77, 97, 116, 77, 117, 108]⟩, [], []⟩ u [(v0, x), (v1, y)] wy (by simp) (jcV wy ⟨#[77, 97, 116, 77, 117, 108]⟩ out iv) (hv.more (jaa hx hy)) (by simp) (by simp) (jpC hin).1).mono fun e w' he => jbq he fun t v e1 e2 => ⟨e2, by
      obtain ⟨_, -, e1⟩ := jaG e1
      obtain ⟨_, -, e1⟩ := jaG e1
      cases e1
      rfl⟩)) (fun hc hll hin wy hy => jgI ⟨⟨#[77, 97, 116, 77, 117, 108]⟩, ⟨#[]⟩, iv, out, jbQ⟩ ⟨⟨#[77, 97, 116, 77, 117, 108]⟩, [], []⟩ u v0 v1 x y wy (by simp) (jcV wy ⟨#[77, 97, 116, 77, 117, 108]⟩ out iv) (hv.more (jaa hx hy)) (jaH (jpC hin).2.1) (jaH (jpC hin).2.2))
     rw [show jbl (jcf (Nod.op ⟨⟨#[77, 97, 116, 77, 117, 108]⟩, ⟨#[]⟩, iv, out, jbQ⟩)) (Nod.op ⟨⟨#[77, 97, 116, 77, 117, 108]⟩, ⟨#[]⟩, iv, out, jbQ⟩) [i1, i2] (Nod.out ⟨⟨#[77, 97, 116, 77, 117, 108]⟩, ⟨#[]⟩, iv, out, jbQ⟩) (At.xs ⟨⟨#[77, 97, 116, 77, 117, 108]⟩, [], []⟩) (At.cs ⟨⟨#[77, 97, 116, 77, 117, 108]⟩, [], []⟩) = 0 from hck] at key
     have e := job v0 v1 x y (ja1 x y)
     refine key.mono fun e' w' he => ?_
     rw [← e]
     exact jbq he fun r v _ e2 => e2
end Go.Proofs.YtkefdkboejimeaaGreatDoor
