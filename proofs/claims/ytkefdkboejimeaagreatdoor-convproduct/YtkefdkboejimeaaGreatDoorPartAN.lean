/- A part. -/
import Derived.Test.YtkefdkboejimeaaGreatDoorPartAL
import Derived.Test.YtkefdkboejimeaaGreatDoorPartAM
import Derived.Test.YtkefdkboejimeaaGreatDoorPartAD
import Derived.BigQuiet
import Derived.RangeFuncNested
import Derived.RangeFuncBound
import Derived.RangeFuncCalls
import Derived.RangeFuncLeaves
import Derived.Shelf.Abstract
import Derived.Shelf.RegionOpen
import Derived.OwnWalkIn
import Derived.TacticsInMore
import Derived.LoopNIn
import Derived.LoopIn
import Derived.Deep.LoopGhost
set_option maxHeartbeats 4000000
set_option maxRecDepth 100000
namespace Go.Proofs.YtkefdkboejimeaaGreatDoor
open Go.RowKit Go.Shelf
attribute [local go_sem] Oper.semAt_some
theorem jmv (H kh h i : Nat) (w : World) (h1 : h + i < H) (h2 : H ≤ 65536) :
    Calls Tryz.prog 129 #[.agg #[.int .i64 H, .int .i64 kh, .int .i64 1, .int .i64 1, .int .i64 0], .int .i64 h, .int .i64 i] w fun e w' => e = .returned (.tuple #[.int .i64 ((h : Int) + i), .bool true]) ∧ w.grownBy w' none := by
     have hb := heap_alloc_new w (.cells #[.int .i64 H, .int .i64 kh, .int .i64 1, .int .i64 1, .int .i64 0] 88)
     have c0 := (cell_of_row _ w.heap.size 0 _ _ (0, 0) hb).trans rfl
     have c2 := (cell_of_row _ w.heap.size 2 _ _ (0, 0) hb).trans rfl
     have c3 := (cell_of_row _ w.heap.size 3 _ _ (0, 0) hb).trans rfl
     have c4 := (cell_of_row _ w.heap.size 4 _ _ (0, 0) hb).trans rfl
     have G0 := jae (jab w (.cells #[.int .i64 H, .int .i64 kh, .int .i64 1, .int .i64 1, .int .i64 0] 88))
     have e1 : wrap64 (h : Int) = h := by unfold wrap64; omega
     have e2 : wrap64 (i : Int) = i := by unfold wrap64; omega
     have e3 : wrap64 ((h : Int) + i) = h + i := by unfold wrap64; omega
     have l1 : decide ((0 : Int) ≤ h + i) = true := by simp; omega
     have l2 : decide ((h : Int) + i < H) = true := by simp; omega
     clear hb
     go_enter Tryz.func129, Tryz.ntmps129
     go_wp2
     go_quiet (fail)
     go_wp2
     go_ret2
     exact ⟨rfl, ⟨G0.out.os, G0.out.tape, G0.out.output, G0.out.size, G0.out.block⟩⟩
def PlB (H kh W kw h v : Nat) (w : World) (p1 p2 p3 : Nat) : Prop := w.heap[p1]? = some (.cells #[.int .i64 H, .int .i64 kh, .int .i64 1, .int .i64 1, .int .i64 0, .int .i64 W, .int .i64 kw, .int .i64 1, .int .i64 1, .int .i64 0] 90 (0, 0)) ∧ w.heap[p2]? = some (.cells #[.int .i64 h] 3 (0, 0)) ∧ w.heap[p3]? = some (.cells #[.int .i64 v] 3 (0, 0))
def plV (p1 p2 p3 : Nat) : Value := .func (.func 128) #[] #[.pointer (some ⟨p1, 0, none⟩), .pointer (some ⟨p2, 0, none⟩), .pointer (some ⟨p3, 0, none⟩)]
theorem PlB.more {H kh W kw h v p1 p2 p3 : Nat} {w w' : World} (hp : PlB H kh W kw h v w p1 p2 p3) (hg : w.grownBy w' none) : PlB H kh W kw h v w' p1 p2 p3 := ⟨jad hp.1 hg, jad hp.2.1 hg, jad hp.2.2 hg⟩
theorem PlB.below {H kh W kw h v p1 p2 p3 n : Nat} {w w' : World} (hp : PlB H kh W kw h v w p1 p2 p3) (hb : Below n w w') (h1 : p1 < n ∧ p2 < n ∧ p3 < n) : PlB H kh W kw h v w' p1 p2 p3 := ⟨(hb.block _ h1.1).trans hp.1, (hb.block _ h1.2.1).trans hp.2.1, (hb.block _ h1.2.2).trans hp.2.2⟩
theorem PlB.lt {H kh W kw h v p1 p2 p3 : Nat} {w : World} (hp : PlB H kh W kw h v w p1 p2 p3) : p1 < w.heap.size ∧ p2 < w.heap.size ∧ p3 < w.heap.size := ⟨(Array.getElem?_eq_some_iff.1 hp.1).1, (Array.getElem?_eq_some_iff.1 hp.2.1).1, (Array.getElem?_eq_some_iff.1 hp.2.2).1⟩
theorem jeH (H kh W kw h v : Nat) (w : World) : Calls Tryz.prog 102 #[.agg #[.int .i64 H, .int .i64 kh, .int .i64 1, .int .i64 1, .int .i64 0, .int .i64 W, .int .i64 kw, .int .i64 1, .int .i64 1, .int .i64 0], .int .i64 h, .int .i64 v] w fun e w' => e = .returned (plV w.heap.size (w.heap.size + 1) (w.heap.size + 2)) ∧ PlB H kh W kw h v w' w.heap.size (w.heap.size + 1) (w.heap.size + 2) ∧ w.grownBy w' none := by
 have hmf : ∀ (fn : Fn) (first cap : Array Value) (w : World), (Instr.makeFunc fn first cap).run Tryz.prog w = .ok (.func fn first cap) w := fun _ _ _ _ => rfl
 obtain ⟨w2, hw2⟩ : ∃ w2, w2 = (w.alloc (.cells #[.int .i64 H, .int .i64 kh, .int .i64 1, .int .i64 1, .int .i64 0, .int .i64 W, .int .i64 kw, .int .i64 1, .int .i64 1, .int .i64 0] 90)).alloc (.cells #[.int .i64 h] 3) := ⟨_, rfl⟩
 have hbx := jax w (.cells #[.int .i64 H, .int .i64 kh, .int .i64 1, .int .i64 1, .int .i64 0, .int .i64 W, .int .i64 kw, .int .i64 1, .int .i64 1, .int .i64 0] 90) (.cells #[.int .i64 h] 3)
 have g2 : w.grownBy w2 none := by rw [hw2]; exact jaa (jab _ _) (jab _ _)
 rw [← hw2] at hbx
 have g3 := jab w2 (.cells #[.int .i64 v] 3)
 have hs : w2.heap.size = w.heap.size + 2 := by rw [hw2]; simp
 have h3 := heap_alloc_new w2 (.cells #[.int .i64 v] 3)
 rw [hs] at h3
 have FIN : Hid (PlB H kh W kw h v (w2.alloc (.cells #[.int .i64 v] 3)) w.heap.size (w.heap.size + 1) (w.heap.size + 2) ∧ w.grownBy (w2.alloc (.cells #[.int .i64 v] 3)) none) := ⟨⟨jad hbx.1 g3, jad hbx.2 g3, h3⟩, jaa g2 g3⟩
 rw [hw2] at FIN
 clear hbx g2 g3 hs h3 hw2
 go_enter Tryz.func102, Tryz.ntmps102
 go_wp2
 go_ret
 exact ⟨rfl, FIN.out.1, FIN.out.2⟩
theorem jfn {w a b : World} (h : Below w.heap.size w a) (hg : a.grownBy b none) : Below w.heap.size w b := h.trans ((ja0 hg).mono h.size)
theorem jgs {z : Int} (h0 : 0 ≤ z) (h1 : z ≤ 1000000) : wrap64 z = z := by unfold wrap64; omega
theorem ji7 {H W h v i j : Nat} (h1 : (h + i) * W + (v + j) < H * W) (hL : H * W ≤ 65536) : wrap64 (((h : Int) + i) * W) = ((h : Int) + i) * W ∧ wrap64 (((h : Int) + i) * W + ((v : Int) + j)) = ((h : Int) + i) * W + ((v : Int) + j) := by
 have h3 : (((h + i) * W : Nat) : Int) = ((h : Int) + i) * W := by push_cast; rfl
 rw [← h3]
 generalize (h + i) * W = a at h1 ⊢
 generalize H * W = b at h1 hL
 exact ⟨jgs (by omega) (by omega), jgs (by omega) (by omega)⟩
abbrev Plc (K L : Nat) := { p : Nat × Nat // p.1 < K ∧ p.2 < L }
def encP {K L : Nat} (p : Plc K L) : Array Value := #[.int .i64 p.1.1, .int .i64 p.1.2]
theorem wseq (n : Nat) (H kh W kw h v p1 p2 p3 : Nat) (w : World) (hp : PlB H kh W kw h v w p1 p2 p3) (hh : h + kh ≤ H) (hv : v + kw ≤ W) (hW : W ≤ 65536) (hH : H ≤ 65536) (hL : H * W ≤ 65536) (hK : kh * kw ≤ 65536) :
    SeqStopsK Fence.wide n Tryz.prog 128 #[.pointer (some ⟨p1, 0, none⟩), .pointer (some ⟨p2, 0, none⟩), .pointer (some ⟨p3, 0, none⟩)] (encP (K := kh * kw) (L := H * W)) (Below w.heap.size) (fun ys => ys.map (·.1) = wpl W kh kw h v) (fun _ => True) (kh * kw) w := by
     intro l J Jx W0 hW0 hJ _ hY h0
     have hlt := hp.lt
     have PB : Hid (∀ wx, Below w.heap.size w wx → PlB H kh W kw h v wx p1 p2 p3) := fun wx hx => hp.below hx hlt
     have JG : Hid (∀ s X Y, J s X → X.grownBy Y none → J s Y) := fun s X Y hs hg => hJ s X Y none hs hg (fun r e => by cases e)
     have HY := jae hY
     have HW0 := jae hW0
     have H0 := jae h0
     clear hJ hY h0 hp hlt hW0
     have CELL : Hid (∀ wx, Below w.heap.size w wx → wx.cell? ⟨p1, 0, none⟩ = some (.int .i64 H) ∧ wx.cell? ⟨p1, 1, none⟩ = some (.int .i64 kh) ∧ wx.cell? ⟨p1, 2, none⟩ = some (.int .i64 1) ∧ wx.cell? ⟨p1, 3, none⟩ = some (.int .i64 1) ∧ wx.cell? ⟨p1, 4, none⟩ = some (.int .i64 0) ∧ wx.cell? ⟨p1, 5, none⟩ = some (.int .i64 W) ∧ wx.cell? ⟨p1, 6, none⟩ = some (.int .i64 kw) ∧ wx.cell? ⟨p1, 7, none⟩ = some (.int .i64 1) ∧ wx.cell? ⟨p1, 8, none⟩ = some (.int .i64 1) ∧ wx.cell? ⟨p1, 9, none⟩ = some (.int .i64 0) ∧ wx.cell? ⟨p2, 0, none⟩ = some (.int .i64 h) ∧ wx.cell? ⟨p3, 0, none⟩ = some (.int .i64 v)) := fun wx hx => by
      obtain ⟨b1, b2, b3⟩ := PB.out wx hx
      exact ⟨(cell_of_row _ _ 0 _ _ (0, 0) b1).trans rfl, (cell_of_row _ _ 1 _ _ (0, 0) b1).trans rfl, (cell_of_row _ _ 2 _ _ (0, 0) b1).trans rfl, (cell_of_row _ _ 3 _ _ (0, 0) b1).trans rfl, (cell_of_row _ _ 4 _ _ (0, 0) b1).trans rfl, (cell_of_row _ _ 5 _ _ (0, 0) b1).trans rfl, (cell_of_row _ _ 6 _ _ (0, 0) b1).trans rfl, (cell_of_row _ _ 7 _ _ (0, 0) b1).trans rfl, (cell_of_row _ _ 8 _ _ (0, 0) b1).trans rfl, (cell_of_row _ _ 9 _ _ (0, 0) b1).trans rfl, jaA b2, jaA b3⟩
     have PC := jae (fun (H kh h i : Nat) (w : World) (h1 : h + i < H) (h2 : H ≤ 65536) => jmv H kh h i w h1 h2)
     obtain ⟨a0, a1, a2, a3, a4, a5, a6, a7, a8, a9, d2, d3⟩ := CELL.out W0 HW0.out
     refine callsIn_wide.2 ?_
     go_enter Tryz.func128, Tryz.ntmps128
     go_wp2
     clear a0 a1 a2 a3 a4 a5 a6 a7 a8 a9 d2 d3
     go_loopg [14] kh (fun gh x wr => ∃ (i : Nat) (pre : List (Plc (kh * kw) (H * W))), gh = kh - i ∧ i ≤ kh ∧ x = .int .i64 i ∧ Below w.heap.size w wr ∧ J pre wr ∧ pre.map (·.1) = wpl W i kw h v)
     case atStart => exact ⟨0, [], rfl, Nat.zero_le _, rfl, HW0.out, H0.out, by simp [wpl]⟩
     case round =>
      obtain ⟨i, pre, hgk, hi, rfl, hbw, hj, hpre⟩ := hrel
      by_cases hlt : i < kh
      ·have HBW := jae hbw
       have HJ := jae hj
       have HPRE := jae hpre
       obtain ⟨a0, a1, a2, a3, a4, a5, a6, a7, a8, a9, d2, d3⟩ := CELL.out wr hbw
       clear hbw hj hpre
       have l1 : (i : Int) < (kh : Int) := by omega
       go_wp2_with (first | (go_at_call 129; refine (PC.out H kh h i _ (by omega) hH).mono ?_; rintro e w1 ⟨rfl, hg1⟩; have hb1 := jfn HBW.out hg1; have J1 := JG.out _ _ _ HJ.out hg1; obtain ⟨b0, b1, b2, b3, b4, b5, b6, b7, b8, b9, f2, f3⟩ := CELL.out w1 hb1) | fail)
       have HB1 := jae hb1
       have HJ1 := jae J1
       clear a0 a1 a2 a3 a4 a5 a6 a7 a8 a9 d2 d3 b0 b1 b2 b3 b4 b5 b6 b7 b8 b9 f2 f3 hb1 J1 hg1
       obtain ⟨wo, rfl⟩ : ∃ wo, wo = wr := ⟨_, rfl⟩
       go_loopg [30] kw (fun g2 x wx => ∃ (j : Nat) (pr : List (Plc (kh * kw) (H * W))), g2 = kw - j ∧ j ≤ kw ∧ x = .int .i64 j ∧ Below w.heap.size w wx ∧ J pr wx ∧ pr.map (·.1) = jkd W kw h v i j)
       case atStart => exact ⟨0, pre, rfl, Nat.zero_le _, rfl, HB1.out, HJ1.out, by rw [jpQ]; exact HPRE.out⟩
       case round =>
        obtain ⟨j, pr, hg2, hj, rfl, hbx, hjx, hpr⟩ := hrel
        by_cases hjl : j < kw
        ·have HBX := jae hbx
         have HJX := jae hjx
         have HPR := jae hpr
         obtain ⟨a0, a1, a2, a3, a4, a5, a6, a7, a8, a9, d2, d3⟩ := CELL.out wr hbx
         have hlen : pr.length < kh * kw := by
          have h1 := congrArg List.length hpr
          rw [List.length_map] at h1
          rw [h1]
          exact joE W kw h v i j hlt hjl
         have hx1 := jfK hlt hjl
         have hx2 := jkf hh hv hlt hjl
         have STP := jae (jke W kw h v i j)
         clear hbx hjx hpr
         have l2 : (j : Int) < (kw : Int) := by omega
         have E12 := jae (ji7 hx2 hL)
         have hvj : v + j < W := by omega
         go_upto_region 9 with (first | (go_at_call 129; refine (PC.out W kw v j _ hvj hW).mono ?_; rintro e w2 ⟨rfl, hg3⟩; have hb3 := jfn HBX.out hg3; have J3 := JG.out _ _ _ HJX.out hg3; obtain ⟨b0, b1, b2, b3, b4, b5, b6, b7, b8, b9, f2, f3⟩ := CELL.out w2 hb3) | fail)
         obtain ⟨fn, tmps, assign, body, hy, hR⟩ := HY.out pr ⟨(i * kw + j, (h + i) * W + (v + j)), hx1, hx2⟩ w2 J3 hlen
         have HR := jae hR
         have hy1 : (Instr.yield l #[.int .i64 ((i : Int) * kw + j), .int .i64 (((h : Int) + i) * W + ((v : Int) + j))]).run Tryz.prog w2 = .ok (.round l fn tmps assign body) w2 := by
          have h3 := hy
          simp only [encP] at h3
          push_cast at h3
          exact h3
         have HB3 := jae hb3
         clear a0 a1 a2 a3 a4 a5 a6 a7 a8 a9 d2 d3 b0 b1 b2 b3 b4 b7 b8 b9 f2 f3 hb3 J3 hg3 hy hR hlen
         obtain ⟨e1, e2⟩ := E12.out
         refine (wpIn_wide (n := n)).1 ?_
         gi_wp2
         refine ⟨fun h => (by cases h), HR.out.mono ?_⟩
         rintro e w3 (⟨rfl, hJ3, hk3⟩ | ⟨rfl, hJx3⟩)
         ·have HJ4 := jae hJ3
          have HB4 := jae (HB3.out.trans hk3)
          clear hJ3 hk3
          gi_wp2
          go_wp2
          go_roundg (kw - (j + 1))
          case measure => omega
          case rel => exact ⟨j + 1, _, rfl, by omega, by go_num, HB4.out, HJ4.out, by rw [STP.out, List.map_append, HPR.out]; rfl⟩
         ·have HX3 := jae hJx3
          clear hJx3
          gi_wp2
          go_wp2
          refine bodyPost_ret (results_none rfl _ _ _) rfl ?_
          exact ⟨⟨_, rfl⟩, .inr ⟨_, trivial, HX3.out⟩⟩
        ·obtain rfl : j = kw := by omega
         have HBX := jae hbx
         have HJX := jae hjx
         have HPR := jae hpr
         clear hbx hjx hpr
         go_wp2
         go_roundg (kh - (i + 1))
         case measure => omega
         case rel => exact ⟨i + 1, _, rfl, by omega, by go_num, HBX.out, HJX.out, by rw [HPR.out, jmq]⟩
      ·obtain rfl : i = kh := by omega
       have HJ := jae hj
       have HPRE := jae hpre
       clear hbw hj hpre
       go_wp2
       go_end0
       exact ⟨⟨_, rfl⟩, .inl ⟨_, HPRE.out, HJ.out⟩⟩
end Go.Proofs.YtkefdkboejimeaaGreatDoor
