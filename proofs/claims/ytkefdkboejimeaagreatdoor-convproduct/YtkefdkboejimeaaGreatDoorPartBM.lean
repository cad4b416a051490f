/- A part. -/
import Derived.Test.YtkefdkboejimeaaGreatDoorMini
import Derived.Test.YtkefdkboejimeaaGreatDoorMini2
import Derived.Test.YtkefdkboejimeaaGreatDoorPartBL
import Derived.Deep.CutRange
set_option maxHeartbeats 8000000
set_option maxRecDepth 100000
namespace Go.Proofs.YtkefdkboejimeaaGreatDoor
open Go.RowKit
theorem jcr (x : World) (B : Nat) (cs : Array Value) : x.grownBy (x.setRow B cs) (some B) := ⟨rfl, rfl, rfl, by simp, fun k _ hk => setRow_other _ _ _ _ (fun e => hk (by rw [e]))⟩
theorem IsInts.putAway {w w' : World} {v : Value} {zs : List Int} {B n c : Nat} {a : Option Addr} (h : IsInts w v zs) (hb : w.heap[B]? = some (.cells #[.slice a n c] 23 (0, 0))) (hg : w.grownBy w' (some B)) : IsInts w' v zs := by
 obtain ⟨ao, cap, rfl, h1, h2, h3, h4, h5, h6⟩ := h
 refine ⟨ao, cap, rfl, h1, h2, h3, h4, fun hl => ?_, h6⟩
 obtain ⟨b, off, rfl, hc⟩ := h5 hl
 have hne : b ≠ B := fun e => by
  subst e
  have h9 := hc 0 hl
  rw [cell_of_row w b (off + 0) _ _ (0, 0) hb] at h9
  cases off with
  | zero => simp at h9
  | succ off => simp at h9
 exact ⟨b, off, rfl, fun t ht => jaX (hc t ht) hg hne⟩
theorem jdH (n : Nod) (A : At) (dv kv : Sl) (D0 D1 H W kh kw : Nat) (w : World) (hn : NodeOk w n A) (hd : IsInts w dv.v [(D0 : Int), D1, H, W]) (hk : IsInts w kv.v [(kh : Int), kw]) (hs : A.ints ⟨#[115, 116, 114, 105, 100, 101, 115]⟩ [1, 1] = [1, 1]) (hl : A.ints ⟨#[100, 105, 108, 97, 116, 105, 111, 110, 115]⟩ [1, 1] = [1, 1]) (hp : A.ints ⟨#[112, 97, 100, 115]⟩ [0, 0, 0, 0] = [0, 0, 0, 0]) :
    Calls Tryz.prog 55 #[jaL n, .slice dv.a dv.n dv.c, .slice kv.a kv.n kv.c] w fun e w' => e = .returned (.agg #[.int .i64 H, .int .i64 kh, .int .i64 1, .int .i64 1, .int .i64 0, .int .i64 W, .int .i64 kw, .int .i64 1, .int .i64 1, .int .i64 0]) ∧ w.grownBy w' none := by
     have HN := jae hn
     have HD := jae hd
     have HK := jae hk
     obtain ⟨da, dn, dc⟩ := dv
     obtain ⟨ka, kn, kc⟩ := kv
     simp only [Sl.v] at HD HK ⊢
     obtain ⟨w0, hw0⟩ : ∃ w0, w0 = (((w.alloc (.cells #[.string n.op, .string n.name, .slice n.iv.a n.iv.n n.iv.c, .string n.out, .slice n.av.a n.av.n n.av.c] 35)).alloc (.cells #[.slice da dn dc] 22)).alloc (.cells #[.slice ka kn kc] 23)).alloc (.cells #[.int .i64 0, .int .i64 0, .int .i64 0, .int .i64 0, .int .i64 0, .int .i64 0, .int .i64 0, .int .i64 0, .int .i64 0, .int .i64 0] 90) := ⟨_, rfl⟩
     have g0 : w.grownBy w0 none := by rw [hw0]; exact jaa (jaa (jab _ _) (jab _ _)) (jaa (jab _ _) (jab _ _))
     have hb0 : w0.heap[w.heap.size]? = some (.cells #[.string n.op, .string n.name, .slice n.iv.a n.iv.n n.iv.c, .string n.out, .slice n.av.a n.av.n n.av.c] 35 (0, 0)) := by rw [hw0]; exact jad (heap_alloc_new w _) (jaa (jab _ _) (jaa (jab _ _) (jab _ _)))
     have hb1 : w0.heap[w.heap.size + 1]? = some (.cells #[.slice da dn dc] 22 (0, 0)) := by
      rw [hw0]
      exact jad (jax w _ _).2 (jaa (jab _ _) (jab _ _))
     have hb2 : w0.heap[w.heap.size + 1 + 1]? = some (.cells #[.slice ka kn kc] 23 (0, 0)) := by
      rw [hw0]
      refine jad ?_ (jab _ _)
      have h := heap_alloc_new ((w.alloc (.cells #[.string n.op, .string n.name, .slice n.iv.a n.iv.n n.iv.c, .string n.out, .slice n.av.a n.av.n n.av.c] 35)).alloc (.cells #[.slice da dn dc] 22)) (.cells #[.slice ka kn kc] 23)
      simpa using h
     have hb3 : w0.heap[w.heap.size + 1 + 1 + 1]? = some (.cells #[.int .i64 0, .int .i64 0, .int .i64 0, .int .i64 0, .int .i64 0, .int .i64 0, .int .i64 0, .int .i64 0, .int .i64 0, .int .i64 0] 90 (0, 0)) := by
      rw [hw0]
      have h := heap_alloc_new (((w.alloc (.cells #[.string n.op, .string n.name, .slice n.iv.a n.iv.n n.iv.c, .string n.out, .slice n.av.a n.av.n n.av.c] 35)).alloc (.cells #[.slice da dn dc] 22)).alloc (.cells #[.slice ka kn kc] 23)) (.cells #[.int .i64 0, .int .i64 0, .int .i64 0, .int .i64 0, .int .i64 0, .int .i64 0, .int .i64 0, .int .i64 0, .int .i64 0, .int .i64 0] 90)
      simpa using h
     have Z0 : Hid (w0.heap.size = w.heap.size + 4) := by show _ = _; rw [hw0]; simp
     have S1 : Hid (∀ wx, w0.grownBy wx none → Calls Tryz.prog 96 #[jaL n] wx fun e w' => ∃ u : Sl, e = .returned u.v ∧ IsInts w' u.v [1, 1] ∧ wx.grownBy w' none) := fun wx hx => by have h := jd5 n A wx (HN.out.more (jaa g0 hx)); rw [hs] at h; exact h
     have S2 : Hid (∀ wx, w0.grownBy wx none → Calls Tryz.prog 97 #[jaL n] wx fun e w' => ∃ u : Sl, e = .returned u.v ∧ IsInts w' u.v [1, 1] ∧ wx.grownBy w' none) := fun wx hx => by have h := jdu n A wx (HN.out.more (jaa g0 hx)); rw [hl] at h; exact h
     have S3 : Hid (∀ wx, w0.grownBy wx none → Calls Tryz.prog 98 #[jaL n] wx fun e w' => ∃ u : Sl, e = .returned u.v ∧ IsInts w' u.v [0, 0, 0, 0] ∧ wx.grownBy w' none) := fun wx hx => by have h := jiv n A wx (HN.out.more (jaa g0 hx)); rw [hp] at h; exact h
     obtain ⟨op, nam, ⟨ia, il, ic⟩, out, ⟨ao, al, cap⟩⟩ := n
     unfold jaL at S1 S2 S3 ⊢
     simp only at S1 S2 S3 hb0 hw0 ⊢
     obtain ⟨n0, n1, n2, n3, n4⟩ := jai (n := ⟨op, nam, ⟨ia, il, ic⟩, out, ⟨ao, al, cap⟩⟩) hb0
     have HB1 := jae hb1
     have HB2 := jae hb2
     have HB3 := jae hb3
     have G0 := jae g0
     clear hn hd hk hs hl hp hb0 hb1 hb2 hb3 g0
     go_enter Tryz.func55, Tryz.ntmps55
     go_upto_region 1 with fail
     rw [← hw0]
     clear hw0
     go_cut [7, 8, 9] from 11 to 16 (fun t7 t8 t9 wx => w0.grownBy wx none ∧ ∃ (b6 b7 b8 : Nat) (a1 : Option Addr) (m1 k1 : Nat) (a3 : Option Addr) (m3 k3 : Nat) (a5 : Option Addr) (m5 k5 : Nat), t7 = .pointer (some ⟨b6, 0, none⟩) ∧ t8 = .pointer (some ⟨b7, 0, none⟩) ∧ t9 = .pointer (some ⟨b8, 0, none⟩) ∧ wx.heap[b6]? = some (.cells #[.slice a1 m1 k1] 23 (0, 0)) ∧ wx.heap[b7]? = some (.cells #[.slice a3 m3 k3] 23 (0, 0)) ∧ wx.heap[b8]? = some (.cells #[.slice a5 m5 k5] 23 (0, 0)) ∧ IsInts wx (.slice a1 m1 k1) [1, 1] ∧ IsInts wx (.slice a3 m3 k3) [1, 1] ∧ IsInts wx (.slice a5 m5 k5) [0, 0, 0, 0])
     case first =>
      refine wp_region_held_drew (S := fun w' => w0.grownBy w' none) (by kernel_rfl) (jag (jaf _)) (fun _ => ?_)
      refine' jat (N := ∀ (v : World) (a1 : Option Addr) (m1 : Nat) (k1 : Nat) (a3 : Option Addr) (m3 : Nat) (k3 : Nat) (a5 : Option Addr) (m5 : Nat) (k5 : Nat) (b6 : Nat) (b7 : Nat) (b8 : Nat), w0.grownBy v none → IsInts v (.slice a1 m1 k1) [1, 1] → IsInts v (.slice a3 m3 k3) [1, 1] → IsInts v (.slice a5 m5 k5) [0, 0, 0, 0] → v.heap[b6]? = some (.cells #[.slice none 0 0] 23 (0, 0)) → w0.heap.size ≤ b6 → v.heap[b7]? = some (.cells #[.slice none 0 0] 23 (0, 0)) → w0.heap.size ≤ b7 → v.heap[b8]? = some (.cells #[.slice none 0 0] 23 (0, 0)) → w0.heap.size ≤ b8 → b6 ≠ b7 → b6 ≠ b8 → b7 ≠ b8 → (_ : World → Option Addr → Nat → Nat → Option Addr → Nat → Nat → Option Addr → Nat → Nat → Nat → Nat → Nat → Prop) v a1 m1 k1 a3 m3 k3 a5 m5 k5 b6 b7 b8) (fun N1_3_5_6_7_8 => ?_) ?_
      rotate_left 1
      refine' jat (N := ∀ (v : World) (a1 : Option Addr) (m1 : Nat) (k1 : Nat) (a3 : Option Addr) (m3 : Nat) (k3 : Nat) (a5 : Option Addr) (m5 : Nat) (k5 : Nat) (b6 : Nat) (b7 : Nat), w0.grownBy v none → IsInts v (.slice a1 m1 k1) [1, 1] → IsInts v (.slice a3 m3 k3) [1, 1] → IsInts v (.slice a5 m5 k5) [0, 0, 0, 0] → v.heap[b6]? = some (.cells #[.slice none 0 0] 23 (0, 0)) → w0.heap.size ≤ b6 → v.heap[b7]? = some (.cells #[.slice none 0 0] 23 (0, 0)) → w0.heap.size ≤ b7 → b6 ≠ b7 → (_ : World → Option Addr → Nat → Nat → Option Addr → Nat → Nat → Option Addr → Nat → Nat → Nat → Nat → Prop) v a1 m1 k1 a3 m3 k3 a5 m5 k5 b6 b7) (fun N1_3_5_6_7 => ?_) ?_
      rotate_left 1
      refine' jat (N := ∀ (v : World) (a1 : Option Addr) (m1 : Nat) (k1 : Nat) (a3 : Option Addr) (m3 : Nat) (k3 : Nat) (a5 : Option Addr) (m5 : Nat) (k5 : Nat) (b6 : Nat) (b8 : Nat), w0.grownBy v none → IsInts v (.slice a1 m1 k1) [1, 1] → IsInts v (.slice a3 m3 k3) [1, 1] → IsInts v (.slice a5 m5 k5) [0, 0, 0, 0] → v.heap[b6]? = some (.cells #[.slice none 0 0] 23 (0, 0)) → w0.heap.size ≤ b6 → v.heap[b8]? = some (.cells #[.slice none 0 0] 23 (0, 0)) → w0.heap.size ≤ b8 → b6 ≠ b8 → (_ : World → Option Addr → Nat → Nat → Option Addr → Nat → Nat → Option Addr → Nat → Nat → Nat → Nat → Prop) v a1 m1 k1 a3 m3 k3 a5 m5 k5 b6 b8) (fun N1_3_5_6_8 => ?_) ?_
      rotate_left 1
      refine' jat (N := ∀ (v : World) (a1 : Option Addr) (m1 : Nat) (k1 : Nat) (a3 : Option Addr) (m3 : Nat) (k3 : Nat) (a5 : Option Addr) (m5 : Nat) (k5 : Nat) (b7 : Nat) (b8 : Nat), w0.grownBy v none → IsInts v (.slice a1 m1 k1) [1, 1] → IsInts v (.slice a3 m3 k3) [1, 1] → IsInts v (.slice a5 m5 k5) [0, 0, 0, 0] → v.heap[b7]? = some (.cells #[.slice none 0 0] 23 (0, 0)) → w0.heap.size ≤ b7 → v.heap[b8]? = some (.cells #[.slice none 0 0] 23 (0, 0)) → w0.heap.size ≤ b8 → b7 ≠ b8 → (_ : World → Option Addr → Nat → Nat → Option Addr → Nat → Nat → Option Addr → Nat → Nat → Nat → Nat → Prop) v a1 m1 k1 a3 m3 k3 a5 m5 k5 b7 b8) (fun N1_3_5_7_8 => ?_) ?_
      rotate_left 1
      refine' jat (N := ∀ (v : World) (a1 : Option Addr) (m1 : Nat) (k1 : Nat) (a3 : Option Addr) (m3 : Nat) (k3 : Nat) (b6 : Nat) (b7 : Nat) (b8 : Nat), w0.grownBy v none → IsInts v (.slice a1 m1 k1) [1, 1] → IsInts v (.slice a3 m3 k3) [1, 1] → v.heap[b6]? = some (.cells #[.slice none 0 0] 23 (0, 0)) → w0.heap.size ≤ b6 → v.heap[b7]? = some (.cells #[.slice none 0 0] 23 (0, 0)) → w0.heap.size ≤ b7 → v.heap[b8]? = some (.cells #[.slice none 0 0] 23 (0, 0)) → w0.heap.size ≤ b8 → b6 ≠ b7 → b6 ≠ b8 → b7 ≠ b8 → (_ : World → Option Addr → Nat → Nat → Option Addr → Nat → Nat → Nat → Nat → Nat → Prop) v a1 m1 k1 a3 m3 k3 b6 b7 b8) (fun N1_3_6_7_8 => ?_) ?_
      rotate_left 1
      refine' jat (N := ∀ (v : World) (a1 : Option Addr) (m1 : Nat) (k1 : Nat) (a3 : Option Addr) (m3 : Nat) (k3 : Nat) (a5 : Option Addr) (m5 : Nat) (k5 : Nat) (b6 : Nat), w0.grownBy v none → IsInts v (.slice a1 m1 k1) [1, 1] → IsInts v (.slice a3 m3 k3) [1, 1] → IsInts v (.slice a5 m5 k5) [0, 0, 0, 0] → v.heap[b6]? = some (.cells #[.slice none 0 0] 23 (0, 0)) → w0.heap.size ≤ b6 → (_ : World → Option Addr → Nat → Nat → Option Addr → Nat → Nat → Option Addr → Nat → Nat → Nat → Prop) v a1 m1 k1 a3 m3 k3 a5 m5 k5 b6) (fun N1_3_5_6 => ?_) ?_
      rotate_left 1
      refine' jat (N := ∀ (v : World) (a1 : Option Addr) (m1 : Nat) (k1 : Nat) (a3 : Option Addr) (m3 : Nat) (k3 : Nat) (a5 : Option Addr) (m5 : Nat) (k5 : Nat) (b7 : Nat), w0.grownBy v none → IsInts v (.slice a1 m1 k1) [1, 1] → IsInts v (.slice a3 m3 k3) [1, 1] → IsInts v (.slice a5 m5 k5) [0, 0, 0, 0] → v.heap[b7]? = some (.cells #[.slice none 0 0] 23 (0, 0)) → w0.heap.size ≤ b7 → (_ : World → Option Addr → Nat → Nat → Option Addr → Nat → Nat → Option Addr → Nat → Nat → Nat → Prop) v a1 m1 k1 a3 m3 k3 a5 m5 k5 b7) (fun N1_3_5_7 => ?_) ?_
      rotate_left 1
      refine' jat (N := ∀ (v : World) (a1 : Option Addr) (m1 : Nat) (k1 : Nat) (a3 : Option Addr) (m3 : Nat) (k3 : Nat) (a5 : Option Addr) (m5 : Nat) (k5 : Nat) (b8 : Nat), w0.grownBy v none → IsInts v (.slice a1 m1 k1) [1, 1] → IsInts v (.slice a3 m3 k3) [1, 1] → IsInts v (.slice a5 m5 k5) [0, 0, 0, 0] → v.heap[b8]? = some (.cells #[.slice none 0 0] 23 (0, 0)) → w0.heap.size ≤ b8 → (_ : World → Option Addr → Nat → Nat → Option Addr → Nat → Nat → Option Addr → Nat → Nat → Nat → Prop) v a1 m1 k1 a3 m3 k3 a5 m5 k5 b8) (fun N1_3_5_8 => ?_) ?_
      rotate_left 1
      refine' jat (N := ∀ (v : World) (a1 : Option Addr) (m1 : Nat) (k1 : Nat) (a3 : Option Addr) (m3 : Nat) (k3 : Nat) (b6 : Nat) (b7 : Nat), w0.grownBy v none → IsInts v (.slice a1 m1 k1) [1, 1] → IsInts v (.slice a3 m3 k3) [1, 1] → v.heap[b6]? = some (.cells #[.slice none 0 0] 23 (0, 0)) → w0.heap.size ≤ b6 → v.heap[b7]? = some (.cells #[.slice none 0 0] 23 (0, 0)) → w0.heap.size ≤ b7 → b6 ≠ b7 → (_ : World → Option Addr → Nat → Nat → Option Addr → Nat → Nat → Nat → Nat → Prop) v a1 m1 k1 a3 m3 k3 b6 b7) (fun N1_3_6_7 => ?_) ?_
      rotate_left 1
      refine' jat (N := ∀ (v : World) (a1 : Option Addr) (m1 : Nat) (k1 : Nat) (a3 : Option Addr) (m3 : Nat) (k3 : Nat) (b6 : Nat) (b8 : Nat), w0.grownBy v none → IsInts v (.slice a1 m1 k1) [1, 1] → IsInts v (.slice a3 m3 k3) [1, 1] → v.heap[b6]? = some (.cells #[.slice none 0 0] 23 (0, 0)) → w0.heap.size ≤ b6 → v.heap[b8]? = some (.cells #[.slice none 0 0] 23 (0, 0)) → w0.heap.size ≤ b8 → b6 ≠ b8 → (_ : World → Option Addr → Nat → Nat → Option Addr → Nat → Nat → Nat → Nat → Prop) v a1 m1 k1 a3 m3 k3 b6 b8) (fun N1_3_6_8 => ?_) ?_
      rotate_left 1
      refine' jat (N := ∀ (v : World) (a1 : Option Addr) (m1 : Nat) (k1 : Nat) (a3 : Option Addr) (m3 : Nat) (k3 : Nat) (b7 : Nat) (b8 : Nat), w0.grownBy v none → IsInts v (.slice a1 m1 k1) [1, 1] → IsInts v (.slice a3 m3 k3) [1, 1] → v.heap[b7]? = some (.cells #[.slice none 0 0] 23 (0, 0)) → w0.heap.size ≤ b7 → v.heap[b8]? = some (.cells #[.slice none 0 0] 23 (0, 0)) → w0.heap.size ≤ b8 → b7 ≠ b8 → (_ : World → Option Addr → Nat → Nat → Option Addr → Nat → Nat → Nat → Nat → Prop) v a1 m1 k1 a3 m3 k3 b7 b8) (fun N1_3_7_8 => ?_) ?_
      rotate_left 1
      refine' jat (N := ∀ (v : World) (a1 : Option Addr) (m1 : Nat) (k1 : Nat) (b6 : Nat) (b7 : Nat) (b8 : Nat), w0.grownBy v none → IsInts v (.slice a1 m1 k1) [1, 1] → v.heap[b6]? = some (.cells #[.slice none 0 0] 23 (0, 0)) → w0.heap.size ≤ b6 → v.heap[b7]? = some (.cells #[.slice none 0 0] 23 (0, 0)) → w0.heap.size ≤ b7 → v.heap[b8]? = some (.cells #[.slice none 0 0] 23 (0, 0)) → w0.heap.size ≤ b8 → b6 ≠ b7 → b6 ≠ b8 → b7 ≠ b8 → (_ : World → Option Addr → Nat → Nat → Nat → Nat → Nat → Prop) v a1 m1 k1 b6 b7 b8) (fun N1_6_7_8 => ?_) ?_
      rotate_left 1
      refine' jat (N := ∀ (v : World) (a1 : Option Addr) (m1 : Nat) (k1 : Nat) (a3 : Option Addr) (m3 : Nat) (k3 : Nat) (a5 : Option Addr) (m5 : Nat) (k5 : Nat), w0.grownBy v none → IsInts v (.slice a1 m1 k1) [1, 1] → IsInts v (.slice a3 m3 k3) [1, 1] → IsInts v (.slice a5 m5 k5) [0, 0, 0, 0] → (_ : World → Option Addr → Nat → Nat → Option Addr → Nat → Nat → Option Addr → Nat → Nat → Prop) v a1 m1 k1 a3 m3 k3 a5 m5 k5) (fun N1_3_5 => ?_) ?_
      rotate_left 1
      refine' jat (N := ∀ (v : World) (a1 : Option Addr) (m1 : Nat) (k1 : Nat) (a3 : Option Addr) (m3 : Nat) (k3 : Nat) (b6 : Nat), w0.grownBy v none → IsInts v (.slice a1 m1 k1) [1, 1] → IsInts v (.slice a3 m3 k3) [1, 1] → v.heap[b6]? = some (.cells #[.slice none 0 0] 23 (0, 0)) → w0.heap.size ≤ b6 → (_ : World → Option Addr → Nat → Nat → Option Addr → Nat → Nat → Nat → Prop) v a1 m1 k1 a3 m3 k3 b6) (fun N1_3_6 => ?_) ?_
      rotate_left 1
      refine' jat (N := ∀ (v : World) (a1 : Option Addr) (m1 : Nat) (k1 : Nat) (a3 : Option Addr) (m3 : Nat) (k3 : Nat) (b7 : Nat), w0.grownBy v none → IsInts v (.slice a1 m1 k1) [1, 1] → IsInts v (.slice a3 m3 k3) [1, 1] → v.heap[b7]? = some (.cells #[.slice none 0 0] 23 (0, 0)) → w0.heap.size ≤ b7 → (_ : World → Option Addr → Nat → Nat → Option Addr → Nat → Nat → Nat → Prop) v a1 m1 k1 a3 m3 k3 b7) (fun N1_3_7 => ?_) ?_
      rotate_left 1
      refine' jat (N := ∀ (v : World) (a1 : Option Addr) (m1 : Nat) (k1 : Nat) (a3 : Option Addr) (m3 : Nat) (k3 : Nat) (b8 : Nat), w0.grownBy v none → IsInts v (.slice a1 m1 k1) [1, 1] → IsInts v (.slice a3 m3 k3) [1, 1] → v.heap[b8]? = some (.cells #[.slice none 0 0] 23 (0, 0)) → w0.heap.size ≤ b8 → (_ : World → Option Addr → Nat → Nat → Option Addr → Nat → Nat → Nat → Prop) v a1 m1 k1 a3 m3 k3 b8) (fun N1_3_8 => ?_) ?_
      rotate_left 1
      refine' jat (N := ∀ (v : World) (a1 : Option Addr) (m1 : Nat) (k1 : Nat) (b6 : Nat) (b7 : Nat), w0.grownBy v none → IsInts v (.slice a1 m1 k1) [1, 1] → v.heap[b6]? = some (.cells #[.slice none 0 0] 23 (0, 0)) → w0.heap.size ≤ b6 → v.heap[b7]? = some (.cells #[.slice none 0 0] 23 (0, 0)) → w0.heap.size ≤ b7 → b6 ≠ b7 → (_ : World → Option Addr → Nat → Nat → Nat → Nat → Prop) v a1 m1 k1 b6 b7) (fun N1_6_7 => ?_) ?_
      rotate_left 1
      refine' jat (N := ∀ (v : World) (a1 : Option Addr) (m1 : Nat) (k1 : Nat) (b6 : Nat) (b8 : Nat), w0.grownBy v none → IsInts v (.slice a1 m1 k1) [1, 1] → v.heap[b6]? = some (.cells #[.slice none 0 0] 23 (0, 0)) → w0.heap.size ≤ b6 → v.heap[b8]? = some (.cells #[.slice none 0 0] 23 (0, 0)) → w0.heap.size ≤ b8 → b6 ≠ b8 → (_ : World → Option Addr → Nat → Nat → Nat → Nat → Prop) v a1 m1 k1 b6 b8) (fun N1_6_8 => ?_) ?_
      rotate_left 1
      refine' jat (N := ∀ (v : World) (a1 : Option Addr) (m1 : Nat) (k1 : Nat) (b7 : Nat) (b8 : Nat), w0.grownBy v none → IsInts v (.slice a1 m1 k1) [1, 1] → v.heap[b7]? = some (.cells #[.slice none 0 0] 23 (0, 0)) → w0.heap.size ≤ b7 → v.heap[b8]? = some (.cells #[.slice none 0 0] 23 (0, 0)) → w0.heap.size ≤ b8 → b7 ≠ b8 → (_ : World → Option Addr → Nat → Nat → Nat → Nat → Prop) v a1 m1 k1 b7 b8) (fun N1_7_8 => ?_) ?_
      rotate_left 1
      refine' jat (N := ∀ (v : World) (b6 : Nat) (b7 : Nat) (b8 : Nat), w0.grownBy v none → v.heap[b6]? = some (.cells #[.slice none 0 0] 23 (0, 0)) → w0.heap.size ≤ b6 → v.heap[b7]? = some (.cells #[.slice none 0 0] 23 (0, 0)) → w0.heap.size ≤ b7 → v.heap[b8]? = some (.cells #[.slice none 0 0] 23 (0, 0)) → w0.heap.size ≤ b8 → b6 ≠ b7 → b6 ≠ b8 → b7 ≠ b8 → (_ : World → Nat → Nat → Nat → Prop) v b6 b7 b8) (fun N6_7_8 => ?_) ?_
      rotate_left 1
      refine' jat (N := ∀ (v : World) (a1 : Option Addr) (m1 : Nat) (k1 : Nat) (a3 : Option Addr) (m3 : Nat) (k3 : Nat), w0.grownBy v none → IsInts v (.slice a1 m1 k1) [1, 1] → IsInts v (.slice a3 m3 k3) [1, 1] → (_ : World → Option Addr → Nat → Nat → Option Addr → Nat → Nat → Prop) v a1 m1 k1 a3 m3 k3) (fun N1_3 => ?_) ?_
      rotate_left 1
      refine' jat (N := ∀ (v : World) (a1 : Option Addr) (m1 : Nat) (k1 : Nat) (b6 : Nat), w0.grownBy v none → IsInts v (.slice a1 m1 k1) [1, 1] → v.heap[b6]? = some (.cells #[.slice none 0 0] 23 (0, 0)) → w0.heap.size ≤ b6 → (_ : World → Option Addr → Nat → Nat → Nat → Prop) v a1 m1 k1 b6) (fun N1_6 => ?_) ?_
      rotate_left 1
      refine' jat (N := ∀ (v : World) (a1 : Option Addr) (m1 : Nat) (k1 : Nat) (b7 : Nat), w0.grownBy v none → IsInts v (.slice a1 m1 k1) [1, 1] → v.heap[b7]? = some (.cells #[.slice none 0 0] 23 (0, 0)) → w0.heap.size ≤ b7 → (_ : World → Option Addr → Nat → Nat → Nat → Prop) v a1 m1 k1 b7) (fun N1_7 => ?_) ?_
      rotate_left 1
      refine' jat (N := ∀ (v : World) (a1 : Option Addr) (m1 : Nat) (k1 : Nat) (b8 : Nat), w0.grownBy v none → IsInts v (.slice a1 m1 k1) [1, 1] → v.heap[b8]? = some (.cells #[.slice none 0 0] 23 (0, 0)) → w0.heap.size ≤ b8 → (_ : World → Option Addr → Nat → Nat → Nat → Prop) v a1 m1 k1 b8) (fun N1_8 => ?_) ?_
      rotate_left 1
      refine' jat (N := ∀ (v : World) (b6 : Nat) (b7 : Nat), w0.grownBy v none → v.heap[b6]? = some (.cells #[.slice none 0 0] 23 (0, 0)) → w0.heap.size ≤ b6 → v.heap[b7]? = some (.cells #[.slice none 0 0] 23 (0, 0)) → w0.heap.size ≤ b7 → b6 ≠ b7 → (_ : World → Nat → Nat → Prop) v b6 b7) (fun N6_7 => ?_) ?_
      rotate_left 1
      refine' jat (N := ∀ (v : World) (b6 : Nat) (b8 : Nat), w0.grownBy v none → v.heap[b6]? = some (.cells #[.slice none 0 0] 23 (0, 0)) → w0.heap.size ≤ b6 → v.heap[b8]? = some (.cells #[.slice none 0 0] 23 (0, 0)) → w0.heap.size ≤ b8 → b6 ≠ b8 → (_ : World → Nat → Nat → Prop) v b6 b8) (fun N6_8 => ?_) ?_
      rotate_left 1
      refine' jat (N := ∀ (v : World) (b7 : Nat) (b8 : Nat), w0.grownBy v none → v.heap[b7]? = some (.cells #[.slice none 0 0] 23 (0, 0)) → w0.heap.size ≤ b7 → v.heap[b8]? = some (.cells #[.slice none 0 0] 23 (0, 0)) → w0.heap.size ≤ b8 → b7 ≠ b8 → (_ : World → Nat → Nat → Prop) v b7 b8) (fun N7_8 => ?_) ?_
      rotate_left 1
      refine' jat (N := ∀ (v : World) (a1 : Option Addr) (m1 : Nat) (k1 : Nat), w0.grownBy v none → IsInts v (.slice a1 m1 k1) [1, 1] → (_ : World → Option Addr → Nat → Nat → Prop) v a1 m1 k1) (fun N1 => ?_) ?_
      rotate_left 1
      refine' jat (N := ∀ (v : World) (b6 : Nat), w0.grownBy v none → v.heap[b6]? = some (.cells #[.slice none 0 0] 23 (0, 0)) → w0.heap.size ≤ b6 → (_ : World → Nat → Prop) v b6) (fun N6 => ?_) ?_
      rotate_left 1
      refine' jat (N := ∀ (v : World) (b7 : Nat), w0.grownBy v none → v.heap[b7]? = some (.cells #[.slice none 0 0] 23 (0, 0)) → w0.heap.size ≤ b7 → (_ : World → Nat → Prop) v b7) (fun N7 => ?_) ?_
      rotate_left 1
      refine' jat (N := ∀ (v : World) (b8 : Nat), w0.grownBy v none → v.heap[b8]? = some (.cells #[.slice none 0 0] 23 (0, 0)) → w0.heap.size ≤ b8 → (_ : World → Nat → Prop) v b8) (fun N8 => ?_) ?_
      rotate_left 1
      ·have g : w0.grownBy w0.drew none := jag (jaf _)
       generalize hv : w0.drew = v at g ⊢
       clear hv
       refine tkE 0 ?_ (hv := by intro wS hSw; have c0 := jac n0 hSw; have c1 := jac n1 hSw; have c2 := jac n2 hSw; have c3 := jac n3 hSw; have c4 := jac n4 hSw; go_simp; (try with_reducible rfl))
       try simp only [Act.put]
       refine tkE 2 ?_ (hv := by intro wS hSw; have c0 := jac n0 hSw; have c1 := jac n1 hSw; have c2 := jac n2 hSw; have c3 := jac n3 hSw; have c4 := jac n4 hSw; go_simp; (try with_reducible rfl))
       try simp only [Act.put]
       refine tkE 4 ?_ (hv := by intro wS hSw; have c0 := jac n0 hSw; have c1 := jac n1 hSw; have c2 := jac n2 hSw; have c3 := jac n3 hSw; have c4 := jac n4 hSw; go_simp; (try with_reducible rfl))
       try simp only [Act.put]
       refine wpAnyH_ready (rs := [1, 6, 7, 8]) (by kernel_rfl) (by simp) ?_
       refine AllReadyH.cons rfl (fun K hK => ?_) ?_
       ·go_simp
        refine (S1.out v g).mono ?_
        rintro e u ⟨⟨a1, m1, k1⟩, rfl, i1, gs⟩
        simp only [Sl.v] at i1 ⊢
        have gn := jaa g gs
        refine hK.out _ _ gn (fun hHeld => ?_)
        clear hK K
        try simp only [Act.put]
        clear g gs hHeld
        exact N1 u a1 m1 k1 gn i1
       refine AllReadyH.cons rfl (fun K hK => ?_) ?_
       ·go_simp
        have l6 := g.size
        have h6 := heap_alloc_new v (.cells #[.slice none 0 0] 23)
        have gs := jab v (.cells #[.slice none 0 0] 23)
        generalize hvn : v.alloc (.cells #[.slice none 0 0] 23) = u at h6 gs ⊢
        clear hvn
        generalize v.heap.size = b6 at h6 l6  ⊢
        have gn := jaa g gs
        refine hK.out _ _ gn (fun hHeld => ?_)
        clear hK K
        try simp only [Act.put]
        clear g gs hHeld
        exact N6 u b6 gn h6 l6
       refine AllReadyH.cons rfl (fun K hK => ?_) ?_
       ·go_simp
        have l7 := g.size
        have h7 := heap_alloc_new v (.cells #[.slice none 0 0] 23)
        have gs := jab v (.cells #[.slice none 0 0] 23)
        generalize hvn : v.alloc (.cells #[.slice none 0 0] 23) = u at h7 gs ⊢
        clear hvn
        generalize v.heap.size = b7 at h7 l7  ⊢
        have gn := jaa g gs
        refine hK.out _ _ gn (fun hHeld => ?_)
        clear hK K
        try simp only [Act.put]
        clear g gs hHeld
        exact N7 u b7 gn h7 l7
       refine AllReadyH.cons rfl (fun K hK => ?_) ?_
       ·go_simp
        have l8 := g.size
        have h8 := heap_alloc_new v (.cells #[.slice none 0 0] 23)
        have gs := jab v (.cells #[.slice none 0 0] 23)
        generalize hvn : v.alloc (.cells #[.slice none 0 0] 23) = u at h8 gs ⊢
        clear hvn
        generalize v.heap.size = b8 at h8 l8  ⊢
        have gn := jaa g gs
        refine hK.out _ _ gn (fun hHeld => ?_)
        clear hK K
        try simp only [Act.put]
        clear g gs hHeld
        exact N8 u b8 gn h8 l8
       exact AllReadyH.nil
      ·intro v b8 g h8 l8
       refine wpAnyH_ready (rs := [1, 6, 7]) (by kernel_rfl) (by simp) ?_
       refine AllReadyH.cons rfl (fun K hK => ?_) ?_
       ·go_simp
        refine (S1.out v g).mono ?_
        rintro e u ⟨⟨a1, m1, k1⟩, rfl, i1, gs⟩
        simp only [Sl.v] at i1 ⊢
        have gn := jaa g gs
        refine hK.out _ _ gn (fun hHeld => ?_)
        clear hK K
        try simp only [Act.put]
        have h8 := jad h8 gs
        clear g gs hHeld
        exact N1_8 u a1 m1 k1 b8 gn i1 h8 l8
       refine AllReadyH.cons rfl (fun K hK => ?_) ?_
       ·go_simp
        have l6 := g.size
        have d6_8 : v.heap.size ≠ b8 := fun e => by have h9 := (Array.getElem?_eq_some_iff.1 h8).1; omega
        have h6 := heap_alloc_new v (.cells #[.slice none 0 0] 23)
        have gs := jab v (.cells #[.slice none 0 0] 23)
        generalize hvn : v.alloc (.cells #[.slice none 0 0] 23) = u at h6 gs ⊢
        clear hvn
        generalize v.heap.size = b6 at h6 l6 d6_8 ⊢
        have gn := jaa g gs
        refine hK.out _ _ gn (fun hHeld => ?_)
        clear hK K
        try simp only [Act.put]
        have h8 := jad h8 gs
        clear g gs hHeld
        exact N6_8 u b6 b8 gn h6 l6 h8 l8 d6_8
       refine AllReadyH.cons rfl (fun K hK => ?_) ?_
       ·go_simp
        have l7 := g.size
        have d7_8 : v.heap.size ≠ b8 := fun e => by have h9 := (Array.getElem?_eq_some_iff.1 h8).1; omega
        have h7 := heap_alloc_new v (.cells #[.slice none 0 0] 23)
        have gs := jab v (.cells #[.slice none 0 0] 23)
        generalize hvn : v.alloc (.cells #[.slice none 0 0] 23) = u at h7 gs ⊢
        clear hvn
        generalize v.heap.size = b7 at h7 l7 d7_8 ⊢
        have gn := jaa g gs
        refine hK.out _ _ gn (fun hHeld => ?_)
        clear hK K
        try simp only [Act.put]
        have h8 := jad h8 gs
        clear g gs hHeld
        exact N7_8 u b7 b8 gn h7 l7 h8 l8 d7_8
       exact AllReadyH.nil
      ·intro v b7 g h7 l7
       refine wpAnyH_ready (rs := [1, 6, 8]) (by kernel_rfl) (by simp) ?_
       refine AllReadyH.cons rfl (fun K hK => ?_) ?_
       ·go_simp
        refine (S1.out v g).mono ?_
        rintro e u ⟨⟨a1, m1, k1⟩, rfl, i1, gs⟩
        simp only [Sl.v] at i1 ⊢
        have gn := jaa g gs
        refine hK.out _ _ gn (fun hHeld => ?_)
        clear hK K
        try simp only [Act.put]
        have h7 := jad h7 gs
        clear g gs hHeld
        exact N1_7 u a1 m1 k1 b7 gn i1 h7 l7
       refine AllReadyH.cons rfl (fun K hK => ?_) ?_
       ·go_simp
        have l6 := g.size
        have d6_7 : v.heap.size ≠ b7 := fun e => by have h9 := (Array.getElem?_eq_some_iff.1 h7).1; omega
        have h6 := heap_alloc_new v (.cells #[.slice none 0 0] 23)
        have gs := jab v (.cells #[.slice none 0 0] 23)
        generalize hvn : v.alloc (.cells #[.slice none 0 0] 23) = u at h6 gs ⊢
        clear hvn
        generalize v.heap.size = b6 at h6 l6 d6_7 ⊢
        have gn := jaa g gs
        refine hK.out _ _ gn (fun hHeld => ?_)
        clear hK K
        try simp only [Act.put]
        have h7 := jad h7 gs
        clear g gs hHeld
        exact N6_7 u b6 b7 gn h6 l6 h7 l7 d6_7
       refine AllReadyH.cons rfl (fun K hK => ?_) ?_
       ·go_simp
        have l8 := g.size
        have d7_8 : b7 ≠ v.heap.size := fun e => by have h9 := (Array.getElem?_eq_some_iff.1 h7).1; omega
        have h8 := heap_alloc_new v (.cells #[.slice none 0 0] 23)
        have gs := jab v (.cells #[.slice none 0 0] 23)
        generalize hvn : v.alloc (.cells #[.slice none 0 0] 23) = u at h8 gs ⊢
        clear hvn
        generalize v.heap.size = b8 at h8 l8 d7_8 ⊢
        have gn := jaa g gs
        refine hK.out _ _ gn (fun hHeld => ?_)
        clear hK K
        try simp only [Act.put]
        have h7 := jad h7 gs
        clear g gs hHeld
        refine cast ?_ (N7_8 u b7 b8 gn h7 l7 h8 l8 d7_8)
        kernel_rfl
       exact AllReadyH.nil
      ·intro v b6 g h6 l6
       refine wpAnyH_ready (rs := [1, 7, 8]) (by kernel_rfl) (by simp) ?_
       refine AllReadyH.cons rfl (fun K hK => ?_) ?_
       ·go_simp
        refine (S1.out v g).mono ?_
        rintro e u ⟨⟨a1, m1, k1⟩, rfl, i1, gs⟩
        simp only [Sl.v] at i1 ⊢
        have gn := jaa g gs
        refine hK.out _ _ gn (fun hHeld => ?_)
        clear hK K
        try simp only [Act.put]
        have h6 := jad h6 gs
        clear g gs hHeld
        exact N1_6 u a1 m1 k1 b6 gn i1 h6 l6
       refine AllReadyH.cons rfl (fun K hK => ?_) ?_
       ·go_simp
        have l7 := g.size
        have d6_7 : b6 ≠ v.heap.size := fun e => by have h9 := (Array.getElem?_eq_some_iff.1 h6).1; omega
        have h7 := heap_alloc_new v (.cells #[.slice none 0 0] 23)
        have gs := jab v (.cells #[.slice none 0 0] 23)
        generalize hvn : v.alloc (.cells #[.slice none 0 0] 23) = u at h7 gs ⊢
        clear hvn
        generalize v.heap.size = b7 at h7 l7 d6_7 ⊢
        have gn := jaa g gs
        refine hK.out _ _ gn (fun hHeld => ?_)
        clear hK K
        try simp only [Act.put]
        have h6 := jad h6 gs
        clear g gs hHeld
        refine cast ?_ (N6_7 u b6 b7 gn h6 l6 h7 l7 d6_7)
        kernel_rfl
       refine AllReadyH.cons rfl (fun K hK => ?_) ?_
       ·go_simp
        have l8 := g.size
        have d6_8 : b6 ≠ v.heap.size := fun e => by have h9 := (Array.getElem?_eq_some_iff.1 h6).1; omega
        have h8 := heap_alloc_new v (.cells #[.slice none 0 0] 23)
        have gs := jab v (.cells #[.slice none 0 0] 23)
        generalize hvn : v.alloc (.cells #[.slice none 0 0] 23) = u at h8 gs ⊢
        clear hvn
        generalize v.heap.size = b8 at h8 l8 d6_8 ⊢
        have gn := jaa g gs
        refine hK.out _ _ gn (fun hHeld => ?_)
        clear hK K
        try simp only [Act.put]
        have h6 := jad h6 gs
        clear g gs hHeld
        refine cast ?_ (N6_8 u b6 b8 gn h6 l6 h8 l8 d6_8)
        kernel_rfl
       exact AllReadyH.nil
      ·intro v a1 m1 k1 g i1
       refine wpAnyH_ready (rs := [3, 6, 7, 8]) (by kernel_rfl) (by simp) ?_
       refine AllReadyH.cons rfl (fun K hK => ?_) ?_
       ·go_simp
        refine (S2.out v g).mono ?_
        rintro e u ⟨⟨a3, m3, k3⟩, rfl, i3, gs⟩
        simp only [Sl.v] at i3 ⊢
        have gn := jaa g gs
        refine hK.out _ _ gn (fun hHeld => ?_)
        clear hK K
        try simp only [Act.put]
        have i1 := i1.more gs
        clear g gs hHeld
        exact N1_3 u a1 m1 k1 a3 m3 k3 gn i1 i3
       refine AllReadyH.cons rfl (fun K hK => ?_) ?_
       ·go_simp
        have l6 := g.size
        have h6 := heap_alloc_new v (.cells #[.slice none 0 0] 23)
        have gs := jab v (.cells #[.slice none 0 0] 23)
        generalize hvn : v.alloc (.cells #[.slice none 0 0] 23) = u at h6 gs ⊢
        clear hvn
        generalize v.heap.size = b6 at h6 l6  ⊢
        have gn := jaa g gs
        refine hK.out _ _ gn (fun hHeld => ?_)
        clear hK K
        try simp only [Act.put]
        have i1 := i1.more gs
        clear g gs hHeld
        refine cast ?_ (N1_6 u a1 m1 k1 b6 gn i1 h6 l6)
        kernel_rfl
       refine AllReadyH.cons rfl (fun K hK => ?_) ?_
       ·go_simp
        have l7 := g.size
        have h7 := heap_alloc_new v (.cells #[.slice none 0 0] 23)
        have gs := jab v (.cells #[.slice none 0 0] 23)
        generalize hvn : v.alloc (.cells #[.slice none 0 0] 23) = u at h7 gs ⊢
        clear hvn
        generalize v.heap.size = b7 at h7 l7  ⊢
        have gn := jaa g gs
        refine hK.out _ _ gn (fun hHeld => ?_)
        clear hK K
        try simp only [Act.put]
        have i1 := i1.more gs
        clear g gs hHeld
        refine cast ?_ (N1_7 u a1 m1 k1 b7 gn i1 h7 l7)
        kernel_rfl
       refine AllReadyH.cons rfl (fun K hK => ?_) ?_
       ·go_simp
        have l8 := g.size
        have h8 := heap_alloc_new v (.cells #[.slice none 0 0] 23)
        have gs := jab v (.cells #[.slice none 0 0] 23)
        generalize hvn : v.alloc (.cells #[.slice none 0 0] 23) = u at h8 gs ⊢
        clear hvn
        generalize v.heap.size = b8 at h8 l8  ⊢
        have gn := jaa g gs
        refine hK.out _ _ gn (fun hHeld => ?_)
        clear hK K
        try simp only [Act.put]
        have i1 := i1.more gs
        clear g gs hHeld
        refine cast ?_ (N1_8 u a1 m1 k1 b8 gn i1 h8 l8)
        kernel_rfl
       exact AllReadyH.nil
      ·intro v b7 b8 g h7 l7 h8 l8 d7_8
       refine wpAnyH_ready (rs := [1, 6]) (by kernel_rfl) (by simp) ?_
       refine AllReadyH.cons rfl (fun K hK => ?_) ?_
       ·go_simp
        refine (S1.out v g).mono ?_
        rintro e u ⟨⟨a1, m1, k1⟩, rfl, i1, gs⟩
        simp only [Sl.v] at i1 ⊢
        have gn := jaa g gs
        refine hK.out _ _ gn (fun hHeld => ?_)
        clear hK K
        try simp only [Act.put]
        have h7 := jad h7 gs
        have h8 := jad h8 gs
        clear g gs hHeld
        exact N1_7_8 u a1 m1 k1 b7 b8 gn i1 h7 l7 h8 l8 d7_8
       refine AllReadyH.cons rfl (fun K hK => ?_) ?_
       ·go_simp
        have l6 := g.size
        have d6_7 : v.heap.size ≠ b7 := fun e => by have h9 := (Array.getElem?_eq_some_iff.1 h7).1; omega
        have d6_8 : v.heap.size ≠ b8 := fun e => by have h9 := (Array.getElem?_eq_some_iff.1 h8).1; omega
        have h6 := heap_alloc_new v (.cells #[.slice none 0 0] 23)
        have gs := jab v (.cells #[.slice none 0 0] 23)
        generalize hvn : v.alloc (.cells #[.slice none 0 0] 23) = u at h6 gs ⊢
        clear hvn
        generalize v.heap.size = b6 at h6 l6 d6_7 d6_8 ⊢
        have gn := jaa g gs
        refine hK.out _ _ gn (fun hHeld => ?_)
        clear hK K
        try simp only [Act.put]
        have h7 := jad h7 gs
        have h8 := jad h8 gs
        clear g gs hHeld
        exact N6_7_8 u b6 b7 b8 gn h6 l6 h7 l7 h8 l8 d6_7 d6_8 d7_8
       exact AllReadyH.nil
      ·intro v b6 b8 g h6 l6 h8 l8 d6_8
       refine wpAnyH_ready (rs := [1, 7]) (by kernel_rfl) (by simp) ?_
       refine AllReadyH.cons rfl (fun K hK => ?_) ?_
       ·go_simp
        refine (S1.out v g).mono ?_
        rintro e u ⟨⟨a1, m1, k1⟩, rfl, i1, gs⟩
        simp only [Sl.v] at i1 ⊢
        have gn := jaa g gs
        refine hK.out _ _ gn (fun hHeld => ?_)
        clear hK K
        try simp only [Act.put]
        have h6 := jad h6 gs
        have h8 := jad h8 gs
        clear g gs hHeld
        exact N1_6_8 u a1 m1 k1 b6 b8 gn i1 h6 l6 h8 l8 d6_8
       refine AllReadyH.cons rfl (fun K hK => ?_) ?_
       ·go_simp
        have l7 := g.size
        have d6_7 : b6 ≠ v.heap.size := fun e => by have h9 := (Array.getElem?_eq_some_iff.1 h6).1; omega
        have d7_8 : v.heap.size ≠ b8 := fun e => by have h9 := (Array.getElem?_eq_some_iff.1 h8).1; omega
        have h7 := heap_alloc_new v (.cells #[.slice none 0 0] 23)
        have gs := jab v (.cells #[.slice none 0 0] 23)
        generalize hvn : v.alloc (.cells #[.slice none 0 0] 23) = u at h7 gs ⊢
        clear hvn
        generalize v.heap.size = b7 at h7 l7 d6_7 d7_8 ⊢
        have gn := jaa g gs
        refine hK.out _ _ gn (fun hHeld => ?_)
        clear hK K
        try simp only [Act.put]
        have h6 := jad h6 gs
        have h8 := jad h8 gs
        clear g gs hHeld
        refine cast ?_ (N6_7_8 u b6 b7 b8 gn h6 l6 h7 l7 h8 l8 d6_7 d6_8 d7_8)
        kernel_rfl
       exact AllReadyH.nil
      ·intro v b6 b7 g h6 l6 h7 l7 d6_7
       refine wpAnyH_ready (rs := [1, 8]) (by kernel_rfl) (by simp) ?_
       refine AllReadyH.cons rfl (fun K hK => ?_) ?_
       ·go_simp
        refine (S1.out v g).mono ?_
        rintro e u ⟨⟨a1, m1, k1⟩, rfl, i1, gs⟩
        simp only [Sl.v] at i1 ⊢
        have gn := jaa g gs
        refine hK.out _ _ gn (fun hHeld => ?_)
        clear hK K
        try simp only [Act.put]
        have h6 := jad h6 gs
        have h7 := jad h7 gs
        clear g gs hHeld
        exact N1_6_7 u a1 m1 k1 b6 b7 gn i1 h6 l6 h7 l7 d6_7
       refine AllReadyH.cons rfl (fun K hK => ?_) ?_
       ·go_simp
        have l8 := g.size
        have d6_8 : b6 ≠ v.heap.size := fun e => by have h9 := (Array.getElem?_eq_some_iff.1 h6).1; omega
        have d7_8 : b7 ≠ v.heap.size := fun e => by have h9 := (Array.getElem?_eq_some_iff.1 h7).1; omega
        have h8 := heap_alloc_new v (.cells #[.slice none 0 0] 23)
        have gs := jab v (.cells #[.slice none 0 0] 23)
        generalize hvn : v.alloc (.cells #[.slice none 0 0] 23) = u at h8 gs ⊢
        clear hvn
        generalize v.heap.size = b8 at h8 l8 d6_8 d7_8 ⊢
        have gn := jaa g gs
        refine hK.out _ _ gn (fun hHeld => ?_)
        clear hK K
        try simp only [Act.put]
        have h6 := jad h6 gs
        have h7 := jad h7 gs
        clear g gs hHeld
        refine cast ?_ (N6_7_8 u b6 b7 b8 gn h6 l6 h7 l7 h8 l8 d6_7 d6_8 d7_8)
        kernel_rfl
       exact AllReadyH.nil
      ·intro v a1 m1 k1 b8 g i1 h8 l8
       refine wpAnyH_ready (rs := [3, 6, 7]) (by kernel_rfl) (by simp) ?_
       refine AllReadyH.cons rfl (fun K hK => ?_) ?_
       ·go_simp
        refine (S2.out v g).mono ?_
        rintro e u ⟨⟨a3, m3, k3⟩, rfl, i3, gs⟩
        simp only [Sl.v] at i3 ⊢
        have gn := jaa g gs
        refine hK.out _ _ gn (fun hHeld => ?_)
        clear hK K
        try simp only [Act.put]
        have i1 := i1.more gs
        have h8 := jad h8 gs
        clear g gs hHeld
        exact N1_3_8 u a1 m1 k1 a3 m3 k3 b8 gn i1 i3 h8 l8
       refine AllReadyH.cons rfl (fun K hK => ?_) ?_
       ·go_simp
        have l6 := g.size
        have d6_8 : v.heap.size ≠ b8 := fun e => by have h9 := (Array.getElem?_eq_some_iff.1 h8).1; omega
        have h6 := heap_alloc_new v (.cells #[.slice none 0 0] 23)
        have gs := jab v (.cells #[.slice none 0 0] 23)
        generalize hvn : v.alloc (.cells #[.slice none 0 0] 23) = u at h6 gs ⊢
        clear hvn
        generalize v.heap.size = b6 at h6 l6 d6_8 ⊢
        have gn := jaa g gs
        refine hK.out _ _ gn (fun hHeld => ?_)
        clear hK K
        try simp only [Act.put]
        have i1 := i1.more gs
        have h8 := jad h8 gs
        clear g gs hHeld
        refine cast ?_ (N1_6_8 u a1 m1 k1 b6 b8 gn i1 h6 l6 h8 l8 d6_8)
        kernel_rfl
       refine AllReadyH.cons rfl (fun K hK => ?_) ?_
       ·go_simp
        have l7 := g.size
        have d7_8 : v.heap.size ≠ b8 := fun e => by have h9 := (Array.getElem?_eq_some_iff.1 h8).1; omega
        have h7 := heap_alloc_new v (.cells #[.slice none 0 0] 23)
        have gs := jab v (.cells #[.slice none 0 0] 23)
        generalize hvn : v.alloc (.cells #[.slice none 0 0] 23) = u at h7 gs ⊢
        clear hvn
        generalize v.heap.size = b7 at h7 l7 d7_8 ⊢
        have gn := jaa g gs
        refine hK.out _ _ gn (fun hHeld => ?_)
        clear hK K
        try simp only [Act.put]
        have i1 := i1.more gs
        have h8 := jad h8 gs
        clear g gs hHeld
        refine cast ?_ (N1_7_8 u a1 m1 k1 b7 b8 gn i1 h7 l7 h8 l8 d7_8)
        kernel_rfl
       exact AllReadyH.nil
      ·intro v a1 m1 k1 b7 g i1 h7 l7
       refine wpAnyH_ready (rs := [3, 6, 8]) (by kernel_rfl) (by simp) ?_
       refine AllReadyH.cons rfl (fun K hK => ?_) ?_
       ·go_simp
        refine (S2.out v g).mono ?_
        rintro e u ⟨⟨a3, m3, k3⟩, rfl, i3, gs⟩
        simp only [Sl.v] at i3 ⊢
        have gn := jaa g gs
        refine hK.out _ _ gn (fun hHeld => ?_)
        clear hK K
        try simp only [Act.put]
        have i1 := i1.more gs
        have h7 := jad h7 gs
        clear g gs hHeld
        exact N1_3_7 u a1 m1 k1 a3 m3 k3 b7 gn i1 i3 h7 l7
       refine AllReadyH.cons rfl (fun K hK => ?_) ?_
       ·go_simp
        have l6 := g.size
        have d6_7 : v.heap.size ≠ b7 := fun e => by have h9 := (Array.getElem?_eq_some_iff.1 h7).1; omega
        have h6 := heap_alloc_new v (.cells #[.slice none 0 0] 23)
        have gs := jab v (.cells #[.slice none 0 0] 23)
        generalize hvn : v.alloc (.cells #[.slice none 0 0] 23) = u at h6 gs ⊢
        clear hvn
        generalize v.heap.size = b6 at h6 l6 d6_7 ⊢
        have gn := jaa g gs
        refine hK.out _ _ gn (fun hHeld => ?_)
        clear hK K
        try simp only [Act.put]
        have i1 := i1.more gs
        have h7 := jad h7 gs
        clear g gs hHeld
        refine cast ?_ (N1_6_7 u a1 m1 k1 b6 b7 gn i1 h6 l6 h7 l7 d6_7)
        kernel_rfl
       refine AllReadyH.cons rfl (fun K hK => ?_) ?_
       ·go_simp
        have l8 := g.size
        have d7_8 : b7 ≠ v.heap.size := fun e => by have h9 := (Array.getElem?_eq_some_iff.1 h7).1; omega
        have h8 := heap_alloc_new v (.cells #[.slice none 0 0] 23)
        have gs := jab v (.cells #[.slice none 0 0] 23)
        generalize hvn : v.alloc (.cells #[.slice none 0 0] 23) = u at h8 gs ⊢
        clear hvn
        generalize v.heap.size = b8 at h8 l8 d7_8 ⊢
        have gn := jaa g gs
        refine hK.out _ _ gn (fun hHeld => ?_)
        clear hK K
        try simp only [Act.put]
        have i1 := i1.more gs
        have h7 := jad h7 gs
        clear g gs hHeld
        refine cast ?_ (N1_7_8 u a1 m1 k1 b7 b8 gn i1 h7 l7 h8 l8 d7_8)
        kernel_rfl
       exact AllReadyH.nil
      ·intro v a1 m1 k1 b6 g i1 h6 l6
       refine wpAnyH_ready (rs := [3, 7, 8]) (by kernel_rfl) (by simp) ?_
       refine AllReadyH.cons rfl (fun K hK => ?_) ?_
       ·go_simp
        refine (S2.out v g).mono ?_
        rintro e u ⟨⟨a3, m3, k3⟩, rfl, i3, gs⟩
        simp only [Sl.v] at i3 ⊢
        have gn := jaa g gs
        refine hK.out _ _ gn (fun hHeld => ?_)
        clear hK K
        try simp only [Act.put]
        have i1 := i1.more gs
        have h6 := jad h6 gs
        clear g gs hHeld
        exact N1_3_6 u a1 m1 k1 a3 m3 k3 b6 gn i1 i3 h6 l6
       refine AllReadyH.cons rfl (fun K hK => ?_) ?_
       ·go_simp
        have l7 := g.size
        have d6_7 : b6 ≠ v.heap.size := fun e => by have h9 := (Array.getElem?_eq_some_iff.1 h6).1; omega
        have h7 := heap_alloc_new v (.cells #[.slice none 0 0] 23)
        have gs := jab v (.cells #[.slice none 0 0] 23)
        generalize hvn : v.alloc (.cells #[.slice none 0 0] 23) = u at h7 gs ⊢
        clear hvn
        generalize v.heap.size = b7 at h7 l7 d6_7 ⊢
        have gn := jaa g gs
        refine hK.out _ _ gn (fun hHeld => ?_)
        clear hK K
        try simp only [Act.put]
        have i1 := i1.more gs
        have h6 := jad h6 gs
        clear g gs hHeld
        refine cast ?_ (N1_6_7 u a1 m1 k1 b6 b7 gn i1 h6 l6 h7 l7 d6_7)
        kernel_rfl
       refine AllReadyH.cons rfl (fun K hK => ?_) ?_
       ·go_simp
        have l8 := g.size
        have d6_8 : b6 ≠ v.heap.size := fun e => by have h9 := (Array.getElem?_eq_some_iff.1 h6).1; omega
        have h8 := heap_alloc_new v (.cells #[.slice none 0 0] 23)
        have gs := jab v (.cells #[.slice none 0 0] 23)
        generalize hvn : v.alloc (.cells #[.slice none 0 0] 23) = u at h8 gs ⊢
        clear hvn
        generalize v.heap.size = b8 at h8 l8 d6_8 ⊢
        have gn := jaa g gs
        refine hK.out _ _ gn (fun hHeld => ?_)
        clear hK K
        try simp only [Act.put]
        have i1 := i1.more gs
        have h6 := jad h6 gs
        clear g gs hHeld
        refine cast ?_ (N1_6_8 u a1 m1 k1 b6 b8 gn i1 h6 l6 h8 l8 d6_8)
        kernel_rfl
       exact AllReadyH.nil
      ·intro v a1 m1 k1 a3 m3 k3 g i1 i3
       refine wpAnyH_ready (rs := [5, 6, 7, 8]) (by kernel_rfl) (by simp) ?_
       refine AllReadyH.cons rfl (fun K hK => ?_) ?_
       ·go_simp
        refine (S3.out v g).mono ?_
        rintro e u ⟨⟨a5, m5, k5⟩, rfl, i5, gs⟩
        simp only [Sl.v] at i5 ⊢
        have gn := jaa g gs
        refine hK.out _ _ gn (fun hHeld => ?_)
        clear hK K
        try simp only [Act.put]
        have i1 := i1.more gs
        have i3 := i3.more gs
        clear g gs hHeld
        exact N1_3_5 u a1 m1 k1 a3 m3 k3 a5 m5 k5 gn i1 i3 i5
       refine AllReadyH.cons rfl (fun K hK => ?_) ?_
       ·go_simp
        have l6 := g.size
        have h6 := heap_alloc_new v (.cells #[.slice none 0 0] 23)
        have gs := jab v (.cells #[.slice none 0 0] 23)
        generalize hvn : v.alloc (.cells #[.slice none 0 0] 23) = u at h6 gs ⊢
        clear hvn
        generalize v.heap.size = b6 at h6 l6  ⊢
        have gn := jaa g gs
        refine hK.out _ _ gn (fun hHeld => ?_)
        clear hK K
        try simp only [Act.put]
        have i1 := i1.more gs
        have i3 := i3.more gs
        clear g gs hHeld
        refine cast ?_ (N1_3_6 u a1 m1 k1 a3 m3 k3 b6 gn i1 i3 h6 l6)
        kernel_rfl
       refine AllReadyH.cons rfl (fun K hK => ?_) ?_
       ·go_simp
        have l7 := g.size
        have h7 := heap_alloc_new v (.cells #[.slice none 0 0] 23)
        have gs := jab v (.cells #[.slice none 0 0] 23)
        generalize hvn : v.alloc (.cells #[.slice none 0 0] 23) = u at h7 gs ⊢
        clear hvn
        generalize v.heap.size = b7 at h7 l7  ⊢
        have gn := jaa g gs
        refine hK.out _ _ gn (fun hHeld => ?_)
        clear hK K
        try simp only [Act.put]
        have i1 := i1.more gs
        have i3 := i3.more gs
        clear g gs hHeld
        refine cast ?_ (N1_3_7 u a1 m1 k1 a3 m3 k3 b7 gn i1 i3 h7 l7)
        kernel_rfl
       refine AllReadyH.cons rfl (fun K hK => ?_) ?_
       ·go_simp
        have l8 := g.size
        have h8 := heap_alloc_new v (.cells #[.slice none 0 0] 23)
        have gs := jab v (.cells #[.slice none 0 0] 23)
        generalize hvn : v.alloc (.cells #[.slice none 0 0] 23) = u at h8 gs ⊢
        clear hvn
        generalize v.heap.size = b8 at h8 l8  ⊢
        have gn := jaa g gs
        refine hK.out _ _ gn (fun hHeld => ?_)
        clear hK K
        try simp only [Act.put]
        have i1 := i1.more gs
        have i3 := i3.more gs
        clear g gs hHeld
        refine cast ?_ (N1_3_8 u a1 m1 k1 a3 m3 k3 b8 gn i1 i3 h8 l8)
        kernel_rfl
       exact AllReadyH.nil
      ·intro v b6 b7 b8 g h6 l6 h7 l7 h8 l8 d6_7 d6_8 d7_8
       refine wpAnyH_ready (rs := [1]) (by kernel_rfl) (by simp) ?_
       refine AllReadyH.cons rfl (fun K hK => ?_) ?_
       ·go_simp
        refine (S1.out v g).mono ?_
        rintro e u ⟨⟨a1, m1, k1⟩, rfl, i1, gs⟩
        simp only [Sl.v] at i1 ⊢
        have gn := jaa g gs
        refine hK.out _ _ gn (fun hHeld => ?_)
        clear hK K
        try simp only [Act.put]
        have h6 := jad h6 gs
        have h7 := jad h7 gs
        have h8 := jad h8 gs
        clear g gs hHeld
        exact N1_6_7_8 u a1 m1 k1 b6 b7 b8 gn i1 h6 l6 h7 l7 h8 l8 d6_7 d6_8 d7_8
       exact AllReadyH.nil
      ·intro v a1 m1 k1 b7 b8 g i1 h7 l7 h8 l8 d7_8
       refine wpAnyH_ready (rs := [3, 6]) (by kernel_rfl) (by simp) ?_
       refine AllReadyH.cons rfl (fun K hK => ?_) ?_
       ·go_simp
        refine (S2.out v g).mono ?_
        rintro e u ⟨⟨a3, m3, k3⟩, rfl, i3, gs⟩
        simp only [Sl.v] at i3 ⊢
        have gn := jaa g gs
        refine hK.out _ _ gn (fun hHeld => ?_)
        clear hK K
        try simp only [Act.put]
        have i1 := i1.more gs
        have h7 := jad h7 gs
        have h8 := jad h8 gs
        clear g gs hHeld
        exact N1_3_7_8 u a1 m1 k1 a3 m3 k3 b7 b8 gn i1 i3 h7 l7 h8 l8 d7_8
       refine AllReadyH.cons rfl (fun K hK => ?_) ?_
       ·go_simp
        have l6 := g.size
        have d6_7 : v.heap.size ≠ b7 := fun e => by have h9 := (Array.getElem?_eq_some_iff.1 h7).1; omega
        have d6_8 : v.heap.size ≠ b8 := fun e => by have h9 := (Array.getElem?_eq_some_iff.1 h8).1; omega
        have h6 := heap_alloc_new v (.cells #[.slice none 0 0] 23)
        have gs := jab v (.cells #[.slice none 0 0] 23)
        generalize hvn : v.alloc (.cells #[.slice none 0 0] 23) = u at h6 gs ⊢
        clear hvn
        generalize v.heap.size = b6 at h6 l6 d6_7 d6_8 ⊢
        have gn := jaa g gs
        refine hK.out _ _ gn (fun hHeld => ?_)
        clear hK K
        try simp only [Act.put]
        have i1 := i1.more gs
        have h7 := jad h7 gs
        have h8 := jad h8 gs
        clear g gs hHeld
        refine cast ?_ (N1_6_7_8 u a1 m1 k1 b6 b7 b8 gn i1 h6 l6 h7 l7 h8 l8 d6_7 d6_8 d7_8)
        kernel_rfl
       exact AllReadyH.nil
      ·intro v a1 m1 k1 b6 b8 g i1 h6 l6 h8 l8 d6_8
       refine wpAnyH_ready (rs := [3, 7]) (by kernel_rfl) (by simp) ?_
       refine AllReadyH.cons rfl (fun K hK => ?_) ?_
       ·go_simp
        refine (S2.out v g).mono ?_
        rintro e u ⟨⟨a3, m3, k3⟩, rfl, i3, gs⟩
        simp only [Sl.v] at i3 ⊢
        have gn := jaa g gs
        refine hK.out _ _ gn (fun hHeld => ?_)
        clear hK K
        try simp only [Act.put]
        have i1 := i1.more gs
        have h6 := jad h6 gs
        have h8 := jad h8 gs
        clear g gs hHeld
        exact N1_3_6_8 u a1 m1 k1 a3 m3 k3 b6 b8 gn i1 i3 h6 l6 h8 l8 d6_8
       refine AllReadyH.cons rfl (fun K hK => ?_) ?_
       ·go_simp
        have l7 := g.size
        have d6_7 : b6 ≠ v.heap.size := fun e => by have h9 := (Array.getElem?_eq_some_iff.1 h6).1; omega
        have d7_8 : v.heap.size ≠ b8 := fun e => by have h9 := (Array.getElem?_eq_some_iff.1 h8).1; omega
        have h7 := heap_alloc_new v (.cells #[.slice none 0 0] 23)
        have gs := jab v (.cells #[.slice none 0 0] 23)
        generalize hvn : v.alloc (.cells #[.slice none 0 0] 23) = u at h7 gs ⊢
        clear hvn
        generalize v.heap.size = b7 at h7 l7 d6_7 d7_8 ⊢
        have gn := jaa g gs
        refine hK.out _ _ gn (fun hHeld => ?_)
        clear hK K
        try simp only [Act.put]
        have i1 := i1.more gs
        have h6 := jad h6 gs
        have h8 := jad h8 gs
        clear g gs hHeld
        refine cast ?_ (N1_6_7_8 u a1 m1 k1 b6 b7 b8 gn i1 h6 l6 h7 l7 h8 l8 d6_7 d6_8 d7_8)
        kernel_rfl
       exact AllReadyH.nil
      ·intro v a1 m1 k1 b6 b7 g i1 h6 l6 h7 l7 d6_7
       refine wpAnyH_ready (rs := [3, 8]) (by kernel_rfl) (by simp) ?_
       refine AllReadyH.cons rfl (fun K hK => ?_) ?_
       ·go_simp
        refine (S2.out v g).mono ?_
        rintro e u ⟨⟨a3, m3, k3⟩, rfl, i3, gs⟩
        simp only [Sl.v] at i3 ⊢
        have gn := jaa g gs
        refine hK.out _ _ gn (fun hHeld => ?_)
        clear hK K
        try simp only [Act.put]
        have i1 := i1.more gs
        have h6 := jad h6 gs
        have h7 := jad h7 gs
        clear g gs hHeld
        exact N1_3_6_7 u a1 m1 k1 a3 m3 k3 b6 b7 gn i1 i3 h6 l6 h7 l7 d6_7
       refine AllReadyH.cons rfl (fun K hK => ?_) ?_
       ·go_simp
        have l8 := g.size
        have d6_8 : b6 ≠ v.heap.size := fun e => by have h9 := (Array.getElem?_eq_some_iff.1 h6).1; omega
        have d7_8 : b7 ≠ v.heap.size := fun e => by have h9 := (Array.getElem?_eq_some_iff.1 h7).1; omega
        have h8 := heap_alloc_new v (.cells #[.slice none 0 0] 23)
        have gs := jab v (.cells #[.slice none 0 0] 23)
        generalize hvn : v.alloc (.cells #[.slice none 0 0] 23) = u at h8 gs ⊢
        clear hvn
        generalize v.heap.size = b8 at h8 l8 d6_8 d7_8 ⊢
        have gn := jaa g gs
        refine hK.out _ _ gn (fun hHeld => ?_)
        clear hK K
        try simp only [Act.put]
        have i1 := i1.more gs
        have h6 := jad h6 gs
        have h7 := jad h7 gs
        clear g gs hHeld
        refine cast ?_ (N1_6_7_8 u a1 m1 k1 b6 b7 b8 gn i1 h6 l6 h7 l7 h8 l8 d6_7 d6_8 d7_8)
        kernel_rfl
       exact AllReadyH.nil
      ·intro v a1 m1 k1 a3 m3 k3 b8 g i1 i3 h8 l8
       refine wpAnyH_ready (rs := [5, 6, 7]) (by kernel_rfl) (by simp) ?_
       refine AllReadyH.cons rfl (fun K hK => ?_) ?_
       ·go_simp
        refine (S3.out v g).mono ?_
        rintro e u ⟨⟨a5, m5, k5⟩, rfl, i5, gs⟩
        simp only [Sl.v] at i5 ⊢
        have gn := jaa g gs
        refine hK.out _ _ gn (fun hHeld => ?_)
        clear hK K
        try simp only [Act.put]
        have i1 := i1.more gs
        have i3 := i3.more gs
        have h8 := jad h8 gs
        clear g gs hHeld
        exact N1_3_5_8 u a1 m1 k1 a3 m3 k3 a5 m5 k5 b8 gn i1 i3 i5 h8 l8
       refine AllReadyH.cons rfl (fun K hK => ?_) ?_
       ·go_simp
        have l6 := g.size
        have d6_8 : v.heap.size ≠ b8 := fun e => by have h9 := (Array.getElem?_eq_some_iff.1 h8).1; omega
        have h6 := heap_alloc_new v (.cells #[.slice none 0 0] 23)
        have gs := jab v (.cells #[.slice none 0 0] 23)
        generalize hvn : v.alloc (.cells #[.slice none 0 0] 23) = u at h6 gs ⊢
        clear hvn
        generalize v.heap.size = b6 at h6 l6 d6_8 ⊢
        have gn := jaa g gs
        refine hK.out _ _ gn (fun hHeld => ?_)
        clear hK K
        try simp only [Act.put]
        have i1 := i1.more gs
        have i3 := i3.more gs
        have h8 := jad h8 gs
        clear g gs hHeld
        refine cast ?_ (N1_3_6_8 u a1 m1 k1 a3 m3 k3 b6 b8 gn i1 i3 h6 l6 h8 l8 d6_8)
        kernel_rfl
       refine AllReadyH.cons rfl (fun K hK => ?_) ?_
       ·go_simp
        have l7 := g.size
        have d7_8 : v.heap.size ≠ b8 := fun e => by have h9 := (Array.getElem?_eq_some_iff.1 h8).1; omega
        have h7 := heap_alloc_new v (.cells #[.slice none 0 0] 23)
        have gs := jab v (.cells #[.slice none 0 0] 23)
        generalize hvn : v.alloc (.cells #[.slice none 0 0] 23) = u at h7 gs ⊢
        clear hvn
        generalize v.heap.size = b7 at h7 l7 d7_8 ⊢
        have gn := jaa g gs
        refine hK.out _ _ gn (fun hHeld => ?_)
        clear hK K
        try simp only [Act.put]
        have i1 := i1.more gs
        have i3 := i3.more gs
        have h8 := jad h8 gs
        clear g gs hHeld
        refine cast ?_ (N1_3_7_8 u a1 m1 k1 a3 m3 k3 b7 b8 gn i1 i3 h7 l7 h8 l8 d7_8)
        kernel_rfl
       exact AllReadyH.nil
      ·intro v a1 m1 k1 a3 m3 k3 b7 g i1 i3 h7 l7
       refine wpAnyH_ready (rs := [5, 6, 8]) (by kernel_rfl) (by simp) ?_
       refine AllReadyH.cons rfl (fun K hK => ?_) ?_
       ·go_simp
        refine (S3.out v g).mono ?_
        rintro e u ⟨⟨a5, m5, k5⟩, rfl, i5, gs⟩
        simp only [Sl.v] at i5 ⊢
        have gn := jaa g gs
        refine hK.out _ _ gn (fun hHeld => ?_)
        clear hK K
        try simp only [Act.put]
        have i1 := i1.more gs
        have i3 := i3.more gs
        have h7 := jad h7 gs
        clear g gs hHeld
        exact N1_3_5_7 u a1 m1 k1 a3 m3 k3 a5 m5 k5 b7 gn i1 i3 i5 h7 l7
       refine AllReadyH.cons rfl (fun K hK => ?_) ?_
       ·go_simp
        have l6 := g.size
        have d6_7 : v.heap.size ≠ b7 := fun e => by have h9 := (Array.getElem?_eq_some_iff.1 h7).1; omega
        have h6 := heap_alloc_new v (.cells #[.slice none 0 0] 23)
        have gs := jab v (.cells #[.slice none 0 0] 23)
        generalize hvn : v.alloc (.cells #[.slice none 0 0] 23) = u at h6 gs ⊢
        clear hvn
        generalize v.heap.size = b6 at h6 l6 d6_7 ⊢
        have gn := jaa g gs
        refine hK.out _ _ gn (fun hHeld => ?_)
        clear hK K
        try simp only [Act.put]
        have i1 := i1.more gs
        have i3 := i3.more gs
        have h7 := jad h7 gs
        clear g gs hHeld
        refine cast ?_ (N1_3_6_7 u a1 m1 k1 a3 m3 k3 b6 b7 gn i1 i3 h6 l6 h7 l7 d6_7)
        kernel_rfl
       refine AllReadyH.cons rfl (fun K hK => ?_) ?_
       ·go_simp
        have l8 := g.size
        have d7_8 : b7 ≠ v.heap.size := fun e => by have h9 := (Array.getElem?_eq_some_iff.1 h7).1; omega
        have h8 := heap_alloc_new v (.cells #[.slice none 0 0] 23)
        have gs := jab v (.cells #[.slice none 0 0] 23)
        generalize hvn : v.alloc (.cells #[.slice none 0 0] 23) = u at h8 gs ⊢
        clear hvn
        generalize v.heap.size = b8 at h8 l8 d7_8 ⊢
        have gn := jaa g gs
        refine hK.out _ _ gn (fun hHeld => ?_)
        clear hK K
        try simp only [Act.put]
        have i1 := i1.more gs
        have i3 := i3.more gs
        have h7 := jad h7 gs
        clear g gs hHeld
        refine cast ?_ (N1_3_7_8 u a1 m1 k1 a3 m3 k3 b7 b8 gn i1 i3 h7 l7 h8 l8 d7_8)
        kernel_rfl
       exact AllReadyH.nil
      ·intro v a1 m1 k1 a3 m3 k3 b6 g i1 i3 h6 l6
       refine wpAnyH_ready (rs := [5, 7, 8]) (by kernel_rfl) (by simp) ?_
       refine AllReadyH.cons rfl (fun K hK => ?_) ?_
       ·go_simp
        refine (S3.out v g).mono ?_
        rintro e u ⟨⟨a5, m5, k5⟩, rfl, i5, gs⟩
        simp only [Sl.v] at i5 ⊢
        have gn := jaa g gs
        refine hK.out _ _ gn (fun hHeld => ?_)
        clear hK K
        try simp only [Act.put]
        have i1 := i1.more gs
        have i3 := i3.more gs
        have h6 := jad h6 gs
        clear g gs hHeld
        exact N1_3_5_6 u a1 m1 k1 a3 m3 k3 a5 m5 k5 b6 gn i1 i3 i5 h6 l6
       refine AllReadyH.cons rfl (fun K hK => ?_) ?_
       ·go_simp
        have l7 := g.size
        have d6_7 : b6 ≠ v.heap.size := fun e => by have h9 := (Array.getElem?_eq_some_iff.1 h6).1; omega
        have h7 := heap_alloc_new v (.cells #[.slice none 0 0] 23)
        have gs := jab v (.cells #[.slice none 0 0] 23)
        generalize hvn : v.alloc (.cells #[.slice none 0 0] 23) = u at h7 gs ⊢
        clear hvn
        generalize v.heap.size = b7 at h7 l7 d6_7 ⊢
        have gn := jaa g gs
        refine hK.out _ _ gn (fun hHeld => ?_)
        clear hK K
        try simp only [Act.put]
        have i1 := i1.more gs
        have i3 := i3.more gs
        have h6 := jad h6 gs
        clear g gs hHeld
        refine cast ?_ (N1_3_6_7 u a1 m1 k1 a3 m3 k3 b6 b7 gn i1 i3 h6 l6 h7 l7 d6_7)
        kernel_rfl
       refine AllReadyH.cons rfl (fun K hK => ?_) ?_
       ·go_simp
        have l8 := g.size
        have d6_8 : b6 ≠ v.heap.size := fun e => by have h9 := (Array.getElem?_eq_some_iff.1 h6).1; omega
        have h8 := heap_alloc_new v (.cells #[.slice none 0 0] 23)
        have gs := jab v (.cells #[.slice none 0 0] 23)
        generalize hvn : v.alloc (.cells #[.slice none 0 0] 23) = u at h8 gs ⊢
        clear hvn
        generalize v.heap.size = b8 at h8 l8 d6_8 ⊢
        have gn := jaa g gs
        refine hK.out _ _ gn (fun hHeld => ?_)
        clear hK K
        try simp only [Act.put]
        have i1 := i1.more gs
        have i3 := i3.more gs
        have h6 := jad h6 gs
        clear g gs hHeld
        refine cast ?_ (N1_3_6_8 u a1 m1 k1 a3 m3 k3 b6 b8 gn i1 i3 h6 l6 h8 l8 d6_8)
        kernel_rfl
       exact AllReadyH.nil
      ·intro v a1 m1 k1 a3 m3 k3 a5 m5 k5 g i1 i3 i5
       refine wpAnyH_ready (rs := [6, 7, 8]) (by kernel_rfl) (by simp) ?_
       refine AllReadyH.cons rfl (fun K hK => ?_) ?_
       ·go_simp
        have l6 := g.size
        have h6 := heap_alloc_new v (.cells #[.slice none 0 0] 23)
        have gs := jab v (.cells #[.slice none 0 0] 23)
        generalize hvn : v.alloc (.cells #[.slice none 0 0] 23) = u at h6 gs ⊢
        clear hvn
        generalize v.heap.size = b6 at h6 l6  ⊢
        have gn := jaa g gs
        refine hK.out _ _ gn (fun hHeld => ?_)
        clear hK K
        try simp only [Act.put]
        have i1 := i1.more gs
        have i3 := i3.more gs
        have i5 := i5.more gs
        clear g gs hHeld
        refine cast ?_ (N1_3_5_6 u a1 m1 k1 a3 m3 k3 a5 m5 k5 b6 gn i1 i3 i5 h6 l6)
        kernel_rfl
       refine AllReadyH.cons rfl (fun K hK => ?_) ?_
       ·go_simp
        have l7 := g.size
        have h7 := heap_alloc_new v (.cells #[.slice none 0 0] 23)
        have gs := jab v (.cells #[.slice none 0 0] 23)
        generalize hvn : v.alloc (.cells #[.slice none 0 0] 23) = u at h7 gs ⊢
        clear hvn
        generalize v.heap.size = b7 at h7 l7  ⊢
        have gn := jaa g gs
        refine hK.out _ _ gn (fun hHeld => ?_)
        clear hK K
        try simp only [Act.put]
        have i1 := i1.more gs
        have i3 := i3.more gs
        have i5 := i5.more gs
        clear g gs hHeld
        refine cast ?_ (N1_3_5_7 u a1 m1 k1 a3 m3 k3 a5 m5 k5 b7 gn i1 i3 i5 h7 l7)
        kernel_rfl
       refine AllReadyH.cons rfl (fun K hK => ?_) ?_
       ·go_simp
        have l8 := g.size
        have h8 := heap_alloc_new v (.cells #[.slice none 0 0] 23)
        have gs := jab v (.cells #[.slice none 0 0] 23)
        generalize hvn : v.alloc (.cells #[.slice none 0 0] 23) = u at h8 gs ⊢
        clear hvn
        generalize v.heap.size = b8 at h8 l8  ⊢
        have gn := jaa g gs
        refine hK.out _ _ gn (fun hHeld => ?_)
        clear hK K
        try simp only [Act.put]
        have i1 := i1.more gs
        have i3 := i3.more gs
        have i5 := i5.more gs
        clear g gs hHeld
        refine cast ?_ (N1_3_5_8 u a1 m1 k1 a3 m3 k3 a5 m5 k5 b8 gn i1 i3 i5 h8 l8)
        kernel_rfl
       exact AllReadyH.nil
      ·intro v a1 m1 k1 b6 b7 b8 g i1 h6 l6 h7 l7 h8 l8 d6_7 d6_8 d7_8
       refine wpAnyH_ready (rs := [3]) (by kernel_rfl) (by simp) ?_
       refine AllReadyH.cons rfl (fun K hK => ?_) ?_
       ·go_simp
        refine (S2.out v g).mono ?_
        rintro e u ⟨⟨a3, m3, k3⟩, rfl, i3, gs⟩
        simp only [Sl.v] at i3 ⊢
        have gn := jaa g gs
        refine hK.out _ _ gn (fun hHeld => ?_)
        clear hK K
        try simp only [Act.put]
        have i1 := i1.more gs
        have h6 := jad h6 gs
        have h7 := jad h7 gs
        have h8 := jad h8 gs
        clear g gs hHeld
        exact N1_3_6_7_8 u a1 m1 k1 a3 m3 k3 b6 b7 b8 gn i1 i3 h6 l6 h7 l7 h8 l8 d6_7 d6_8 d7_8
       exact AllReadyH.nil
      ·intro v a1 m1 k1 a3 m3 k3 b7 b8 g i1 i3 h7 l7 h8 l8 d7_8
       refine wpAnyH_ready (rs := [5, 6]) (by kernel_rfl) (by simp) ?_
       refine AllReadyH.cons rfl (fun K hK => ?_) ?_
       ·go_simp
        refine (S3.out v g).mono ?_
        rintro e u ⟨⟨a5, m5, k5⟩, rfl, i5, gs⟩
        simp only [Sl.v] at i5 ⊢
        have gn := jaa g gs
        refine hK.out _ _ gn (fun hHeld => ?_)
        clear hK K
        try simp only [Act.put]
        have i1 := i1.more gs
        have i3 := i3.more gs
        have h7 := jad h7 gs
        have h8 := jad h8 gs
        clear g gs hHeld
        exact N1_3_5_7_8 u a1 m1 k1 a3 m3 k3 a5 m5 k5 b7 b8 gn i1 i3 i5 h7 l7 h8 l8 d7_8
       refine AllReadyH.cons rfl (fun K hK => ?_) ?_
       ·go_simp
        have l6 := g.size
        have d6_7 : v.heap.size ≠ b7 := fun e => by have h9 := (Array.getElem?_eq_some_iff.1 h7).1; omega
        have d6_8 : v.heap.size ≠ b8 := fun e => by have h9 := (Array.getElem?_eq_some_iff.1 h8).1; omega
        have h6 := heap_alloc_new v (.cells #[.slice none 0 0] 23)
        have gs := jab v (.cells #[.slice none 0 0] 23)
        generalize hvn : v.alloc (.cells #[.slice none 0 0] 23) = u at h6 gs ⊢
        clear hvn
        generalize v.heap.size = b6 at h6 l6 d6_7 d6_8 ⊢
        have gn := jaa g gs
        refine hK.out _ _ gn (fun hHeld => ?_)
        clear hK K
        try simp only [Act.put]
        have i1 := i1.more gs
        have i3 := i3.more gs
        have h7 := jad h7 gs
        have h8 := jad h8 gs
        clear g gs hHeld
        refine cast ?_ (N1_3_6_7_8 u a1 m1 k1 a3 m3 k3 b6 b7 b8 gn i1 i3 h6 l6 h7 l7 h8 l8 d6_7 d6_8 d7_8)
        kernel_rfl
       exact AllReadyH.nil
      ·intro v a1 m1 k1 a3 m3 k3 b6 b8 g i1 i3 h6 l6 h8 l8 d6_8
       refine wpAnyH_ready (rs := [5, 7]) (by kernel_rfl) (by simp) ?_
       refine AllReadyH.cons rfl (fun K hK => ?_) ?_
       ·go_simp
        refine (S3.out v g).mono ?_
        rintro e u ⟨⟨a5, m5, k5⟩, rfl, i5, gs⟩
        simp only [Sl.v] at i5 ⊢
        have gn := jaa g gs
        refine hK.out _ _ gn (fun hHeld => ?_)
        clear hK K
        try simp only [Act.put]
        have i1 := i1.more gs
        have i3 := i3.more gs
        have h6 := jad h6 gs
        have h8 := jad h8 gs
        clear g gs hHeld
        exact N1_3_5_6_8 u a1 m1 k1 a3 m3 k3 a5 m5 k5 b6 b8 gn i1 i3 i5 h6 l6 h8 l8 d6_8
       refine AllReadyH.cons rfl (fun K hK => ?_) ?_
       ·go_simp
        have l7 := g.size
        have d6_7 : b6 ≠ v.heap.size := fun e => by have h9 := (Array.getElem?_eq_some_iff.1 h6).1; omega
        have d7_8 : v.heap.size ≠ b8 := fun e => by have h9 := (Array.getElem?_eq_some_iff.1 h8).1; omega
        have h7 := heap_alloc_new v (.cells #[.slice none 0 0] 23)
        have gs := jab v (.cells #[.slice none 0 0] 23)
        generalize hvn : v.alloc (.cells #[.slice none 0 0] 23) = u at h7 gs ⊢
        clear hvn
        generalize v.heap.size = b7 at h7 l7 d6_7 d7_8 ⊢
        have gn := jaa g gs
        refine hK.out _ _ gn (fun hHeld => ?_)
        clear hK K
        try simp only [Act.put]
        have i1 := i1.more gs
        have i3 := i3.more gs
        have h6 := jad h6 gs
        have h8 := jad h8 gs
        clear g gs hHeld
        refine cast ?_ (N1_3_6_7_8 u a1 m1 k1 a3 m3 k3 b6 b7 b8 gn i1 i3 h6 l6 h7 l7 h8 l8 d6_7 d6_8 d7_8)
        kernel_rfl
       exact AllReadyH.nil
      ·intro v a1 m1 k1 a3 m3 k3 b6 b7 g i1 i3 h6 l6 h7 l7 d6_7
       refine wpAnyH_ready (rs := [5, 8]) (by kernel_rfl) (by simp) ?_
       refine AllReadyH.cons rfl (fun K hK => ?_) ?_
       ·go_simp
        refine (S3.out v g).mono ?_
        rintro e u ⟨⟨a5, m5, k5⟩, rfl, i5, gs⟩
        simp only [Sl.v] at i5 ⊢
        have gn := jaa g gs
        refine hK.out _ _ gn (fun hHeld => ?_)
        clear hK K
        try simp only [Act.put]
        have i1 := i1.more gs
        have i3 := i3.more gs
        have h6 := jad h6 gs
        have h7 := jad h7 gs
        clear g gs hHeld
        exact N1_3_5_6_7 u a1 m1 k1 a3 m3 k3 a5 m5 k5 b6 b7 gn i1 i3 i5 h6 l6 h7 l7 d6_7
       refine AllReadyH.cons rfl (fun K hK => ?_) ?_
       ·go_simp
        have l8 := g.size
        have d6_8 : b6 ≠ v.heap.size := fun e => by have h9 := (Array.getElem?_eq_some_iff.1 h6).1; omega
        have d7_8 : b7 ≠ v.heap.size := fun e => by have h9 := (Array.getElem?_eq_some_iff.1 h7).1; omega
        have h8 := heap_alloc_new v (.cells #[.slice none 0 0] 23)
        have gs := jab v (.cells #[.slice none 0 0] 23)
        generalize hvn : v.alloc (.cells #[.slice none 0 0] 23) = u at h8 gs ⊢
        clear hvn
        generalize v.heap.size = b8 at h8 l8 d6_8 d7_8 ⊢
        have gn := jaa g gs
        refine hK.out _ _ gn (fun hHeld => ?_)
        clear hK K
        try simp only [Act.put]
        have i1 := i1.more gs
        have i3 := i3.more gs
        have h6 := jad h6 gs
        have h7 := jad h7 gs
        clear g gs hHeld
        refine cast ?_ (N1_3_6_7_8 u a1 m1 k1 a3 m3 k3 b6 b7 b8 gn i1 i3 h6 l6 h7 l7 h8 l8 d6_7 d6_8 d7_8)
        kernel_rfl
       exact AllReadyH.nil
      ·intro v a1 m1 k1 a3 m3 k3 a5 m5 k5 b8 g i1 i3 i5 h8 l8
       refine wpAnyH_ready (rs := [6, 7]) (by kernel_rfl) (by simp) ?_
       refine AllReadyH.cons rfl (fun K hK => ?_) ?_
       ·go_simp
        have l6 := g.size
        have d6_8 : v.heap.size ≠ b8 := fun e => by have h9 := (Array.getElem?_eq_some_iff.1 h8).1; omega
        have h6 := heap_alloc_new v (.cells #[.slice none 0 0] 23)
        have gs := jab v (.cells #[.slice none 0 0] 23)
        generalize hvn : v.alloc (.cells #[.slice none 0 0] 23) = u at h6 gs ⊢
        clear hvn
        generalize v.heap.size = b6 at h6 l6 d6_8 ⊢
        have gn := jaa g gs
        refine hK.out _ _ gn (fun hHeld => ?_)
        clear hK K
        try simp only [Act.put]
        have i1 := i1.more gs
        have i3 := i3.more gs
        have i5 := i5.more gs
        have h8 := jad h8 gs
        clear g gs hHeld
        refine cast ?_ (N1_3_5_6_8 u a1 m1 k1 a3 m3 k3 a5 m5 k5 b6 b8 gn i1 i3 i5 h6 l6 h8 l8 d6_8)
        kernel_rfl
       refine AllReadyH.cons rfl (fun K hK => ?_) ?_
       ·go_simp
        have l7 := g.size
        have d7_8 : v.heap.size ≠ b8 := fun e => by have h9 := (Array.getElem?_eq_some_iff.1 h8).1; omega
        have h7 := heap_alloc_new v (.cells #[.slice none 0 0] 23)
        have gs := jab v (.cells #[.slice none 0 0] 23)
        generalize hvn : v.alloc (.cells #[.slice none 0 0] 23) = u at h7 gs ⊢
        clear hvn
        generalize v.heap.size = b7 at h7 l7 d7_8 ⊢
        have gn := jaa g gs
        refine hK.out _ _ gn (fun hHeld => ?_)
        clear hK K
        try simp only [Act.put]
        have i1 := i1.more gs
        have i3 := i3.more gs
        have i5 := i5.more gs
        have h8 := jad h8 gs
        clear g gs hHeld
        refine cast ?_ (N1_3_5_7_8 u a1 m1 k1 a3 m3 k3 a5 m5 k5 b7 b8 gn i1 i3 i5 h7 l7 h8 l8 d7_8)
        kernel_rfl
       exact AllReadyH.nil
      ·intro v a1 m1 k1 a3 m3 k3 a5 m5 k5 b7 g i1 i3 i5 h7 l7
       refine wpAnyH_ready (rs := [6, 8]) (by kernel_rfl) (by simp) ?_
       refine AllReadyH.cons rfl (fun K hK => ?_) ?_
       ·go_simp
        have l6 := g.size
        have d6_7 : v.heap.size ≠ b7 := fun e => by have h9 := (Array.getElem?_eq_some_iff.1 h7).1; omega
        have h6 := heap_alloc_new v (.cells #[.slice none 0 0] 23)
        have gs := jab v (.cells #[.slice none 0 0] 23)
        generalize hvn : v.alloc (.cells #[.slice none 0 0] 23) = u at h6 gs ⊢
        clear hvn
        generalize v.heap.size = b6 at h6 l6 d6_7 ⊢
        have gn := jaa g gs
        refine hK.out _ _ gn (fun hHeld => ?_)
        clear hK K
        try simp only [Act.put]
        have i1 := i1.more gs
        have i3 := i3.more gs
        have i5 := i5.more gs
        have h7 := jad h7 gs
        clear g gs hHeld
        refine cast ?_ (N1_3_5_6_7 u a1 m1 k1 a3 m3 k3 a5 m5 k5 b6 b7 gn i1 i3 i5 h6 l6 h7 l7 d6_7)
        kernel_rfl
       refine AllReadyH.cons rfl (fun K hK => ?_) ?_
       ·go_simp
        have l8 := g.size
        have d7_8 : b7 ≠ v.heap.size := fun e => by have h9 := (Array.getElem?_eq_some_iff.1 h7).1; omega
        have h8 := heap_alloc_new v (.cells #[.slice none 0 0] 23)
        have gs := jab v (.cells #[.slice none 0 0] 23)
        generalize hvn : v.alloc (.cells #[.slice none 0 0] 23) = u at h8 gs ⊢
        clear hvn
        generalize v.heap.size = b8 at h8 l8 d7_8 ⊢
        have gn := jaa g gs
        refine hK.out _ _ gn (fun hHeld => ?_)
        clear hK K
        try simp only [Act.put]
        have i1 := i1.more gs
        have i3 := i3.more gs
        have i5 := i5.more gs
        have h7 := jad h7 gs
        clear g gs hHeld
        refine cast ?_ (N1_3_5_7_8 u a1 m1 k1 a3 m3 k3 a5 m5 k5 b7 b8 gn i1 i3 i5 h7 l7 h8 l8 d7_8)
        kernel_rfl
       exact AllReadyH.nil
      ·intro v a1 m1 k1 a3 m3 k3 a5 m5 k5 b6 g i1 i3 i5 h6 l6
       refine wpAnyH_ready (rs := [7, 8]) (by kernel_rfl) (by simp) ?_
       refine AllReadyH.cons rfl (fun K hK => ?_) ?_
       ·go_simp
        have l7 := g.size
        have d6_7 : b6 ≠ v.heap.size := fun e => by have h9 := (Array.getElem?_eq_some_iff.1 h6).1; omega
        have h7 := heap_alloc_new v (.cells #[.slice none 0 0] 23)
        have gs := jab v (.cells #[.slice none 0 0] 23)
        generalize hvn : v.alloc (.cells #[.slice none 0 0] 23) = u at h7 gs ⊢
        clear hvn
        generalize v.heap.size = b7 at h7 l7 d6_7 ⊢
        have gn := jaa g gs
        refine hK.out _ _ gn (fun hHeld => ?_)
        clear hK K
        try simp only [Act.put]
        have i1 := i1.more gs
        have i3 := i3.more gs
        have i5 := i5.more gs
        have h6 := jad h6 gs
        clear g gs hHeld
        refine cast ?_ (N1_3_5_6_7 u a1 m1 k1 a3 m3 k3 a5 m5 k5 b6 b7 gn i1 i3 i5 h6 l6 h7 l7 d6_7)
        kernel_rfl
       refine AllReadyH.cons rfl (fun K hK => ?_) ?_
       ·go_simp
        have l8 := g.size
        have d6_8 : b6 ≠ v.heap.size := fun e => by have h9 := (Array.getElem?_eq_some_iff.1 h6).1; omega
        have h8 := heap_alloc_new v (.cells #[.slice none 0 0] 23)
        have gs := jab v (.cells #[.slice none 0 0] 23)
        generalize hvn : v.alloc (.cells #[.slice none 0 0] 23) = u at h8 gs ⊢
        clear hvn
        generalize v.heap.size = b8 at h8 l8 d6_8 ⊢
        have gn := jaa g gs
        refine hK.out _ _ gn (fun hHeld => ?_)
        clear hK K
        try simp only [Act.put]
        have i1 := i1.more gs
        have i3 := i3.more gs
        have i5 := i5.more gs
        have h6 := jad h6 gs
        clear g gs hHeld
        refine cast ?_ (N1_3_5_6_8 u a1 m1 k1 a3 m3 k3 a5 m5 k5 b6 b8 gn i1 i3 i5 h6 l6 h8 l8 d6_8)
        kernel_rfl
       exact AllReadyH.nil
      ·intro v a1 m1 k1 a3 m3 k3 b6 b7 b8 g i1 i3 h6 l6 h7 l7 h8 l8 d6_7 d6_8 d7_8
       refine wpAnyH_ready (rs := [5]) (by kernel_rfl) (by simp) ?_
       refine AllReadyH.cons rfl (fun K hK => ?_) ?_
       ·go_simp
        refine (S3.out v g).mono ?_
        rintro e u ⟨⟨a5, m5, k5⟩, rfl, i5, gs⟩
        simp only [Sl.v] at i5 ⊢
        have gn := jaa g gs
        refine hK.out _ _ gn (fun hHeld => ?_)
        clear hK K
        try simp only [Act.put]
        have i1 := i1.more gs
        have i3 := i3.more gs
        have h6 := jad h6 gs
        have h7 := jad h7 gs
        have h8 := jad h8 gs
        clear g gs hHeld
        exact N1_3_5_6_7_8 u a1 m1 k1 a3 m3 k3 a5 m5 k5 b6 b7 b8 gn i1 i3 i5 h6 l6 h7 l7 h8 l8 d6_7 d6_8 d7_8
       exact AllReadyH.nil
      ·intro v a1 m1 k1 a3 m3 k3 a5 m5 k5 b7 b8 g i1 i3 i5 h7 l7 h8 l8 d7_8
       refine wpAnyH_ready (rs := [6]) (by kernel_rfl) (by simp) ?_
       refine AllReadyH.cons rfl (fun K hK => ?_) ?_
       ·go_simp
        have l6 := g.size
        have d6_7 : v.heap.size ≠ b7 := fun e => by have h9 := (Array.getElem?_eq_some_iff.1 h7).1; omega
        have d6_8 : v.heap.size ≠ b8 := fun e => by have h9 := (Array.getElem?_eq_some_iff.1 h8).1; omega
        have h6 := heap_alloc_new v (.cells #[.slice none 0 0] 23)
        have gs := jab v (.cells #[.slice none 0 0] 23)
        generalize hvn : v.alloc (.cells #[.slice none 0 0] 23) = u at h6 gs ⊢
        clear hvn
        generalize v.heap.size = b6 at h6 l6 d6_7 d6_8 ⊢
        have gn := jaa g gs
        refine hK.out _ _ gn (fun hHeld => ?_)
        clear hK K
        try simp only [Act.put]
        have i1 := i1.more gs
        have i3 := i3.more gs
        have i5 := i5.more gs
        have h7 := jad h7 gs
        have h8 := jad h8 gs
        clear g gs hHeld
        refine cast ?_ (N1_3_5_6_7_8 u a1 m1 k1 a3 m3 k3 a5 m5 k5 b6 b7 b8 gn i1 i3 i5 h6 l6 h7 l7 h8 l8 d6_7 d6_8 d7_8)
        kernel_rfl
       exact AllReadyH.nil
      ·intro v a1 m1 k1 a3 m3 k3 a5 m5 k5 b6 b8 g i1 i3 i5 h6 l6 h8 l8 d6_8
       refine wpAnyH_ready (rs := [7]) (by kernel_rfl) (by simp) ?_
       refine AllReadyH.cons rfl (fun K hK => ?_) ?_
       ·go_simp
        have l7 := g.size
        have d6_7 : b6 ≠ v.heap.size := fun e => by have h9 := (Array.getElem?_eq_some_iff.1 h6).1; omega
        have d7_8 : v.heap.size ≠ b8 := fun e => by have h9 := (Array.getElem?_eq_some_iff.1 h8).1; omega
        have h7 := heap_alloc_new v (.cells #[.slice none 0 0] 23)
        have gs := jab v (.cells #[.slice none 0 0] 23)
        generalize hvn : v.alloc (.cells #[.slice none 0 0] 23) = u at h7 gs ⊢
        clear hvn
        generalize v.heap.size = b7 at h7 l7 d6_7 d7_8 ⊢
        have gn := jaa g gs
        refine hK.out _ _ gn (fun hHeld => ?_)
        clear hK K
        try simp only [Act.put]
        have i1 := i1.more gs
        have i3 := i3.more gs
        have i5 := i5.more gs
        have h6 := jad h6 gs
        have h8 := jad h8 gs
        clear g gs hHeld
        refine cast ?_ (N1_3_5_6_7_8 u a1 m1 k1 a3 m3 k3 a5 m5 k5 b6 b7 b8 gn i1 i3 i5 h6 l6 h7 l7 h8 l8 d6_7 d6_8 d7_8)
        kernel_rfl
       exact AllReadyH.nil
      ·intro v a1 m1 k1 a3 m3 k3 a5 m5 k5 b6 b7 g i1 i3 i5 h6 l6 h7 l7 d6_7
       refine wpAnyH_ready (rs := [8]) (by kernel_rfl) (by simp) ?_
       refine AllReadyH.cons rfl (fun K hK => ?_) ?_
       ·go_simp
        have l8 := g.size
        have d6_8 : b6 ≠ v.heap.size := fun e => by have h9 := (Array.getElem?_eq_some_iff.1 h6).1; omega
        have d7_8 : b7 ≠ v.heap.size := fun e => by have h9 := (Array.getElem?_eq_some_iff.1 h7).1; omega
        have h8 := heap_alloc_new v (.cells #[.slice none 0 0] 23)
        have gs := jab v (.cells #[.slice none 0 0] 23)
        generalize hvn : v.alloc (.cells #[.slice none 0 0] 23) = u at h8 gs ⊢
        clear hvn
        generalize v.heap.size = b8 at h8 l8 d6_8 d7_8 ⊢
        have gn := jaa g gs
        refine hK.out _ _ gn (fun hHeld => ?_)
        clear hK K
        try simp only [Act.put]
        have i1 := i1.more gs
        have i3 := i3.more gs
        have i5 := i5.more gs
        have h6 := jad h6 gs
        have h7 := jad h7 gs
        clear g gs hHeld
        refine cast ?_ (N1_3_5_6_7_8 u a1 m1 k1 a3 m3 k3 a5 m5 k5 b6 b7 b8 gn i1 i3 i5 h6 l6 h7 l7 h8 l8 d6_7 d6_8 d7_8)
        kernel_rfl
       exact AllReadyH.nil
      ·intro v a1 m1 k1 a3 m3 k3 a5 m5 k5 b6 b7 b8 g i1 i3 i5 h6 l6 h7 l7 h8 l8 d6_7 d6_8 d7_8
       refine wpAnyH_ready (rs := [9]) (by kernel_rfl) (by simp) ?_
       refine AllReadyH.cons rfl (fun K hK => ?_) ?_
       ·skip
        have c9 := jaA h6
        have f9 := jbd h6 0
        go_simp
        have x9 : v.grownBy (v.setCell ⟨b6, 0, none⟩ (.slice a1 m1 k1)) (some b6) := jbm _ _ _ _
        have y9 := jah g x9 (fun r e => by cases e; exact l6)
        have s9 : (v.setCell ⟨b6, 0, none⟩ (.slice a1 m1 k1)).heap[b6]? = some (.cells #[(.slice a1 m1 k1)] 23 (0, 0)) := Boxed.set (v := (.slice none 0 0)) _ h6
        have t9_7 := jau h7 d6_7.symm (.slice a1 m1 k1)
        have t9_8 := jau h8 d6_8.symm (.slice a1 m1 k1)
        have r9_1 := i1.putAway h6 x9
        have r9_3 := i3.putAway h6 x9
        have r9_5 := i5.putAway h6 x9
        generalize v.setCell ⟨b6, 0, none⟩ (.slice a1 m1 k1) = v9 at x9 y9 s9 t9_7 t9_8 r9_1 r9_3 r9_5 ⊢
        refine hK.out _ _ y9 (fun hHeld => ?_)
        clear hK K
        try simp only [Act.put]
        have c10 := jaA t9_7
        have f10 := jbd t9_7 0
        refine rdA 10 fun K hK => ?_
        go_simp
        have x10 : v9.grownBy (v9.setCell ⟨b7, 0, none⟩ (.slice a3 m3 k3)) (some b7) := jbm _ _ _ _
        have y10 := jah y9 x10 (fun r e => by cases e; exact l7)
        have s10 : (v9.setCell ⟨b7, 0, none⟩ (.slice a3 m3 k3)).heap[b7]? = some (.cells #[(.slice a3 m3 k3)] 23 (0, 0)) := Boxed.set (v := (.slice none 0 0)) _ t9_7
        have t10_6 := jau s9 d6_7 (.slice a3 m3 k3)
        have t10_8 := jau t9_8 d7_8.symm (.slice a3 m3 k3)
        have r10_1 := r9_1.putAway t9_7 x10
        have r10_3 := r9_3.putAway t9_7 x10
        have r10_5 := r9_5.putAway t9_7 x10
        generalize v9.setCell ⟨b7, 0, none⟩ (.slice a3 m3 k3) = v10 at x10 y10 s10 t10_6 t10_8 r10_1 r10_3 r10_5 ⊢
        refine hK.out _ _ y10 (fun hHeld => ?_)
        clear hK K
        try simp only [Act.put]
        have c11 := jaA t10_8
        have f11 := jbd t10_8 0
        refine rdA 11 fun K hK => ?_
        go_simp
        have x11 : v10.grownBy (v10.setCell ⟨b8, 0, none⟩ (.slice a5 m5 k5)) (some b8) := jbm _ _ _ _
        have y11 := jah y10 x11 (fun r e => by cases e; exact l8)
        have s11 : (v10.setCell ⟨b8, 0, none⟩ (.slice a5 m5 k5)).heap[b8]? = some (.cells #[(.slice a5 m5 k5)] 23 (0, 0)) := Boxed.set (v := (.slice none 0 0)) _ t10_8
        have t11_6 := jau t10_6 d6_8 (.slice a5 m5 k5)
        have t11_7 := jau s10 d7_8 (.slice a5 m5 k5)
        have r11_1 := r10_1.putAway t10_8 x11
        have r11_3 := r10_3.putAway t10_8 x11
        have r11_5 := r10_5.putAway t10_8 x11
        generalize v10.setCell ⟨b8, 0, none⟩ (.slice a5 m5 k5) = v11 at x11 y11 s11 t11_6 t11_7 r11_1 r11_3 r11_5 ⊢
        refine hK.out _ _ y11 (fun hHeld => ?_)
        clear hK K
        try simp only [Act.put]
        refine wpAnyH_done (by kernel_rfl) ?_ _
        go_simp
        go_wp2_with fail
        go_meet
        exact ⟨y11, b6, b7, b8, a1, m1, k1, a3, m3, k3, a5, m5, k5, rfl, rfl, rfl, t11_6, t11_7, s11, r11_1, r11_3, r11_5⟩
       exact AllReadyH.nil
     case rest =>
      obtain ⟨y11, b6, b7, b8, a1, m1, k1, a3, m3, k3, a5, m5, k5, rfl, rfl, rfl, t11_6, t11_7, s11, r11_1, r11_3, r11_5⟩ := hcut
      obtain ⟨v11, hv11⟩ : ∃ v, v = wc := ⟨_, rfl⟩
      rw [← hv11] at y11 t11_6 t11_7 s11 r11_1 r11_3 r11_5 ⊢
      clear hv11
      have AL0 : Hid (∀ wx, v11.grownBy wx none → Calls Tryz.prog 99 #[.int .i64 0, .pointer (some ⟨w.heap.size + 1, 0, none⟩), .pointer (some ⟨w.heap.size + 1 + 1, 0, none⟩), .pointer (some ⟨b6, 0, none⟩), .pointer (some ⟨b7, 0, none⟩), .pointer (some ⟨b8, 0, none⟩)] wx fun e w' => e = .returned (.agg #[.int .i64 H, .int .i64 kh, .int .i64 1, .int .i64 1, .int .i64 0]) ∧ wx.grownBy w' none) := fun wx hx => by have h := joh 0 (by omega) (w.heap.size + 1) (w.heap.size + 1 + 1) b6 b7 b8 ⟨da, dn, dc⟩ ⟨ka, kn, kc⟩ ⟨a1, m1, k1⟩ ⟨a3, m3, k3⟩ ⟨a5, m5, k5⟩ [(D0 : Int), D1, H, W] [(kh : Int), kw] [1, 1] [1, 1] [0, 0, 0, 0] wx (jad HB1.out (jaa y11 hx)) (jad HB2.out (jaa y11 hx)) (jad t11_6 hx) (jad t11_7 hx) (jad s11 hx) (HD.out.more (jaa G0.out (jaa y11 hx))) (HK.out.more (jaa G0.out (jaa y11 hx))) (r11_1.more hx) (r11_3.more hx) (r11_5.more hx) rfl rfl rfl rfl rfl; exact h
      have AL1 : Hid (∀ wx, v11.grownBy wx none → Calls Tryz.prog 99 #[.int .i64 1, .pointer (some ⟨w.heap.size + 1, 0, none⟩), .pointer (some ⟨w.heap.size + 1 + 1, 0, none⟩), .pointer (some ⟨b6, 0, none⟩), .pointer (some ⟨b7, 0, none⟩), .pointer (some ⟨b8, 0, none⟩)] wx fun e w' => e = .returned (.agg #[.int .i64 W, .int .i64 kw, .int .i64 1, .int .i64 1, .int .i64 0]) ∧ wx.grownBy w' none) := fun wx hx => by have h := joh 1 (by omega) (w.heap.size + 1) (w.heap.size + 1 + 1) b6 b7 b8 ⟨da, dn, dc⟩ ⟨ka, kn, kc⟩ ⟨a1, m1, k1⟩ ⟨a3, m3, k3⟩ ⟨a5, m5, k5⟩ [(D0 : Int), D1, H, W] [(kh : Int), kw] [1, 1] [1, 1] [0, 0, 0, 0] wx (jad HB1.out (jaa y11 hx)) (jad HB2.out (jaa y11 hx)) (jad t11_6 hx) (jad t11_7 hx) (jad s11 hx) (HD.out.more (jaa G0.out (jaa y11 hx))) (HK.out.more (jaa G0.out (jaa y11 hx))) (r11_1.more hx) (r11_3.more hx) (r11_5.more hx) rfl rfl rfl rfl rfl; exact h
      have Y11 := jae y11
      have hmf : ∀ (fn : Fn) (first cap : Array Value) (w : World), (Instr.makeFunc fn first cap).run Tryz.prog w = .ok (.func fn first cap) w := fun _ _ _ _ => rfl
      clear y11 t11_6 t11_7 s11 r11_1 r11_3 r11_5 n0 n1 n2 n3 n4
      go_wp2_with fail
      refine (AL0.out v11 (jaf _)).mono ?_
      rintro e w5 ⟨rfl, hg5⟩
      go_wp2_with fail
      refine (AL1.out w5 hg5).mono ?_
      rintro e w6 ⟨rfl, hg6⟩
      have g6 := jaa Y11.out (jaa hg5 hg6)
      have HB6 := jae (jad HB3.out g6)
      have G6 := jae g6
      clear hg5 hg6 g6 hmf
      have HX6 := setRow_heap w6 (w.heap.size + 1 + 1 + 1) _ #[.int .i64 H, .int .i64 kh, .int .i64 1, .int .i64 1, .int .i64 0, .int .i64 W, .int .i64 kw, .int .i64 1, .int .i64 1, .int .i64 0] _ _ HB6.out
      go_wp2_with (refine wpList_store_row rfl 90 (.tmp 6) (.tmp 22) rfl (w.heap.size + 1 + 1 + 1) #[.int .i64 H, .int .i64 kh, .int .i64 1, .int .i64 1, .int .i64 0, .int .i64 W, .int .i64 kw, .int .i64 1, .int .i64 1, .int .i64 0] rfl rfl 90 _ HB6.out je5 rfl (by simp [Value.oneCell']) ?_)
      refine bodyPost_ret (jpr rfl _ _ (w.heap.size + 1 + 1 + 1) rfl HX6) rfl ?_
      exact ⟨rfl, jah (jaa G0.out G6.out) (jcr _ _ _) (fun r e => by cases e; omega)⟩
end Go.Proofs.YtkefdkboejimeaaGreatDoor
