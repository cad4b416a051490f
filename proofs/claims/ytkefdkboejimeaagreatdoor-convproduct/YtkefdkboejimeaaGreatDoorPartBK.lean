/- A part. -/
import Derived.Test.YtkefdkboejimeaaGreatDoorMini
import Derived.Test.YtkefdkboejimeaaGreatDoorMini2
import Derived.Test.YtkefdkboejimeaaGreatDoorPartAN
import Derived.Test.YtkefdkboejimeaaGreatDoorPartBI
import Derived.Test.YtkefdkboejimeaaGreatDoorPartBB
import Derived.RangeFuncBox
import Derived.Maps.AppendAt
import Derived.Test.YtkefdkboejimeaaGreatDoorPartBJ
import Derived.Test.YtkefdkboejimeaaGreatDoorPartAT
import Derived.Test.YtkefdkboejimeaaGreatDoorPartAX
import Derived.Test.YtkefdkboejimeaaGreatDoorPartAR
set_option maxHeartbeats 8000000
set_option maxRecDepth 100000
namespace Go.Proofs.YtkefdkboejimeaaGreatDoor
open Go.RowKit Go.Shelf
attribute [local go_sem] Oper.semAt_some
theorem jaW {W W' : World} {b : Nat} {o : Obj} (ho : W.heap[b]? = some o) (hc : o.isCells = true) {row : Option Nat} (hg : W.grownBy W' row) (hr : ∀ r, row = some r → ∃ o : Obj, W.heap[r]? = some o ∧ o.isCells = false) : W'.heap[b]? = some o := by
 refine (hg.block b (Array.getElem?_eq_some_iff.1 ho).1 (fun e => ?_)).trans ho
 obtain ⟨o', ho', hc'⟩ := hr b e.symm
 rw [ho] at ho'
 cases ho'
 rw [hc] at hc'
 cases hc'
theorem jau {W : World} {b B : Nat} {o : Obj} (ho : W.heap[b]? = some o) (hne : b ≠ B) (u : Value) : (W.setCell ⟨B, 0, none⟩ u).heap[b]? = some o := ((grownBy_setCell' W B u).block b (Array.getElem?_eq_some_iff.1 ho).1 (fun e => hne (by injection e))).trans ho
theorem jaX {w w' : World} {a : Addr} {v : Value} {B : Nat} (hc : w.cell? a = some v) (hg : w.grownBy w' (some B)) (hne : a.block ≠ B) : w'.cell? a = some v := by
 rw [← hc]
 exact World.cell?_of_block (hg.block a.block (World.block_lt_of_cell? w _ hc) (fun e => hne (by injection e)))
theorem jbU {w w' : World} (hg : w.grownBy w' none) (B : Nat) : w.grownBy w' (some B) := ⟨hg.os, hg.tape, hg.output, hg.size, fun k hk _ => hg.block k hk (by simp)⟩
theorem jcq {w w' : World} (hg : w.grownBy w' none) (B : Nat) (v : Value) : w.grownBy (w'.setCell ⟨B, 0, none⟩ v) (some B) := by
 have h := grownBy_setCell' w' B v
 exact ⟨h.os.trans hg.os, h.tape.trans hg.tape, h.output.trans hg.output, Nat.le_trans hg.size h.size, fun k hk hn => (h.block k (Nat.lt_of_lt_of_le hk hg.size) hn).trans (hg.block k hk (by simp))⟩
structure GInv (w : World) (Bi Bg Bm Bb q1 q2 : Nat) (u : Sl) (m : Int) (b : Bool) (W : World) : Prop where
 gr : w.grownBy W none
 img : W.heap[Bi]? = some (.cells #[.slice u.a u.n u.c] 23 (0, 0))
 stp : W.heap[Bg]? = some (.cells #[jeb q1 q2] 101 (0, 0))
 two : jhW ⟨#[77, 97, 120]⟩ 1 W q1 q2
 most : Boxed W Bm 2 (.int .i64 m)
 beg : Boxed W Bb 4 (.bool b)
theorem GInv.turn {w W W' : World} {Bi Bg Bm Bb q1 q2 B0 : Nat} {u : Sl} {m : Int} {b : Bool} (h : GInv w Bi Bg Bm Bb q1 q2 u m b W) {row : Option Nat} (hg : W.grownBy W' row) (hr : ∀ r, row = some r → B0 ≤ r ∧ ∃ o : Obj, W.heap[r]? = some o ∧ o.isCells = false) (hB : w.heap.size ≤ B0) : GInv w Bi Bg Bm Bb q1 q2 u m b W' := by
 have hr' : ∀ r, row = some r → ∃ o : Obj, W.heap[r]? = some o ∧ o.isCells = false := fun r e => (hr r e).2
 exact ⟨jah h.gr hg (fun r e => by have := (hr r e).1; omega), jaW h.img rfl hg hr', jaW h.stp rfl hg hr', ⟨jaW h.two.1 rfl hg hr', jaW h.two.2 rfl hg hr'⟩, jaW h.most rfl hg hr', jaW h.beg rfl hg hr'⟩
theorem GInv.more {w W W' : World} {Bi Bg Bm Bb q1 q2 : Nat} {u : Sl} {m : Int} {b : Bool} (h : GInv w Bi Bg Bm Bb q1 q2 u m b W) (hg : W.grownBy W' none) : GInv w Bi Bg Bm Bb q1 q2 u m b W' := h.turn (B0 := w.heap.size) hg (fun r e => by cases e) (Nat.le_refl _)
theorem GInv.put {w W : World} {Bi Bg Bm Bb q1 q2 : Nat} {u : Sl} {m : Int} {b : Bool} (h : GInv w Bi Bg Bm Bb q1 q2 u m b W) (m' : Int) (h0 : w.heap.size ≤ Bm) (h1 : Bi ≠ Bm) (h2 : Bg ≠ Bm) (h3 : q1 ≠ Bm) (h4 : q2 ≠ Bm) (h5 : Bb ≠ Bm) : GInv w Bi Bg Bm Bb q1 q2 u m' b (W.setCell ⟨Bm, 0, none⟩ (.int .i64 m')) :=
 ⟨jah h.gr (grownBy_setCell' W Bm _) (fun r e => by cases e; exact h0), jau h.img h1 _, jau h.stp h2 _, ⟨jau h.two.1 h3 _, jau h.two.2 h4 _⟩, h.most.set _, jau h.beg h5 _⟩
theorem GInv.flag {w W : World} {Bi Bg Bm Bb q1 q2 : Nat} {u : Sl} {m : Int} {b : Bool} (h : GInv w Bi Bg Bm Bb q1 q2 u m b W) (b' : Bool) (h0 : w.heap.size ≤ Bb) (h1 : Bi ≠ Bb) (h2 : Bg ≠ Bb) (h3 : q1 ≠ Bb) (h4 : q2 ≠ Bb) (h5 : Bm ≠ Bb) : GInv w Bi Bg Bm Bb q1 q2 u m b' (W.setCell ⟨Bb, 0, none⟩ (.bool b')) :=
 ⟨jah h.gr (grownBy_setCell' W Bb _) (fun r e => by cases e; exact h0), jau h.img h1 _, jau h.stp h2 _, ⟨jau h.two.1 h3 _, jau h.two.2 h4 _⟩, jau h.most h5 _, h.beg.set _⟩
theorem jqd (t y : Int) : jbE t [y] = y := rfl
theorem jjI (t y : Int) (ys : List Int) (h : ys ≠ []) : jbE t (ys ++ [y]) = (Nu.bin 4 t (jbE t ys) y).1 := by
 cases ys with
 | nil => exact absurd rfl h
 | cons a l => simp [jbE, maxL]
def jnH {K L : Nat} (img : List Int) (pre : List (Plc K L)) : List Int := pre.map fun p => img.getD p.1.2 0
theorem jnI {K L : Nat} {img : List Int} {pre : List (Plc K L)} {W kh kw h v : Nat} (e : pre.map (·.1) = wpl W kh kw h v) : jnH img pre = jhv img W kh kw h v := by
 unfold jnH jhv
 rw [← e, List.map_map]
 rfl
theorem jg4 (H kh W kw h v p1 p2 p3 : Nat) (u : Sl) (img : List Int) (w : World) (hp : PlB H kh W kw h v w p1 p2 p3) (hh : h + kh ≤ H) (hv : v + kw ≤ W) (hW : W ≤ 65536) (hH : H ≤ 65536) (hL : H * W ≤ 65536) (hK : kh * kw ≤ 65536) (hx : IsInts w u.v img) (hl : img.length = H * W) (h0 : 0 < H * W) :
    Calls Tryz.prog 27 #[.slice u.a u.n u.c, plV p1 p2 p3] w fun e w' => e = .returned (.int .i64 (jbE 1 (jhv img W kh kw h v))) ∧ w.grownBy w' none := by
     obtain ⟨ua, un, uc⟩ := u
     obtain ⟨_, _, eu, s1, s2, s3⟩ := hx.sl
     simp only [Sl.v, Value.slice.injEq] at eu hx
     obtain ⟨rfl, rfl, rfl⟩ := eu
     obtain ⟨bx, ox, rfl⟩ := jaM hx (by omega)
     have HX := jae hx
     have HP := jae hp
     have HLI := jae hl
     have TA : Hid (∀ wx, Calls Tryz.prog 63 #[.string ⟨#[77, 97, 120]⟩, .int .i64 1] wx fun e w' => e = .returned (.func (.func 104) #[] #[.pointer (some ⟨wx.heap.size, 0, none⟩), .pointer (some ⟨wx.heap.size + 1, 0, none⟩)]) ∧ wx.grownBy w' none ∧ w'.heap[wx.heap.size]? = some (.cells #[.string ⟨#[77, 97, 120]⟩] 9 (0, 0)) ∧ w'.heap[wx.heap.size + 1]? = some (.cells #[.int .i64 1] 3 (0, 0))) := fun wx => jei ⟨#[77, 97, 120]⟩ 1 wx
     clear hx hp hl
     obtain ⟨w0, hw0⟩ : ∃ w0, w0 = w.alloc (.cells #[.slice (some ⟨bx, ox, none⟩) img.length uc] 23) := ⟨_, rfl⟩
     have hb0 := heap_alloc_new w (.cells #[.slice (some ⟨bx, ox, none⟩) img.length uc] 23)
     have g0 : w.grownBy w0 none := by rw [hw0]; exact jab _ _
     have z0 : w0.heap.size = w.heap.size + 1 := by rw [hw0]; simp
     rw [← hw0] at hb0
     unfold plV
     refine (callsIn_wide (n := 5)).1 ?_
     refine callsIn_of_wp_marks Tryz.func27 rfl trivial ?_ rfl
     simp only [Tryz.ntmps27, List.size_toArray, List.length_cons, List.length_nil, Nat.reduceAdd, Nat.reduceSub, Array.replicate_succ, Array.replicate_zero, List.push_toArray, List.append_toArray, List.nil_append, List.cons_append]
     refine wpIn_mono (wpIn_wide.2 ?_) Vw.noPanic_le
     go_wp2_with fail
     rw [← hw0]
     refine (TA.out w0).mono ?_
     rintro e w1 ⟨rfl, hg1, hb1, hb2⟩
     have z1 := hg1.size
     have hq : w0.heap.size + 1 < w1.heap.size := (Array.getElem?_eq_some_iff.1 hb2).1
     rw [z0] at hb1 hb2 hq
     obtain ⟨w2, hw2⟩ : ∃ w2, w2 = w1.alloc (.cells #[jeb (w.heap.size + 1) (w.heap.size + 1 + 1)] 101) := ⟨_, rfl⟩
     obtain ⟨w3, hw3⟩ : ∃ w3, w3 = w2.alloc (.cells #[.int .i64 0] 2) := ⟨_, rfl⟩
     obtain ⟨w4, hw4⟩ : ∃ w4, w4 = w3.alloc (.cells #[.bool false] 4) := ⟨_, rfl⟩
     have g2 : w1.grownBy w2 none := by rw [hw2]; exact jab _ _
     have g3 : w2.grownBy w3 none := by rw [hw3]; exact jab _ _
     have g4 : w3.grownBy w4 none := by rw [hw4]; exact jab _ _
     have z2 : w2.heap.size = w1.heap.size + 1 := by rw [hw2]; simp
     have z3 : w3.heap.size = w1.heap.size + 1 + 1 := by rw [hw3]; simp [z2]
     have z4 : w4.heap.size = w1.heap.size + 3 := by rw [hw4]; simp [z3]
     have GI : GInv w w.heap.size w1.heap.size (w1.heap.size + 1) (w1.heap.size + 1 + 1) (w.heap.size + 1) (w.heap.size + 1 + 1) ⟨some ⟨bx, ox, none⟩, img.length, uc⟩ 0 false w4 := by
      have g14 := jaa g2 (jaa g3 g4)
      refine ⟨jaa g0 (jaa hg1 g14), jad hb0 (jaa hg1 g14), ?_, ⟨jad hb1 g14, jad hb2 g14⟩, ?_, ?_⟩
      ·refine jad (w := w2) ?_ (jaa g3 g4)
       rw [hw2]; exact heap_alloc_new _ _
      ·refine jad (w := w3) ?_ g4
       rw [hw3, ← z2]; exact heap_alloc_new _ _
      ·show w4.heap[_]? = _
       rw [hw4, ← z3]; exact heap_alloc_new _ _
     have HGI := jae GI
     have Z := jae (And.intro hq z4)
     have G4 := jae GI.gr
     have ZL := jae (Nat.le_trans g0.size hg1.size)
     simp only [jeb] at hw2
     clear GI g2 g3 g4 hb1 hb2 hg1 hb0 g0 z1 z2 z3 z4
     go_wp2
     rw [← hw2, ← hw3, ← hw4]
     clear hw2 hw3 hw4 hw0 z0
     have hz4 := Z.out.2
     have hz5 := ZL.out
     refine (wpIn_wide (n := 5)).1 ?_
     refine wpIn_rangeFunc_ownG rfl (by decide) (gf := 128) (lb := #[.pointer (some ⟨p1, 0, none⟩), .pointer (some ⟨p2, 0, none⟩), .pointer (some ⟨p3, 0, none⟩)]) rfl trivial (enters_of Tryz.func128 (by kernel_rfl) rfl)
      (wseq 4 H kh W kw h v p1 p2 p3 w HP.out hh hv hW hH hL hK) belowK_t (belowK_b (by omega)) (ja0 G4.out) (fun _ => rfl)
      (fun pre X => GInv w w.heap.size w1.heap.size (w1.heap.size + 1) (w1.heap.size + 1 + 1) (w.heap.size + 1) (w.heap.size + 1 + 1) ⟨some ⟨bx, ox, none⟩, img.length, uc⟩ (jbE 1 (jnH img pre)) (!pre.isEmpty) X)
      (fun _ _ _ => False) (fun s A B row hs hg hr => hs.turn hg hr (by omega)) (fun _ _ _ _ _ hs _ _ => hs)
      HGI.out ?a1 ?assign ?body ?done ?stop
     case assign =>
      intro l x W K hK
      simp only [encP]
      gi_wp2
      exact hK
     case body =>
      rintro l pre x X hinv hlt
      have hq := Z.out.1
      obtain ⟨⟨xn, xi⟩, hxn, hxi⟩ := x
      simp only at hxi hxn
      have hbx : bx < w.heap.size := jeo HX.out (by intro e; have h9 := HLI.out; rw [e] at h9; simp only [List.length_nil] at h9; omega) bx rfl
      have hxi2 : xi < img.length := by rw [HLI.out]; exact hxi
      have it := jaC (HX.out.more hinv.gr) hxi2
      have c1 := jaA hinv.img
      have c2 := jaA hinv.stp
      have c3 := hinv.most.cell
      have c4 := hinv.beg.cell
      have f3 := hinv.most.frozen
      have f4 := hinv.beg.frozen
      simp only [jeb] at c2
      have STP : Hid (jnH img (pre ++ [⟨(xn, xi), hxn, hxi⟩]) = jnH img pre ++ [img.getD xi 0]) := by show _ = _; simp [jnH]
      have FL : Hid ((!(pre ++ [(⟨(xn, xi), hxn, hxi⟩ : Plc (kh * kw) (H * W))]).isEmpty) = true) := by show _ = _; simp
      have l1 : (xi : Int) < (img.length : Int) := by omega
      have HI := jae hinv
      obtain ⟨y, hy⟩ : ∃ y, y = img.getD xi 0 := ⟨_, rfl⟩
      rw [← hy] at it STP
      by_cases hpr : pre = []
      ·subst hpr
       have I1 := (hinv.put y (by omega) (by omega) (by omega) (by omega) (by omega) (by omega)).flag true (by omega) (by omega) (by omega) (by omega) (by omega) (by omega)
       have HI1 := jae I1
       have K1 := jae (((KeepsOthers.setCell X ⟨w1.heap.size + 1, 0, none⟩ (.int .i64 y)).trans (KeepsOthers.setCell _ ⟨w1.heap.size + 1 + 1, 0, none⟩ (.bool true))).from (w1.heap.size + 3))
       have B1 := jae (((Below.refl w.heap.size X).setCell (p := ⟨w1.heap.size + 1, 0, none⟩) (by simp; omega) (.int .i64 y)).setCell (p := ⟨w1.heap.size + 1 + 1, 0, none⟩) (by simp; omega) (.bool true))
       clear hinv hlt hy I1
       simp only [List.isEmpty_nil, Bool.not_true] at c4
       gi_wp2
       exact ⟨K1.out, B1.out, by have e := STP.out; simp only [List.nil_append] at e; dsimp only; rw [e]; exact HI1.out⟩
      ·simp only [show (!pre.isEmpty) = true by cases pre <;> simp_all] at c4 HI
       have MST := jae (jjI 1 y (jnH img pre) (by cases pre <;> simp_all [jnH]))
       have SQ := jae (jnn hinv.two)
       obtain ⟨m, hm⟩ : ∃ m, m = jbE 1 (jnH img pre) := ⟨_, rfl⟩
       rw [← hm] at c3 HI MST
       have CB : Hid (∀ wx, X.grownBy wx none → Calls Tryz.prog 104 #[.int .i64 m, .int .i64 y, .pointer (some ⟨w.heap.size + 1, 0, none⟩), .pointer (some ⟨w.heap.size + 1 + 1, 0, none⟩)] wx fun e w' => e = .returned (.int .i64 ((Nu.bin 4 1 m y).1)) ∧ wx.grownBy w' none) := fun wx hx => SQ.out m y wx hx
       clear hinv hlt hpr hm hy SQ
       gi_wp2
       refine jdh (S := fun w' => X.grownBy w' (some (w1.heap.size + 1))) (by kernel_rfl) (by intro i o ho c; rcases i with _ | _ | _ | _ | _ | _ | _ | _ | i <;> simp at ho <;> subst ho <;> simp) (by rintro ⟨a, w, h⟩; exact h) (jbU (jag (jaf _)) _) (fun hHeld => ?_)
       refine tkE 0 ?_ (hv := by intro wS hSw; have c0 := jaX c2 hSw (by dsimp only; omega); go_simp; (try with_reducible rfl))
       try simp only [Act.put]
       refine tkE 2 ?_ (hv := by intro wS hSw; have c0 := jaX c1 hSw (by dsimp only; omega); go_simp; (try with_reducible rfl))
       try simp only [Act.put]
       refine tkE 3 ?_ (hv := by intro wS hSw; go_simp; (try with_reducible rfl))
       try simp only [Act.put]
       refine tkE 4 ?_ (hv := by intro wS hSw; go_simp; (try with_reducible rfl))
       try simp only [Act.put]
       refine tkE 5 ?_ (hv := by intro wS hSw; have c0 := jaX it hSw (by dsimp only; omega); go_simp; (try with_reducible rfl))
       try simp only [Act.put]
       refine rdA 1 fun K hK => ?_
       go_simp
       refine hK.out _ _ (hHeld) (fun hHeld => ?_)
       clear hK K
       try simp only [Act.put]
       refine rdA 6 fun K hK => ?_
       go_simp
       refine (CB.out _ (jag (jaf _))).mono ?_
       rintro e w5 ⟨rfl, hg5⟩
       have hg6 : X.grownBy w5 none := ⟨hg5.os, hg5.tape, hg5.output, hg5.size, hg5.block⟩
       have HI5 := HI.out.more hg6
       have d3 := HI5.most.cell
       have e3 := HI5.most.frozen
       refine hK.out _ _ (jbU hg6 _) (fun hHeld => ?_)
       clear hK K
       try simp only [Act.put]
       refine rdA 7 fun K hK => ?_
       go_simp
       refine hK.out _ _ (jcq hg6 _ _) (fun hHeld => ?_)
       clear hK K
       try simp only [Act.put]
       refine wpAnyH_done (by kernel_rfl) ?_ _
       have I6 := jae (HI5.put (Nu.bin 4 1 m y).1 (by omega) (by omega) (by omega) (by omega) (by omega) (by omega))
       have K6 : Hid (KeepsFrom (w1.heap.size + 3) X (w5.setCell ⟨w1.heap.size + 1, 0, none⟩ (.int .i64 (Nu.bin 4 1 m y).1))) := KeepsFrom.of_grownBy (jcq hg6 _ _) (fun j e => by cases e; omega)
       have B6 : Hid (Below w.heap.size X (w5.setCell ⟨w1.heap.size + 1, 0, none⟩ (.int .i64 (Nu.bin 4 1 m y).1))) := ((ja0 hg6).mono (HI.out.gr.size)).setCell (p := ⟨w1.heap.size + 1, 0, none⟩) (by dsimp only; omega) _
       clear HI5 hg6 hg5 d3 e3
       go_simp
       gi_wp2
       exact ⟨(by first | exact K6.out | (rw [hz4]; exact K6.out)), B6.out, by dsimp only; rw [STP.out, MST.out, FL.out]; exact I6.out⟩
     case done =>
      rintro D zs X hD hzs hinv hK
      have hc := hinv.most.cell
      have HI := jae hinv
      have EZ := jae (jnI (img := img) hzs)
      clear hinv hzs
      go_wp2
      refine Vw.noPanic_ret ?_
      refine ⟨by simp, .inl ⟨_, _, rfl, run_takeDeferred hK, ?_⟩⟩
      refine ⟨_, results_tmp rfl _ _ _, ?_⟩
      exact ⟨by rw [EZ.out]; rfl, jah HI.out.gr (grownBy_putObj' X D (.deferred none)) (fun r e => by cases e; omega)⟩
     case stop =>
      rintro D c pre W _ _ h _
      exact h.elim
end Go.Proofs.YtkefdkboejimeaaGreatDoor
namespace Go.Proofs.YtkefdkboejimeaaGreatDoor
open Go.RowKit Go.Shelf
attribute [local go_sem] Oper.semAt_some
structure Rws (w : World) (b off : Nat) (ss : List Sl) (L : List (List Int)) : Prop where
 sl : ss.length = L.length
 at' : ∀ k, k < L.length → w.cell? ⟨b, off + k, none⟩ = some (.slice (ss.getD k jbQ).a (ss.getD k jbQ).n (ss.getD k jbQ).c)
 each : ∀ k, k < L.length → IsInts w (ss.getD k jbQ).v (L.getD k [])
theorem Rws.more {w w' : World} {b off : Nat} {ss : List Sl} {L : List (List Int)} (h : Rws w b off ss L) (hg : w.grownBy w' none) : Rws w' b off ss L := ⟨h.sl, fun k hk => jac (h.at' k hk) hg, fun k hk => (h.each k hk).more hg⟩
def jnJ (s : Int) (ch ker : List Int) (ps : List (Nat × Nat)) : Int := ps.foldl (fun s p => jdR s (jht (ch.getD p.2 0) (ker.getD p.1 0))) s
def jcg (C K : List (List Int)) (ps : List (Nat × Nat)) : Nat → Int
 | 0 => 0
 | k + 1 => jnJ (jcg C K ps k) (C.getD k []) (K.getD k []) ps
def jjJ {K L : Nat} (pre : List (Plc K L)) : List (Nat × Nat) := pre.map (·.1)
structure PInv (w : World) (Bk Ba Bm Bs q1 q2 q3 q4 : Nat) (kv : Value) (m : Int) (W : World) : Prop where
 gr : w.grownBy W none
 ker : W.heap[Bk]? = some (.cells #[kv] 85 (0, 0))
 sa : W.heap[Ba]? = some (.cells #[jeb q1 q2] 101 (0, 0))
 sm : W.heap[Bm]? = some (.cells #[jeb q3 q4] 101 (0, 0))
 add : jfZ ⟨#[65, 100, 100]⟩ W q1 q2
 mul : jfZ ⟨#[77, 117, 108]⟩ W q3 q4
 sum : Boxed W Bs 2 (.int .i64 m)
theorem PInv.turn {w W W' : World} {Bk Ba Bm Bs q1 q2 q3 q4 B0 : Nat} {kv : Value} {m : Int} (h : PInv w Bk Ba Bm Bs q1 q2 q3 q4 kv m W) {row : Option Nat} (hg : W.grownBy W' row) (hr : ∀ r, row = some r → B0 ≤ r ∧ ∃ o : Obj, W.heap[r]? = some o ∧ o.isCells = false) (hB : w.heap.size ≤ B0) : PInv w Bk Ba Bm Bs q1 q2 q3 q4 kv m W' := by
 have hr' : ∀ r, row = some r → ∃ o : Obj, W.heap[r]? = some o ∧ o.isCells = false := fun r e => (hr r e).2
 exact ⟨jah h.gr hg (fun r e => by have := (hr r e).1; omega), jaW h.ker rfl hg hr', jaW h.sa rfl hg hr', jaW h.sm rfl hg hr', ⟨jaW h.add.1 rfl hg hr', jaW h.add.2 rfl hg hr'⟩, ⟨jaW h.mul.1 rfl hg hr', jaW h.mul.2 rfl hg hr'⟩, jaW h.sum rfl hg hr'⟩
theorem PInv.more {w W W' : World} {Bk Ba Bm Bs q1 q2 q3 q4 : Nat} {kv : Value} {m : Int} (h : PInv w Bk Ba Bm Bs q1 q2 q3 q4 kv m W) (hg : W.grownBy W' none) : PInv w Bk Ba Bm Bs q1 q2 q3 q4 kv m W' := h.turn (B0 := w.heap.size) hg (fun r e => by cases e) (Nat.le_refl _)
theorem PInv.put {w W : World} {Bk Ba Bm Bs q1 q2 q3 q4 : Nat} {kv : Value} {m : Int} (h : PInv w Bk Ba Bm Bs q1 q2 q3 q4 kv m W) (m' : Int) (h0 : w.heap.size ≤ Bs) (h1 : Bk < Bs) (h2 : Ba < Bs ∧ Bm < Bs) (h3 : q1 < Bs ∧ q2 < Bs) (h4 : q3 < Bs ∧ q4 < Bs) : PInv w Bk Ba Bm Bs q1 q2 q3 q4 kv m' (W.setCell ⟨Bs, 0, none⟩ (.int .i64 m')) :=
 ⟨jah h.gr (grownBy_setCell' W Bs _) (fun r e => by cases e; exact h0), jau h.ker (by omega) _, jau h.sa (by omega) _, jau h.sm (by omega) _, ⟨jau h.add.1 (by omega) _, jau h.add.2 (by omega) _⟩, ⟨jau h.mul.1 (by omega) _, jau h.mul.2 (by omega) _⟩, h.sum.set _⟩
theorem jh5 (H kh W kw h v p1 p2 p3 : Nat) (cb co cc kb ko kc : Nat) (cs ks : List Sl) (C K : List (List Int)) (w : World) (hp : PlB H kh W kw h v w p1 p2 p3) (hh : h + kh ≤ H) (hv : v + kw ≤ W) (hW : W ≤ 65536) (hH : H ≤ 65536) (hL : H * W ≤ 65536) (hK : kh * kw ≤ 65536) (hc : Rws w cb co cs C) (hk : Rws w kb ko ks K) (hn : C.length = K.length) (hcl : ∀ c ∈ C, c.length = H * W) (hkl : ∀ c ∈ K, c.length = kh * kw) (lc : C.length ≤ 65536) (h0 : 0 < H * W) (h1 : 0 < kh * kw) :
    Calls Tryz.prog 59 #[.slice (some ⟨cb, co, none⟩) C.length cc, .slice (some ⟨kb, ko, none⟩) K.length kc, plV p1 p2 p3] w fun e w' => e = .returned (.int .i64 (jcg C K (wpl W kh kw h v) C.length)) ∧ w.grownBy w' none := by
     have HC := jae hc
     have HKR := jae hk
     have HN := jae hn
     have HCL := jae hcl
     have HKL := jae hkl
     have HP := jae hp
     have TA := jae (fun (op : ByteArray) wx => jei op 1 wx)
     clear hc hk hp hn hcl hkl
     obtain ⟨w0, hw0⟩ : ∃ w0, w0 = w.alloc (.cells #[.slice (some ⟨kb, ko, none⟩) K.length kc] 85) := ⟨_, rfl⟩
     have hb0 := heap_alloc_new w (.cells #[.slice (some ⟨kb, ko, none⟩) K.length kc] 85)
     have g0 : w.grownBy w0 none := by rw [hw0]; exact jab _ _
     have z0 : w0.heap.size = w.heap.size + 1 := by rw [hw0]; simp
     rw [← hw0] at hb0
     unfold plV
     refine (callsIn_wide (n := 5)).1 ?_
     refine callsIn_of_wp_marks Tryz.func59 rfl trivial ?_ rfl
     simp only [Tryz.ntmps59, List.size_toArray, List.length_cons, List.length_nil, Nat.reduceAdd, Nat.reduceSub, Array.replicate_succ, Array.replicate_zero, List.push_toArray, List.append_toArray, List.nil_append, List.cons_append]
     refine wpIn_mono (wpIn_wide.2 ?_) Vw.noPanic_le
     go_wp2_with fail
     rw [← hw0]
     refine (TA.out ⟨#[65, 100, 100]⟩ w0).mono ?_
     rintro e w1 ⟨rfl, hg1, hb1, hb2⟩
     have z1 := hg1.size
     have hq : w0.heap.size + 1 < w1.heap.size := (Array.getElem?_eq_some_iff.1 hb2).1
     rw [z0] at hb1 hb2 hq
     go_wp2_with fail
     refine (TA.out ⟨#[77, 117, 108]⟩ w1).mono ?_
     rintro e w2 ⟨rfl, hg2, hb3, hb4⟩
     have hr : w1.heap.size + 1 < w2.heap.size := (Array.getElem?_eq_some_iff.1 hb4).1
     obtain ⟨w3, hw3⟩ : ∃ w3, w3 = w2.alloc (.cells #[jeb (w.heap.size + 1) (w.heap.size + 1 + 1)] 101) := ⟨_, rfl⟩
     obtain ⟨w4, hw4⟩ : ∃ w4, w4 = w3.alloc (.cells #[jeb w1.heap.size (w1.heap.size + 1)] 101) := ⟨_, rfl⟩
     obtain ⟨w5, hw5⟩ : ∃ w5, w5 = w4.alloc (.cells #[.int .i64 0] 2) := ⟨_, rfl⟩
     have g3 : w2.grownBy w3 none := by rw [hw3]; exact jab _ _
     have g4 : w3.grownBy w4 none := by rw [hw4]; exact jab _ _
     have g5 : w4.grownBy w5 none := by rw [hw5]; exact jab _ _
     have z3 : w3.heap.size = w2.heap.size + 1 := by rw [hw3]; simp
     have z4 : w4.heap.size = w2.heap.size + 1 + 1 := by rw [hw4]; simp [z3]
     have z5 : w5.heap.size = w2.heap.size + 1 + 1 + 1 := by rw [hw5]; simp [z4]
     have GI : PInv w w.heap.size w2.heap.size (w2.heap.size + 1) (w2.heap.size + 1 + 1) (w.heap.size + 1) (w.heap.size + 1 + 1) w1.heap.size (w1.heap.size + 1) (.slice (some ⟨kb, ko, none⟩) K.length kc) 0 w5 := by
      have g25 := jaa g3 (jaa g4 g5)
      have g15 := jaa hg2 g25
      refine ⟨jaa g0 (jaa hg1 g15), jad hb0 (jaa hg1 g15), ?_, ?_, ⟨jad hb1 g15, jad hb2 g15⟩, ⟨jad hb3 g25, jad hb4 g25⟩, ?_⟩
      ·refine jad (w := w3) ?_ (jaa g4 g5)
       rw [hw3]; exact heap_alloc_new _ _
      ·refine jad (w := w4) ?_ g5
       rw [hw4, ← z3]; exact heap_alloc_new _ _
      ·show w5.heap[_]? = _
       rw [hw5, ← z4]; exact heap_alloc_new _ _
     have HGI := jae GI
     have Z := jae (And.intro hq (And.intro hr z5))
     have G4 := jae GI.gr
     simp only [jeb] at hw3 hw4
     clear GI g3 g4 g5 hb1 hb2 hb3 hb4 hg1 hg2 hb0 g0 z1 z3 z4 z5
     go_wp2
     rw [← hw3, ← hw4, ← hw5]
     clear hw3 hw4 hw5 hw0 z0
     have hz5 := Z.out.2.2
     have hzq := Z.out.1
     have hzr := Z.out.2.1
     refine wp_loop_ghost (fun g a X => ∃ (k : Nat) (Ds : List Nat) (u10 u11 u19 u20 u21 u22 u23 u42 : Value), g = C.length - k ∧ k ≤ C.length ∧ a = { tmps := #[.slice (some ⟨cb, co, none⟩) C.length cc, .slice (some ⟨kb, ko, none⟩) K.length kc, .func (.func 128) #[] #[.pointer (some ⟨p1, 0, none⟩), .pointer (some ⟨p2, 0, none⟩), .pointer (some ⟨p3, 0, none⟩)], undef, .pointer (some ⟨w.heap.size, 0, none⟩), undef, .int .i64 0, .pointer (some ⟨w2.heap.size, 0, none⟩), .pointer (some ⟨w2.heap.size + 1, 0, none⟩), .pointer (some ⟨w2.heap.size + 1 + 1, 0, none⟩), u10, u11, undef, undef, .func (.func 104) #[] #[.pointer (some ⟨w.heap.size + 1, 0, none⟩), .pointer (some ⟨w.heap.size + 1 + 1, 0, none⟩)], .func (.func 104) #[] #[.pointer (some ⟨w1.heap.size, 0, none⟩), .pointer (some ⟨w1.heap.size + 1, 0, none⟩)], .slice (some ⟨cb, co, none⟩) C.length cc, .int .i64 (C.length : Nat), .int .i64 (k : Nat), u19, u20, u21, u22, u23, undef, undef, undef, undef, undef, undef, undef, undef, undef, undef, undef, undef, undef, undef, undef, undef, undef, undef, u42, undef], defers := Ds.map jpR } ∧ PInv w w.heap.size w2.heap.size (w2.heap.size + 1) (w2.heap.size + 1 + 1) (w.heap.size + 1) (w.heap.size + 1 + 1) w1.heap.size (w1.heap.size + 1) (.slice (some ⟨kb, ko, none⟩) K.length kc) (jcg C K (wpl W kh kw h v) k) X ∧ (∀ D ∈ Ds, w.heap.size ≤ D ∧ X.heap[D]? = some (.deferred (some []))) ∧ Ds.Nodup) C.length ⟨0, [], undef, undef, undef, undef, undef, undef, undef, undef, rfl, Nat.zero_le _, rfl, HGI.out, fun D hD => (by cases hD), List.nodup_nil⟩ ?_
     rintro g a X ⟨k, Ds, u10, u11, u19, u20, u21, u22, u23, u42, hg, hk, rfl, hinv, hds, hnd⟩
     have hsx := hinv.sum.lt
     have HDS := jae hds
     have HND := jae hnd
     by_cases hlt : k < C.length
     ·have c0 := (HC.out.more hinv.gr).at' k hlt
      have ce := (HC.out).each k hlt
      have ke := (HKR.out).each k (by rw [← HN.out]; exact hlt)
      have kr := (HKR.out).at' k (by rw [← HN.out]; exact hlt)
      have LC : (C.getD k []).length = H * W := HCL.out _ (by rw [List.getD, List.getElem?_eq_getElem hlt]; exact List.getElem_mem _)
      have LK : (K.getD k []).length = kh * kw := HKL.out _ (by rw [List.getD, List.getElem?_eq_getElem (by rw [← HN.out]; exact hlt)]; exact List.getElem_mem _)
      have PS : Hid (jcg C K (wpl W kh kw h v) (k + 1) = jnJ (jcg C K (wpl W kh kw h v) k) (C.getD k []) (K.getD k []) (wpl W kh kw h v)) := rfl
      obtain ⟨ch, hch⟩ : ∃ ch, ch = C.getD k [] := ⟨_, rfl⟩
      obtain ⟨ker, hker⟩ : ∃ ker, ker = K.getD k [] := ⟨_, rfl⟩
      obtain ⟨⟨ca, cn, ccap⟩, hcs⟩ : ∃ s, s = cs.getD k jbQ := ⟨_, rfl⟩
      obtain ⟨⟨ka, kn, kcap⟩, hks⟩ : ∃ s, s = ks.getD k jbQ := ⟨_, rfl⟩
      rw [← hch] at ce LC PS
      rw [← hker] at ke LK PS
      rw [← hcs] at c0 ce
      rw [← hks] at kr ke
      obtain ⟨_, _, e1, -, -, -⟩ := ce.sl
      obtain ⟨_, _, e2, -, -, -⟩ := ke.sl
      simp only [Sl.v, Value.slice.injEq] at e1 e2 ce ke
      obtain ⟨rfl, rfl, rfl⟩ := e1
      obtain ⟨rfl, rfl, rfl⟩ := e2
      obtain ⟨bx, ox, rfl⟩ := jaM ce (by omega)
      obtain ⟨by', oy, rfl⟩ := jaM ke (by omega)
      simp only at c0 kr
      have hbx : bx < w.heap.size := jeo ce (by intro e; rw [e] at LC; simp only [List.length_nil] at LC; omega) bx rfl
      have hby : by' < w.heap.size := jeo ke (by intro e; rw [e] at LK; simp only [List.length_nil] at LK; omega) by' rfl
      have hbk : kb < w.heap.size := World.block_lt_of_cell? w _ kr
      have CE := jae ce
      have KE := jae ke
      have KR := jae kr
      have HLC := jae LC
      have HLK := jae LK
      have DNE : Hid (∀ D ∈ Ds, D ≠ w2.heap.size + 1 + 1) := fun D hD e => by
       have h1 := (hds D hD).2
       have h2 : X.heap[w2.heap.size + 1 + 1]? = _ := hinv.sum
       rw [e, h2] at h1
       cases h1
      have DLT : Hid (∀ D ∈ Ds, D < X.heap.size) := fun D hD => (Array.getElem?_eq_some_iff.1 (hds D hD).2).1
      have l1 : (k : Int) < (C.length : Int) := by omega
      obtain ⟨Y, hY⟩ : ∃ Y, Y = (X.alloc (.cells #[.int .i64 (k : Nat)] 3)).alloc (.cells #[.slice (some ⟨bx, ox, none⟩) ch.length ccap] 23) := ⟨_, rfl⟩
      have hbb := jax X (.cells #[.int .i64 (k : Nat)] 3) (.cells #[.slice (some ⟨bx, ox, none⟩) ch.length ccap] 23)
      have gY : X.grownBy Y none := by rw [hY]; exact jaa (jab _ _) (jab _ _)
      have zY : Y.heap.size = X.heap.size + 2 := by rw [hY]; simp
      rw [← hY] at hbb
      have HI := jae hinv
      have HBB := jae hbb
      have GY := jae gY
      have GXs := jae hinv.gr.size
      clear hinv hds hnd hch hker hcs hks ce ke kr LC LK hbb gY
      go_wp2
      rw [← hY]
      clear hY c0
      refine (wpIn_wide (n := 5)).1 ?_
      refine wpIn_rangeFunc_ownG rfl (by decide) (gf := 128) (lb := #[.pointer (some ⟨p1, 0, none⟩), .pointer (some ⟨p2, 0, none⟩), .pointer (some ⟨p3, 0, none⟩)]) rfl trivial (enters_of Tryz.func128 (by kernel_rfl) rfl)
       (wseq 4 H kh W kw h v p1 p2 p3 w HP.out hh hv hW hH hL hK) belowK_t (belowK_b (by have := GXs.out; omega)) (ja0 (jaa HI.out.gr GY.out)) (fun _ => rfl)
       (fun (pre : List (Plc (kh * kw) (H * W))) Y' => PInv w w.heap.size w2.heap.size (w2.heap.size + 1) (w2.heap.size + 1 + 1) (w.heap.size + 1) (w.heap.size + 1 + 1) w1.heap.size (w1.heap.size + 1) (.slice (some ⟨kb, ko, none⟩) K.length kc) (jnJ (jcg C K (wpl W kh kw h v) k) ch ker (jjJ pre)) Y' ∧ Y'.heap[X.heap.size]? = some (.cells #[.int .i64 (k : Nat)] 3 (0, 0)) ∧ Y'.heap[X.heap.size + 1]? = some (.cells #[.slice (some ⟨bx, ox, none⟩) ch.length ccap] 23 (0, 0)) ∧ ∀ D ∈ Ds, Y'.heap[D]? = some (.deferred (some [])))
       (fun _ _ _ => False) (fun s A B row hs hg hr => ⟨hs.1.turn hg hr (by have := GXs.out; omega), jaW hs.2.1 rfl hg (fun r e => (hr r e).2), jaW hs.2.2.1 rfl hg (fun r e => (hr r e).2), fun D hD => (hg.block D (Array.getElem?_eq_some_iff.1 (hs.2.2.2 D hD)).1 (fun e => by have h8 := (hr D e.symm).1; have h9 := DLT.out D hD; omega)).trans (hs.2.2.2 D hD)⟩) (fun _ _ _ _ _ hs _ _ => hs)
       ⟨HI.out.more GY.out, HBB.out.1, HBB.out.2, fun D hD => jad (HDS.out D hD).2 GY.out⟩ ?a1 ?assign ?body ?done ?stop
      case assign =>
       intro l x W K hK
       simp only [encP]
       gi_wp2
       exact hK
      case body =>
       rintro l pre x Y1 ⟨hinv, hc1, hc2, hds⟩ hlt1
       obtain ⟨⟨xn, xi⟩, hxn, hxi⟩ := x
       simp only at hxi hxn
       have hxi2 : xi < ch.length := by rw [HLC.out]; exact hxi
       have hxn2 : xn < ker.length := by rw [HLK.out]; exact hxn
       have it := jaC (CE.out.more hinv.gr) hxi2
       have jt := jaC (KE.out.more hinv.gr) hxn2
       have kt := jac KR.out hinv.gr
       have cA := jaA hinv.sa
       have cM := jaA hinv.sm
       have cK := jaA hinv.ker
       have cC := jaA hc1
       have cH := jaA hc2
       have c3 := hinv.sum.cell
       have f3 := hinv.sum.frozen
       simp only [jeb] at cA cM
       have STP : Hid (jnJ (jcg C K (wpl W kh kw h v) k) ch ker (jjJ (pre ++ [(⟨(xn, xi), hxn, hxi⟩ : Plc (kh * kw) (H * W))])) = jdR (jnJ (jcg C K (wpl W kh kw h v) k) ch ker (jjJ pre)) (jht (ch.getD xi 0) (ker.getD xn 0))) := by show _ = _; simp [jnJ, jjJ]
       have l2 : (xi : Int) < (ch.length : Int) := by omega
       have l3 : (xn : Int) < (ker.length : Int) := by omega
       have l4 : (k : Int) < (K.length : Int) := by rw [← HN.out]; exact l1
       obtain ⟨y, hy⟩ : ∃ y, y = ch.getD xi 0 := ⟨_, rfl⟩
       obtain ⟨z, hz⟩ : ∃ z, z = ker.getD xn 0 := ⟨_, rfl⟩
       obtain ⟨m, hm⟩ : ∃ m, m = jnJ (jcg C K (wpl W kh kw h v) k) ch ker (jjJ pre) := ⟨_, rfl⟩
       rw [← hy] at it STP
       rw [← hz] at jt STP
       rw [← hm] at c3 hinv STP
       have HI1 := jae hinv
       have HC1 := jae hc1
       have HC2 := jae hc2
       have HD1 := jae hds
       have gs := GXs.out
       have CB : Hid (∀ wx, Y1.grownBy wx none → Calls Tryz.prog 104 #[.int .i64 y, .int .i64 z, .pointer (some ⟨w1.heap.size, 0, none⟩), .pointer (some ⟨w1.heap.size + 1, 0, none⟩)] wx fun e w' => e = .returned (.int .i64 (jht y z)) ∧ wx.grownBy w' none) := fun wx hx => jiy _ _ y z wx (HI1.out.mul.more hx)
       have CA : Hid (∀ wx q, Y1.grownBy wx none → Calls Tryz.prog 104 #[.int .i64 m, .int .i64 q, .pointer (some ⟨w.heap.size + 1, 0, none⟩), .pointer (some ⟨w.heap.size + 1 + 1, 0, none⟩)] wx fun e w' => e = .returned (.int .i64 (jdR m q)) ∧ wx.grownBy w' none) := fun wx q hx => jix _ _ m q wx (HI1.out.add.more hx)
       obtain ⟨q, hq⟩ : ∃ q, q = jht y z := ⟨_, rfl⟩
       rw [← hq] at CB STP
       clear hinv hlt1 hm hy hz hc1 hc2 hds hq
       gi_wp2
       refine jdh (S := fun w' => Y1.grownBy w' (some (w2.heap.size + 1 + 1))) (by kernel_rfl) (by intro i o ho c; rcases i with _ | _ | _ | _ | _ | _ | _ | _ | _ | _ | _ | _ | _ | _ | _ | _ | _ | i <;> simp at ho <;> subst ho <;> simp) (by rintro ⟨a, w, h⟩; exact h) (jbU (jag (jaf _)) _) (fun hHeld => ?_)
       refine tkE 0 ?_ (hv := by intro wS hSw; have c0 := jaX cA hSw (by dsimp only; omega); go_simp; (try with_reducible rfl))
       try simp only [Act.put]
       refine tkE 2 ?_ (hv := by intro wS hSw; have c0 := jaX cM hSw (by dsimp only; omega); go_simp; (try with_reducible rfl))
       try simp only [Act.put]
       refine tkE 3 ?_ (hv := by intro wS hSw; have c0 := jaX cH hSw (by dsimp only; omega); go_simp; (try with_reducible rfl))
       try simp only [Act.put]
       refine tkE 4 ?_ (hv := by intro wS hSw; go_simp; (try with_reducible rfl))
       try simp only [Act.put]
       refine tkE 5 ?_ (hv := by intro wS hSw; go_simp; (try with_reducible rfl))
       try simp only [Act.put]
       refine tkE 6 ?_ (hv := by intro wS hSw; have c0 := jaX it hSw (by dsimp only; omega); go_simp; (try with_reducible rfl))
       try simp only [Act.put]
       refine tkE 7 ?_ (hv := by intro wS hSw; have c0 := jaX cK hSw (by dsimp only; omega); go_simp; (try with_reducible rfl))
       try simp only [Act.put]
       refine tkE 8 ?_ (hv := by intro wS hSw; have c0 := jaX cC hSw (by dsimp only; omega); go_simp; (try with_reducible rfl))
       try simp only [Act.put]
       refine tkE 9 ?_ (hv := by intro wS hSw; go_simp; (try with_reducible rfl))
       try simp only [Act.put]
       refine tkE 10 ?_ (hv := by intro wS hSw; have c0 := jaX kt hSw (by dsimp only; omega); go_simp; (try with_reducible rfl))
       try simp only [Act.put]
       refine tkE 11 ?_ (hv := by intro wS hSw; go_simp; (try with_reducible rfl))
       try simp only [Act.put]
       refine tkE 12 ?_ (hv := by intro wS hSw; go_simp; (try with_reducible rfl))
       try simp only [Act.put]
       refine tkE 13 ?_ (hv := by intro wS hSw; have c0 := jaX jt hSw (by dsimp only; omega); go_simp; (try with_reducible rfl))
       try simp only [Act.put]
       refine wpAnyH_ready (rs := [1, 14]) (by kernel_rfl) (by simp) ?_
       refine AllReadyH.cons rfl (fun K hK => ?_) (AllReadyH.cons rfl (fun K hK => ?_) AllReadyH.nil)
       ·go_simp
        refine hK.out _ _ hHeld (fun hHeld => ?_)
        clear hK K
        try simp only [Act.put]
        refine rdA 14 fun K hK => ?_
        go_simp
        refine (CB.out _ (jag (jaf _))).mono ?_
        rintro e w6 ⟨rfl, hg5⟩
        have hg6 : Y1.grownBy w6 none := ⟨hg5.os, hg5.tape, hg5.output, hg5.size, hg5.block⟩
        have d3 := (HI1.out.more hg6).sum.cell
        refine hK.out _ _ (jbU hg6 _) (fun hHeld => ?_)
        clear hK K
        try simp only [Act.put]
        refine rdA 15 fun K hK => ?_
        go_simp
        refine (CA.out _ _ hg6).mono ?_
        rintro e w7 ⟨rfl, hg7⟩
        have hg8 := jaa hg6 hg7
        have HI8 := HI1.out.more hg8
        have d8 := HI8.sum.cell
        have e8 := HI8.sum.frozen
        refine hK.out _ _ (jbU hg8 _) (fun hHeld => ?_)
        clear hK K
        try simp only [Act.put]
        refine rdA 16 fun K hK => ?_
        go_simp
        refine hK.out _ _ (jcq hg8 _ _) (fun hHeld => ?_)
        clear hK K
        try simp only [Act.put]
        refine wpAnyH_done (by kernel_rfl) ?_ _
        have I6 := jae (HI8.put (jdR m q) (by omega) (by omega) (by omega) (by omega) (by omega))
        have K6 : Hid (KeepsFrom Y.heap.size Y1 (w7.setCell ⟨w2.heap.size + 1 + 1, 0, none⟩ (.int .i64 (jdR m q)))) := KeepsFrom.of_grownBy (jcq hg8 _ _) (fun j e => by cases e; omega)
        have B6 : Hid (Below w.heap.size Y1 (w7.setCell ⟨w2.heap.size + 1 + 1, 0, none⟩ (.int .i64 (jdR m q)))) := ((ja0 hg8).mono HI1.out.gr.size).setCell (p := ⟨w2.heap.size + 1 + 1, 0, none⟩) (by dsimp only; omega) _
        have X6 := jae (And.intro (jau (jad HC1.out hg8) (B := w2.heap.size + 1 + 1) (by omega) (.int .i64 (jdR m q))) (And.intro (jau (jad HC2.out hg8) (B := w2.heap.size + 1 + 1) (by omega) (.int .i64 (jdR m q))) (fun D hD => jau (jad (HD1.out D hD) hg8) (DNE.out D hD) (.int .i64 (jdR m q)))))
        clear HI8 hg8 hg7 hg6 hg5 d3 d8 e8
        go_simp
        gi_wp2
        exact ⟨(by first | exact K6.out | (rw [← zY]; exact K6.out)), B6.out, by dsimp only; rw [STP.out]; exact ⟨I6.out, X6.out.1, X6.out.2.1, X6.out.2.2⟩⟩
       ·go_simp
        refine (CB.out _ (jag (jaf _))).mono ?_
        rintro e w6 ⟨rfl, hg5⟩
        have hg6 : Y1.grownBy w6 none := ⟨hg5.os, hg5.tape, hg5.output, hg5.size, hg5.block⟩
        have d3 := (HI1.out.more hg6).sum.cell
        refine hK.out _ _ (jbU hg6 _) (fun hHeld => ?_)
        clear hK K
        try simp only [Act.put]
        refine rdA 1 fun K hK => ?_
        go_simp
        refine hK.out _ _ (hHeld) (fun hHeld => ?_)
        clear hK K
        try simp only [Act.put]
        refine rdA 15 fun K hK => ?_
        go_simp
        refine (CA.out _ _ hg6).mono ?_
        rintro e w7 ⟨rfl, hg7⟩
        have hg8 := jaa hg6 hg7
        have HI8 := HI1.out.more hg8
        have d8 := HI8.sum.cell
        have e8 := HI8.sum.frozen
        refine hK.out _ _ (jbU hg8 _) (fun hHeld => ?_)
        clear hK K
        try simp only [Act.put]
        refine rdA 16 fun K hK => ?_
        go_simp
        refine hK.out _ _ (jcq hg8 _ _) (fun hHeld => ?_)
        clear hK K
        try simp only [Act.put]
        refine wpAnyH_done (by kernel_rfl) ?_ _
        have I6 := jae (HI8.put (jdR m q) (by omega) (by omega) (by omega) (by omega) (by omega))
        have K6 : Hid (KeepsFrom Y.heap.size Y1 (w7.setCell ⟨w2.heap.size + 1 + 1, 0, none⟩ (.int .i64 (jdR m q)))) := KeepsFrom.of_grownBy (jcq hg8 _ _) (fun j e => by cases e; omega)
        have B6 : Hid (Below w.heap.size Y1 (w7.setCell ⟨w2.heap.size + 1 + 1, 0, none⟩ (.int .i64 (jdR m q)))) := ((ja0 hg8).mono HI1.out.gr.size).setCell (p := ⟨w2.heap.size + 1 + 1, 0, none⟩) (by dsimp only; omega) _
        have X6 := jae (And.intro (jau (jad HC1.out hg8) (B := w2.heap.size + 1 + 1) (by omega) (.int .i64 (jdR m q))) (And.intro (jau (jad HC2.out hg8) (B := w2.heap.size + 1 + 1) (by omega) (.int .i64 (jdR m q))) (fun D hD => jau (jad (HD1.out D hD) hg8) (DNE.out D hD) (.int .i64 (jdR m q)))))
        clear HI8 hg8 hg7 hg6 hg5 d3 d8 e8
        go_simp
        gi_wp2
        exact ⟨(by first | exact K6.out | (rw [← zY]; exact K6.out)), B6.out, by dsimp only; rw [STP.out]; exact ⟨I6.out, X6.out.1, X6.out.2.1, X6.out.2.2⟩⟩
      case done =>
       rintro D zs X1 hD hzs ⟨hinv, hc1, hc2, hds⟩ hK
       rw [show jjJ zs = wpl W kh kw h v from hzs, ← PS.out] at hinv
       have HI1 := jae hinv
       have ND : Hid (∀ D' ∈ D :: Ds, w.heap.size ≤ D' ∧ X1.heap[D']? = some (.deferred (some []))) := fun D' h' => by
        rcases List.mem_cons.1 h' with rfl | h'
        ·exact ⟨by have := GXs.out; omega, hK⟩
        ·exact ⟨(HDS.out D' h').1, hds D' h'⟩
       have NN : Hid ((D :: Ds).Nodup) := List.nodup_cons.2 ⟨fun h' => by have := DLT.out D h'; omega, HND.out⟩
       clear hinv hc1 hc2 hds hK hzs
       go_wp2
       exact ⟨C.length - (k + 1), by omega, k + 1, D :: Ds, _, _, _, _, _, _, _, _, rfl, by omega, rfl, HI1.out, ND.out, NN.out⟩
      case stop =>
       rintro D c pre W _ _ h _
       exact h.elim
     ·obtain rfl : k = C.length := by omega
      have c3 := hinv.sum.cell
      have HI := jae hinv
      clear hinv hds hnd
      go_wp2
      refine Vw.noPanic_ret ?_
      refine jeG (base := w) Ds _ HI.out.gr HDS.out HND.out (fun W' hg' => ?_)
      refine ⟨_, results_tmp rfl _ _ _, ?_⟩
      exact ⟨rfl, hg'⟩
end Go.Proofs.YtkefdkboejimeaaGreatDoor
namespace Go.Proofs.YtkefdkboejimeaaGreatDoor
open Go.RowKit
theorem jg5 (n : Nat) (hn : n ≤ 1000000) : ∃ M : Array Value, (∀ W : World, (Instr.makeSlice 23 (.int .i64 0) (.int .i64 (n : Int))).run Tryz.prog W = .ok (.slice (some ⟨W.heap.size, 0, none⟩) 0 n) (W.alloc (.cells M 2))) ∧
    ∀ (W : World) (base : Nat), base ≤ W.heap.size → jaI (W.alloc (.cells M 2)) base (.slice (some ⟨W.heap.size, 0, none⟩) 0 n) [] := by
     obtain ⟨j0, hj, jz0, jz1, jz2⟩ := info_parts jdk
     obtain ⟨M1, hM1⟩ : ∃ M, M = madeCells (Value.int .i64 0).cells (((n : Nat) : Int).toNat * j0.size) := ⟨_, rfl⟩
     have E1 : M1.toList = List.replicate n (.int .i64 0) := by rw [hM1, jz1, Nat.mul_one, show (Value.int .i64 0).cells = #[Value.int .i64 0] from rfl, toList_madeCells_one]; simp
     refine ⟨M1, fun W => ?_, fun W base hb => ?_⟩
     ·have h := Go.run_make (P := Tryz.prog) W 23 2 j0 (.int .i64 0) Tryz.underlying23 hj jz0 .i64 .i64 0 (n : Int) (by omega) (by omega) (by rw [jz2]; omega) (by omega)
      rw [← hM1] at h
      simpa using h
     ·refine jcT ⟨by simp, Or.inr ⟨W.heap.size, n, M1, rfl, hb, heap_alloc_new W _, Nat.zero_le _, by simp only [maxLen]; omega, ?_, by simp⟩⟩
      rw [← Array.length_toList, E1, List.length_replicate, Nat.mul_one]
theorem jdF {w : World} {B : Nat} {H kh W kw : Nat} (hb : w.heap[B]? = some (.cells #[.int .i64 H, .int .i64 kh, .int .i64 1, .int .i64 1, .int .i64 0, .int .i64 W, .int .i64 kw, .int .i64 1, .int .i64 1, .int .i64 0] 90 (0, 0))) : w.cell? ⟨B, 0, none⟩ = some (.int .i64 H) ∧ w.cell? ⟨B, 1, none⟩ = some (.int .i64 kh) ∧ w.cell? ⟨B, 2, none⟩ = some (.int .i64 1) ∧ w.cell? ⟨B, 3, none⟩ = some (.int .i64 1) ∧ w.cell? ⟨B, 4, none⟩ = some (.int .i64 0) ∧ w.cell? ⟨B, 5, none⟩ = some (.int .i64 W) ∧ w.cell? ⟨B, 6, none⟩ = some (.int .i64 kw) ∧ w.cell? ⟨B, 7, none⟩ = some (.int .i64 1) ∧ w.cell? ⟨B, 8, none⟩ = some (.int .i64 1) ∧ w.cell? ⟨B, 9, none⟩ = some (.int .i64 0) :=
 ⟨(cell_of_row _ _ 0 _ _ (0, 0) hb).trans rfl, (cell_of_row _ _ 1 _ _ (0, 0) hb).trans rfl, (cell_of_row _ _ 2 _ _ (0, 0) hb).trans rfl, (cell_of_row _ _ 3 _ _ (0, 0) hb).trans rfl, (cell_of_row _ _ 4 _ _ (0, 0) hb).trans rfl, (cell_of_row _ _ 5 _ _ (0, 0) hb).trans rfl, (cell_of_row _ _ 6 _ _ (0, 0) hb).trans rfl, (cell_of_row _ _ 7 _ _ (0, 0) hb).trans rfl, (cell_of_row _ _ 8 _ _ (0, 0) hb).trans rfl, (cell_of_row _ _ 9 _ _ (0, 0) hb).trans rfl⟩
theorem jdG {f : Nat → Nat → Int} (hf : ∀ h v, Rng (f h v)) (ow h w : Nat) : ∀ z ∈ jbI f ow h w, -9223372036854775808 ≤ z ∧ z ≤ 9223372036854775807 := by
 intro z hz
 unfold jbI at hz
 rcases List.mem_append.1 hz with hz | hz
 ·obtain ⟨a, -, hz⟩ := List.mem_flatMap.1 hz
  obtain ⟨b, -, rfl⟩ := List.mem_map.1 hz
  exact hf a b
 ·obtain ⟨b, -, rfl⟩ := List.mem_map.1 hz
  exact hf h b
theorem jlF (H kh W kw oh ow : Nat) (f : Nat → Nat → Int) (dv : Sl) (ds : List Int) (c1 c2 : Nat) (w : World) (hd : IsInts w dv.v ds) (h4 : ds.length = 4) (h2 : ds.getD 2 0 = (oh : Int)) (h3 : ds.getD 3 0 = (ow : Int)) (ho : oh * ow ≤ 65536) (ho1 : oh ≤ 65536) (ho2 : ow ≤ 65536) (hf : ∀ h v, Rng (f h v))
    (CW : ∀ (wx : World) (p1 p2 p3 h v : Nat), w.grownBy wx none → h < oh → v < ow → PlB H kh W kw h v wx p1 p2 p3 → Calls Tryz.prog 62 #[plV p1 p2 p3, .pointer (some ⟨c1, 0, none⟩), .pointer (some ⟨c2, 0, none⟩)] wx fun e w' => e = .returned (.int .i64 (f h v)) ∧ wx.grownBy w' none) :
    Calls Tryz.prog 57 #[.agg #[.int .i64 H, .int .i64 kh, .int .i64 1, .int .i64 1, .int .i64 0, .int .i64 W, .int .i64 kw, .int .i64 1, .int .i64 1, .int .i64 0], .slice dv.a dv.n dv.c, .func (.func 62) #[] #[.pointer (some ⟨c1, 0, none⟩), .pointer (some ⟨c2, 0, none⟩)]] w fun e w' => ∃ s : Sl, e = .returned (.slice s.a s.n s.c) ∧ jaI w' w.heap.size s.v (jbG f oh ow) ∧ w.grownBy w' none := by
     obtain ⟨i0, hi0, hz0, hz1, hz2⟩ := info_parts jdk
     obtain ⟨da, dn, dc⟩ := dv
     obtain ⟨_, _, ed, s1, s2, s3⟩ := hd.sl
     simp only [Sl.v, Value.slice.injEq] at ed hd
     obtain ⟨rfl, rfl, rfl⟩ := ed
     rw [h4] at s1 ⊢
     obtain ⟨bd, od, rfl⟩ := jaM hd (by omega)
     have x2 := jaC hd (k := 2) (by omega)
     have x3 := jaC hd (k := 3) (by omega)
     rw [h2] at x2
     rw [h3] at x3
     obtain ⟨N, hN⟩ : ∃ N, N = oh * ow := ⟨_, rfl⟩
     have HW : Hid (IntKind.i64.wrap ((oh : Int) * (ow : Int)) = (N : Int)) := by
      show _ = _
      rw [← Int.natCast_mul, ← hN]
      exact Vw.wrap_small (by omega) (by omega)
     have HNE := jae hN
     have hN' : N ≤ 65536 := by omega
     obtain ⟨M, mk0, mk1⟩ := jg5 N (by omega)
     have MK1 := jae mk1
     have HCW := jae CW
     have HF := jae hf
     have WP := jae (fun wx h v => jeH H kh W kw h v wx)
     obtain ⟨w0, hw0⟩ : ∃ w0, w0 = w.alloc (.cells #[.int .i64 H, .int .i64 kh, .int .i64 1, .int .i64 1, .int .i64 0, .int .i64 W, .int .i64 kw, .int .i64 1, .int .i64 1, .int .i64 0] 90) := ⟨_, rfl⟩
     have g0 : w.grownBy w0 none := by rw [hw0]; exact jab _ _
     have hb0 := heap_alloc_new w (.cells #[.int .i64 H, .int .i64 kh, .int .i64 1, .int .i64 1, .int .i64 0, .int .i64 W, .int .i64 kw, .int .i64 1, .int .i64 1, .int .i64 0] 90)
     rw [← hw0] at hb0
     have ZL := jae (jab w (.cells #[.int .i64 H, .int .i64 kh, .int .i64 1, .int .i64 1, .int .i64 0, .int .i64 W, .int .i64 kw, .int .i64 1, .int .i64 1, .int .i64 0] 90)).size
     rw [← hw0] at ZL
     have BW : Hid (∀ wx, w0.grownBy wx none → wx.heap[w.heap.size]? = some (.cells #[.int .i64 H, .int .i64 kh, .int .i64 1, .int .i64 1, .int .i64 0, .int .i64 W, .int .i64 kw, .int .i64 1, .int .i64 1, .int .i64 0] 90 (0, 0))) := fun wx hg => jad hb0 hg
     have y2 := jac x2 g0
     have y3 := jac x3 g0
     have X2 := jae x2
     have X3 := jae x3
     have G0 := jae g0
     clear hd h2 h3 CW hf mk1 hb0 x2 x3 h4 hN ho s3 g0
     go_enter Tryz.func57, Tryz.ntmps57
     go_upto_region 1 with fail
     rw [← hw0]
     clear hw0
     have hw : IntKind.i64.wrap ((oh : Int) * (ow : Int)) = (N : Int) := HW.out
     refine wp_region_held_drew (S := fun w' => w0.grownBy w' none) (by kernel_rfl) (jag (jaf _)) (fun hHeld => ?_)
     refine tkE 0 ?_ (hv := by intro wS hSw; go_simp; (try with_reducible rfl))
     try simp only [Act.put]
     refine tkE 1 ?_ (hv := by intro wS hSw; go_simp; (try with_reducible rfl))
     try simp only [Act.put]
     refine tkE 2 ?_ (hv := by intro wS hSw; have c0 := jac y2 hSw; go_simp; (try with_reducible rfl))
     try simp only [Act.put]
     refine tkE 3 ?_ (hv := by intro wS hSw; go_simp; (try with_reducible rfl))
     try simp only [Act.put]
     refine tkE 4 ?_ (hv := by intro wS hSw; go_simp; (try with_reducible rfl))
     try simp only [Act.put]
     refine tkE 5 ?_ (hv := by intro wS hSw; have c0 := jac y3 hSw; go_simp; (try with_reducible rfl))
     try simp only [Act.put]
     refine wpAnyH_take (i := 6) (v := .int .i64 (N : Int)) rfl (by kernel_rfl) (by kernel_rfl) (by kernel_rfl) (fun _ _ _ h => h) (Or.inl ⟨by kernel_rfl, ?_⟩) (by assumption) ?_
     ·(intro wS hSw; go_simp; (try simp only [hw]))
     try simp only [Act.put]
     clear hw
     refine rdA 7 fun K hK => ?_
     go_simp
     generalize hv : (w0.alloc (.cells M 2)).drew = w1
     have g1 : w0.grownBy w1 none := by rw [← hv]; exact jag (jab _ _)
     have O1 : jaI (w0.alloc (.cells M 2)).drew w0.heap.size (.slice (some ⟨w0.heap.size, 0, none⟩) 0 N) [] := MK1.out w0 w0.heap.size (Nat.le_refl _)
     rw [hv] at O1
     refine hK.out _ _ (g1) (fun hHeld => ?_)
     clear hK K
     try simp only [Act.put]
     refine tkE 8 ?_ (hv := by intro wS hSw; go_simp; (try with_reducible rfl))
     try simp only [Act.put]
     refine wpAnyH_done (by kernel_rfl) ?_ _
     have HO1 := jae O1
     have G1 := jae g1
     have r2 := jac y2 g1
     have r3 := jac y3 g1
     have R2 := jae y2
     have R3 := jae y3
     clear O1 g1 hv y2 y3
     go_simp
     go_wp2_with fail
     clear r2 r3
     go_loopg [7, 21] oh (fun gh d i wr => w0.grownBy wr none ∧ ∃ (t T : Nat) (ea : Option Addr) (ec : Nat), gh = oh - t ∧ t ≤ oh ∧ T = t * ow ∧ i = .int .i64 t ∧ d = .slice ea T ec ∧ jaI wr w0.heap.size (.slice ea T ec) (jbI f ow t 0))
     case atStart => exact ⟨G1.out, 0, 0, _, _, rfl, Nat.zero_le _, by simp, rfl, rfl, by simpa [jbI] using HO1.out⟩
     case round =>
      obtain ⟨hg, t, T, ea, ec, hgk, ht, hT, rfl, rfl, ho⟩ := hrel
      have HG := jae hg
      have HO := jae ho
      have HTT := jae hT
      by_cases hlt : t < oh
      ·have r3 := jac R3.out hg
       have l1 : (t : Int) < (oh : Int) := by omega
       obtain ⟨wo, rfl⟩ : ∃ wo, wo = wr := ⟨_, rfl⟩
       clear hg ho hT
       go_wp2_with fail
       clear r3
       go_loopg [7, 27] ow (fun g2 d i wr => w0.grownBy wr none ∧ ∃ (j D : Nat) (ea : Option Addr) (ec : Nat), g2 = ow - j ∧ j ≤ ow ∧ D = T + j ∧ i = .int .i64 j ∧ d = .slice ea D ec ∧ jaI wr w0.heap.size (.slice ea D ec) (jbI f ow t j))
       case atStart => exact ⟨HG.out, 0, T, _, _, rfl, Nat.zero_le _, rfl, rfl, rfl, HO.out⟩
       case round =>
        obtain ⟨hg, j, D, ea, ec, hg2, hj, hD, rfl, rfl, ho⟩ := hrel
        have HG2 := jae hg
        have HO2 := jae ho
        have HD := jae hD
        clear ho hD
        by_cases hjl : j < ow
        ·have l2 : (j : Int) < (ow : Int) := by omega
         obtain ⟨v0, v1, v2, v3, v4, v5, v6, v7, v8, v9⟩ := jdF (BW.out wr hg)
         have HS := jae (jfm f ow t j)
         have ZR := jae (HF.out t j)
         have DL : Hid (D ≤ 65536) := by
          show D ≤ 65536
          have h1 := HD.out
          have h2 := HTT.out
          have h3 := jfK hlt hjl
          have h4 := HNE.out
          omega
         have LN : Hid ((jbI f ow t j).length = D) := by
          show _ = _
          rw [jeD, HD.out, HTT.out]
         have CC : Hid (∀ (wx : World) (p1 p2 p3 : Nat), wr.grownBy wx none → PlB H kh W kw t j wx p1 p2 p3 → Calls Tryz.prog 62 #[plV p1 p2 p3, .pointer (some ⟨c1, 0, none⟩), .pointer (some ⟨c2, 0, none⟩)] wx fun e w' => e = .returned (.int .i64 (f t j)) ∧ wx.grownBy w' none) := fun wx p1 p2 p3 hx hp => HCW.out wx p1 p2 p3 t j (jaa G0.out (jaa HG2.out hx)) hlt hjl hp
         obtain ⟨z, hz⟩ : ∃ z, z = f t j := ⟨_, rfl⟩
         rw [← hz] at CC HS ZR
         clear hg hz
         go_wp2_with fail
         clear v0 v1 v2 v3 v4 v5 v6 v7 v8 v9
         refine (WP.out wr t j).mono ?_
         rintro e w2 ⟨rfl, hp2, hg2'⟩
         have CD := jae (CC.out w2 _ _ _ hg2' hp2)
         unfold plV at CD ⊢
         go_wp2_with fail
         refine CD.out.mono ?_
         rintro e w3 ⟨rfl, hg3'⟩
         have hg3 := jaa hg2' hg3'
         have G3 := jae (jaa HG2.out hg3)
         have hsz : w0.heap.size ≤ w3.heap.size := G3.out.size
         have OW : Hid (∀ o, (w3.alloc o).ownsRow w0.heap.size 2 1 (.slice ea D ec) D ((jbI f ow t j).map (Value.int .i64))) := fun o => jc3 ((HO2.out.more hg3 (by cases (Value.slice ea D ec).ownBlock <;> simp)).more (jab _ o) (by cases (Value.slice ea D ec).ownBlock <;> simp)) LN.out
         have hd2 := DL.out
         clear hg3 hg2' hg3' hp2 CD
         go_wp2_with (at_builtin; refine wpList_append_lies _ rfl (.tmp 30) (.tmp 37) 23 rfl w0.heap.size 2 i0 (.int .i64 0) 1 8 Tryz.underlying23 hi0 hz0 hz1 hz2 rfl (by decide) (.slice ea D ec) D ((jbI f ow t j).map (Value.int .i64)) rfl (by exact OW.out _) ⟨w3.heap.size, 0, none⟩ 1 1 [.int .i64 z] rfl rfl (by exact World.news_of_block (by have h := heap_alloc_new w3 (.cells #[.int .i64 z] 2); simpa using h)) (jhV z) (by omega) (by simp only [maxLen]; omega) (by omega) (by simp; omega) (w3.heap.size + 1) (by simp) ?_; intro gg cap8 w8 hown8 hgrow hat hlt8)
         have ST : Hid (w0.grownBy w8 none ∧ jaI w8 w0.heap.size (.slice (some ⟨gg, 0, none⟩) (D + 1) cap8) (jbI f ow t (j + 1))) := ⟨jah (jaa G3.out (jab _ _)) hgrow (fun r e => (World.ownsRow.lt HO2.out.1 r e).1), by rw [HS.out]; exact jdY LN.out hown8 (by omega) (jdG HF.out ow t j) (by have := ZR.out; unfold Rng at this; omega)⟩
         clear hown8 hgrow hat hlt8
         go_wp2_with fail
         go_roundg (ow - (j + 1))
         case measure => omega
         case rel => exact ⟨ST.out.1, j + 1, D + 1, _, _, rfl, by omega, by have := HD.out; omega, by go_num, rfl, ST.out.2⟩
        ·obtain rfl : j = ow := by omega
         have E : Hid (D = (t + 1) * j) := by show _ = _; rw [HD.out, HTT.out, Nat.add_mul]; omega
         have OE : Hid (jaI wr w0.heap.size (.slice ea D ec) (jbI f j (t + 1) 0)) := by show jaI _ _ _ _; rw [jdS, ← jgr]; exact HO2.out
         clear hg
         go_wp2_with fail
         go_roundg (oh - (t + 1))
         case measure => omega
         case rel => exact ⟨HG2.out, t + 1, D, _, _, rfl, by omega, E.out, by go_num, rfl, OE.out⟩
      ·obtain rfl : t = oh := by omega
       have OE : Hid (jaI wr w0.heap.size (.slice ea T ec) (jbG f t ow)) := by show jaI _ _ _ _; rw [← jdS]; exact HO.out
       clear hg ho hT
       go_wp2
       go_ret
       exact ⟨⟨_, _, _⟩, rfl, ⟨jbD OE.out.1 ZL.out, OE.out.2⟩, jaa G0.out HG.out⟩
theorem jlG (H kh W kw oh ow : Nat) (f : Nat → Nat → Int) (dv : Sl) (ds : List Int) (c1 c2 c3 c4 : Nat) (w : World) (hd : IsInts w dv.v ds) (h4 : ds.length = 4) (h2 : ds.getD 2 0 = (oh : Int)) (h3 : ds.getD 3 0 = (ow : Int)) (ho : oh * ow ≤ 65536) (ho1 : oh ≤ 65536) (ho2 : ow ≤ 65536) (hf : ∀ h v, Rng (f h v))
    (CW : ∀ (wx : World) (p1 p2 p3 h v : Nat), w.grownBy wx none → h < oh → v < ow → PlB H kh W kw h v wx p1 p2 p3 → Calls Tryz.prog 58 #[plV p1 p2 p3, .pointer (some ⟨c1, 0, none⟩), .pointer (some ⟨c2, 0, none⟩), .pointer (some ⟨c3, 0, none⟩), .pointer (some ⟨c4, 0, none⟩)] wx fun e w' => e = .returned (.int .i64 (f h v)) ∧ wx.grownBy w' none) :
    Calls Tryz.prog 57 #[.agg #[.int .i64 H, .int .i64 kh, .int .i64 1, .int .i64 1, .int .i64 0, .int .i64 W, .int .i64 kw, .int .i64 1, .int .i64 1, .int .i64 0], .slice dv.a dv.n dv.c, .func (.func 58) #[] #[.pointer (some ⟨c1, 0, none⟩), .pointer (some ⟨c2, 0, none⟩), .pointer (some ⟨c3, 0, none⟩), .pointer (some ⟨c4, 0, none⟩)]] w fun e w' => ∃ s : Sl, e = .returned (.slice s.a s.n s.c) ∧ jaI w' w.heap.size s.v (jbG f oh ow) ∧ w.grownBy w' none := by
     obtain ⟨i0, hi0, hz0, hz1, hz2⟩ := info_parts jdk
     obtain ⟨da, dn, dc⟩ := dv
     obtain ⟨_, _, ed, s1, s2, s3⟩ := hd.sl
     simp only [Sl.v, Value.slice.injEq] at ed hd
     obtain ⟨rfl, rfl, rfl⟩ := ed
     rw [h4] at s1 ⊢
     obtain ⟨bd, od, rfl⟩ := jaM hd (by omega)
     have x2 := jaC hd (k := 2) (by omega)
     have x3 := jaC hd (k := 3) (by omega)
     rw [h2] at x2
     rw [h3] at x3
     obtain ⟨N, hN⟩ : ∃ N, N = oh * ow := ⟨_, rfl⟩
     have HW : Hid (IntKind.i64.wrap ((oh : Int) * (ow : Int)) = (N : Int)) := by
      show _ = _
      rw [← Int.natCast_mul, ← hN]
      exact Vw.wrap_small (by omega) (by omega)
     have HNE := jae hN
     have hN' : N ≤ 65536 := by omega
     obtain ⟨M, mk0, mk1⟩ := jg5 N (by omega)
     have MK1 := jae mk1
     have HCW := jae CW
     have HF := jae hf
     have WP := jae (fun wx h v => jeH H kh W kw h v wx)
     obtain ⟨w0, hw0⟩ : ∃ w0, w0 = w.alloc (.cells #[.int .i64 H, .int .i64 kh, .int .i64 1, .int .i64 1, .int .i64 0, .int .i64 W, .int .i64 kw, .int .i64 1, .int .i64 1, .int .i64 0] 90) := ⟨_, rfl⟩
     have g0 : w.grownBy w0 none := by rw [hw0]; exact jab _ _
     have hb0 := heap_alloc_new w (.cells #[.int .i64 H, .int .i64 kh, .int .i64 1, .int .i64 1, .int .i64 0, .int .i64 W, .int .i64 kw, .int .i64 1, .int .i64 1, .int .i64 0] 90)
     rw [← hw0] at hb0
     have ZL := jae (jab w (.cells #[.int .i64 H, .int .i64 kh, .int .i64 1, .int .i64 1, .int .i64 0, .int .i64 W, .int .i64 kw, .int .i64 1, .int .i64 1, .int .i64 0] 90)).size
     rw [← hw0] at ZL
     have BW : Hid (∀ wx, w0.grownBy wx none → wx.heap[w.heap.size]? = some (.cells #[.int .i64 H, .int .i64 kh, .int .i64 1, .int .i64 1, .int .i64 0, .int .i64 W, .int .i64 kw, .int .i64 1, .int .i64 1, .int .i64 0] 90 (0, 0))) := fun wx hg => jad hb0 hg
     have y2 := jac x2 g0
     have y3 := jac x3 g0
     have X2 := jae x2
     have X3 := jae x3
     have G0 := jae g0
     clear hd h2 h3 CW hf mk1 hb0 x2 x3 h4 hN ho s3 g0
     go_enter Tryz.func57, Tryz.ntmps57
     go_upto_region 1 with fail
     rw [← hw0]
     clear hw0
     have hw : IntKind.i64.wrap ((oh : Int) * (ow : Int)) = (N : Int) := HW.out
     refine wp_region_held_drew (S := fun w' => w0.grownBy w' none) (by kernel_rfl) (jag (jaf _)) (fun hHeld => ?_)
     refine tkE 0 ?_ (hv := by intro wS hSw; go_simp; (try with_reducible rfl))
     try simp only [Act.put]
     refine tkE 1 ?_ (hv := by intro wS hSw; go_simp; (try with_reducible rfl))
     try simp only [Act.put]
     refine tkE 2 ?_ (hv := by intro wS hSw; have c0 := jac y2 hSw; go_simp; (try with_reducible rfl))
     try simp only [Act.put]
     refine tkE 3 ?_ (hv := by intro wS hSw; go_simp; (try with_reducible rfl))
     try simp only [Act.put]
     refine tkE 4 ?_ (hv := by intro wS hSw; go_simp; (try with_reducible rfl))
     try simp only [Act.put]
     refine tkE 5 ?_ (hv := by intro wS hSw; have c0 := jac y3 hSw; go_simp; (try with_reducible rfl))
     try simp only [Act.put]
     refine wpAnyH_take (i := 6) (v := .int .i64 (N : Int)) rfl (by kernel_rfl) (by kernel_rfl) (by kernel_rfl) (fun _ _ _ h => h) (Or.inl ⟨by kernel_rfl, ?_⟩) (by assumption) ?_
     ·(intro wS hSw; go_simp; (try simp only [hw]))
     try simp only [Act.put]
     clear hw
     refine rdA 7 fun K hK => ?_
     go_simp
     generalize hv : (w0.alloc (.cells M 2)).drew = w1
     have g1 : w0.grownBy w1 none := by rw [← hv]; exact jag (jab _ _)
     have O1 : jaI (w0.alloc (.cells M 2)).drew w0.heap.size (.slice (some ⟨w0.heap.size, 0, none⟩) 0 N) [] := MK1.out w0 w0.heap.size (Nat.le_refl _)
     rw [hv] at O1
     refine hK.out _ _ (g1) (fun hHeld => ?_)
     clear hK K
     try simp only [Act.put]
     refine tkE 8 ?_ (hv := by intro wS hSw; go_simp; (try with_reducible rfl))
     try simp only [Act.put]
     refine wpAnyH_done (by kernel_rfl) ?_ _
     have HO1 := jae O1
     have G1 := jae g1
     have r2 := jac y2 g1
     have r3 := jac y3 g1
     have R2 := jae y2
     have R3 := jae y3
     clear O1 g1 hv y2 y3
     go_simp
     go_wp2_with fail
     clear r2 r3
     go_loopg [7, 21] oh (fun gh d i wr => w0.grownBy wr none ∧ ∃ (t T : Nat) (ea : Option Addr) (ec : Nat), gh = oh - t ∧ t ≤ oh ∧ T = t * ow ∧ i = .int .i64 t ∧ d = .slice ea T ec ∧ jaI wr w0.heap.size (.slice ea T ec) (jbI f ow t 0))
     case atStart => exact ⟨G1.out, 0, 0, _, _, rfl, Nat.zero_le _, by simp, rfl, rfl, by simpa [jbI] using HO1.out⟩
     case round =>
      obtain ⟨hg, t, T, ea, ec, hgk, ht, hT, rfl, rfl, ho⟩ := hrel
      have HG := jae hg
      have HO := jae ho
      have HTT := jae hT
      by_cases hlt : t < oh
      ·have r3 := jac R3.out hg
       have l1 : (t : Int) < (oh : Int) := by omega
       obtain ⟨wo, rfl⟩ : ∃ wo, wo = wr := ⟨_, rfl⟩
       clear hg ho hT
       go_wp2_with fail
       clear r3
       go_loopg [7, 27] ow (fun g2 d i wr => w0.grownBy wr none ∧ ∃ (j D : Nat) (ea : Option Addr) (ec : Nat), g2 = ow - j ∧ j ≤ ow ∧ D = T + j ∧ i = .int .i64 j ∧ d = .slice ea D ec ∧ jaI wr w0.heap.size (.slice ea D ec) (jbI f ow t j))
       case atStart => exact ⟨HG.out, 0, T, _, _, rfl, Nat.zero_le _, rfl, rfl, rfl, HO.out⟩
       case round =>
        obtain ⟨hg, j, D, ea, ec, hg2, hj, hD, rfl, rfl, ho⟩ := hrel
        have HG2 := jae hg
        have HO2 := jae ho
        have HD := jae hD
        clear ho hD
        by_cases hjl : j < ow
        ·have l2 : (j : Int) < (ow : Int) := by omega
         obtain ⟨v0, v1, v2, v3, v4, v5, v6, v7, v8, v9⟩ := jdF (BW.out wr hg)
         have HS := jae (jfm f ow t j)
         have ZR := jae (HF.out t j)
         have DL : Hid (D ≤ 65536) := by
          show D ≤ 65536
          have h1 := HD.out
          have h2 := HTT.out
          have h3 := jfK hlt hjl
          have h4 := HNE.out
          omega
         have LN : Hid ((jbI f ow t j).length = D) := by
          show _ = _
          rw [jeD, HD.out, HTT.out]
         have CC : Hid (∀ (wx : World) (p1 p2 p3 : Nat), wr.grownBy wx none → PlB H kh W kw t j wx p1 p2 p3 → Calls Tryz.prog 58 #[plV p1 p2 p3, .pointer (some ⟨c1, 0, none⟩), .pointer (some ⟨c2, 0, none⟩), .pointer (some ⟨c3, 0, none⟩), .pointer (some ⟨c4, 0, none⟩)] wx fun e w' => e = .returned (.int .i64 (f t j)) ∧ wx.grownBy w' none) := fun wx p1 p2 p3 hx hp => HCW.out wx p1 p2 p3 t j (jaa G0.out (jaa HG2.out hx)) hlt hjl hp
         obtain ⟨z, hz⟩ : ∃ z, z = f t j := ⟨_, rfl⟩
         rw [← hz] at CC HS ZR
         clear hg hz
         go_wp2_with fail
         clear v0 v1 v2 v3 v4 v5 v6 v7 v8 v9
         refine (WP.out wr t j).mono ?_
         rintro e w2 ⟨rfl, hp2, hg2'⟩
         have CD := jae (CC.out w2 _ _ _ hg2' hp2)
         unfold plV at CD ⊢
         go_wp2_with fail
         refine CD.out.mono ?_
         rintro e w3 ⟨rfl, hg3'⟩
         have hg3 := jaa hg2' hg3'
         have G3 := jae (jaa HG2.out hg3)
         have hsz : w0.heap.size ≤ w3.heap.size := G3.out.size
         have OW : Hid (∀ o, (w3.alloc o).ownsRow w0.heap.size 2 1 (.slice ea D ec) D ((jbI f ow t j).map (Value.int .i64))) := fun o => jc3 ((HO2.out.more hg3 (by cases (Value.slice ea D ec).ownBlock <;> simp)).more (jab _ o) (by cases (Value.slice ea D ec).ownBlock <;> simp)) LN.out
         have hd2 := DL.out
         clear hg3 hg2' hg3' hp2 CD
         go_wp2_with (at_builtin; refine wpList_append_lies _ rfl (.tmp 30) (.tmp 37) 23 rfl w0.heap.size 2 i0 (.int .i64 0) 1 8 Tryz.underlying23 hi0 hz0 hz1 hz2 rfl (by decide) (.slice ea D ec) D ((jbI f ow t j).map (Value.int .i64)) rfl (by exact OW.out _) ⟨w3.heap.size, 0, none⟩ 1 1 [.int .i64 z] rfl rfl (by exact World.news_of_block (by have h := heap_alloc_new w3 (.cells #[.int .i64 z] 2); simpa using h)) (jhV z) (by omega) (by simp only [maxLen]; omega) (by omega) (by simp; omega) (w3.heap.size + 1) (by simp) ?_; intro gg cap8 w8 hown8 hgrow hat hlt8)
         have ST : Hid (w0.grownBy w8 none ∧ jaI w8 w0.heap.size (.slice (some ⟨gg, 0, none⟩) (D + 1) cap8) (jbI f ow t (j + 1))) := ⟨jah (jaa G3.out (jab _ _)) hgrow (fun r e => (World.ownsRow.lt HO2.out.1 r e).1), by rw [HS.out]; exact jdY LN.out hown8 (by omega) (jdG HF.out ow t j) (by have := ZR.out; unfold Rng at this; omega)⟩
         clear hown8 hgrow hat hlt8
         go_wp2_with fail
         go_roundg (ow - (j + 1))
         case measure => omega
         case rel => exact ⟨ST.out.1, j + 1, D + 1, _, _, rfl, by omega, by have := HD.out; omega, by go_num, rfl, ST.out.2⟩
        ·obtain rfl : j = ow := by omega
         have E : Hid (D = (t + 1) * j) := by show _ = _; rw [HD.out, HTT.out, Nat.add_mul]; omega
         have OE : Hid (jaI wr w0.heap.size (.slice ea D ec) (jbI f j (t + 1) 0)) := by show jaI _ _ _ _; rw [jdS, ← jgr]; exact HO2.out
         clear hg
         go_wp2_with fail
         go_roundg (oh - (t + 1))
         case measure => omega
         case rel => exact ⟨HG2.out, t + 1, D, _, _, rfl, by omega, E.out, by go_num, rfl, OE.out⟩
      ·obtain rfl : t = oh := by omega
       have OE : Hid (jaI wr w0.heap.size (.slice ea T ec) (jbG f t ow)) := by show jaI _ _ _ _; rw [← jdS]; exact HO.out
       clear hg ho hT
       go_wp2
       go_ret
       exact ⟨⟨_, _, _⟩, rfl, ⟨jbD OE.out.1 ZL.out, OE.out.2⟩, jaa G0.out HG.out⟩
end Go.Proofs.YtkefdkboejimeaaGreatDoor
