/- A part. -/
import Derived.Test.YtbgbpfbjeleooaaGreatQartAT
import Derived.Deep.LoopGhost
set_option maxHeartbeats 12800000
set_option maxRecDepth 100000
namespace Go.Proofs.YtbgbpfbjeleooaaGreat.Pd
open Go.RowKit
open Wr (Fld)
def TInv (st : TSt) (r : List Fld) : Prop := st.dims.length + jfP r ≤ 33554432 ∧ st.p.fl.length + jfP r ≤ 33554432 ∧ st.p.i32.length + jfP r ≤ 33554432 ∧ st.p.i64.length + jfP r ≤ 33554432 ∧ (-9223372036854775808 ≤ st.ty ∧ st.ty ≤ 9223372036854775807) ∧ st.p.raw.size ≤ 16777216 ∧ ∀ y ∈ r, y.b.size ≤ 16777216
theorem jdE {sd lf lg lh : List Int} {ty : Int} {nam raw : ByteArray} {r : List Fld} (h1 : sd.length + jfP r ≤ 33554432) (h2 : lf.length + jfP r ≤ 33554432) (h3 : lg.length + jfP r ≤ 33554432) (h4 : lh.length + jfP r ≤ 33554432) (h5 : -9223372036854775808 ≤ ty ∧ ty ≤ 9223372036854775807) (h6 : raw.size ≤ 16777216) (h7 : ∀ y ∈ r, y.b.size ≤ 16777216) : TInv ⟨sd, ty, nam, ⟨lf, lg, lh, raw⟩⟩ r := ⟨h1, h2, h3, h4, h5, h6, h7⟩
theorem jeY {w : World} {base b : Nat} {v : Value} {zs : List Int} (h : jen w base v zs) (hb : b < base) : v.ownBlock = none ∨ v.ownBlock ≠ some b := by
 cases e : v.ownBlock with
 | none => exact .inl rfl
 | some g => exact .inr (fun e2 => by cases e2; have := (h.lt b e).1; omega)
theorem jeZ {w : World} {base b : Nat} {v : Value} {zs : List Int} (h : O64 w base v zs) (hb : b < base) : v.ownBlock = none ∨ v.ownBlock ≠ some b := by
 cases e : v.ownBlock with
 | none => exact .inl rfl
 | some g => exact .inr (fun e2 => by cases e2; have := h.ge e; omega)
theorem jgq {w3 : World} {B : Nat} {z0 z1 z2 z3 : Value} {t : TypeId} (a b c d : Value) (hb : w3.heap[B]? = some (.cells #[z0, z1, z2, z3] t (0, 0))) :
    ((((w3.setCell ⟨B, 0, none⟩ a).setCell ⟨B, 1, none⟩ b).setCell ⟨B, 2, none⟩ c).setCell ⟨B, 3, none⟩ d).heap[B]? = some (.cells #[a, b, c, d] t (0, 0)) ∧ w3.grownBy ((((w3.setCell ⟨B, 0, none⟩ a).setCell ⟨B, 1, none⟩ b).setCell ⟨B, 2, none⟩ c).setCell ⟨B, 3, none⟩ d) (some B) := by
     have h1 := heap_setCell_same w3 B 0 _ _ a hb
     have h2 := heap_setCell_same _ B 1 _ _ b h1
     have h3 := heap_setCell_same _ B 2 _ _ c h2
     have h4 := heap_setCell_same _ B 3 _ _ d h3
     exact ⟨by simpa using h4, Wr.row_trans (Wr.row_trans (Wr.row_trans (jap w3 B 0 a) (jap _ B 1 b)) (jap _ B 2 c)) (jap _ B 3 d)⟩
theorem jjy : (Tryz.prog.info? 67).map (·.size) = some 4 := by kernel_rfl
theorem jjz {fn : Func} {p : Tmp} (h : fn.results = #[.cell p 67]) (tmps : Array Value) (w : World) (B : Nat) (hp : tmps.getD p undef = .pointer (some ⟨B, 0, none⟩)) {a0 a1 a2 a3 : Value}
    (hb : w.heap[B]? = some (.cells #[a0, a1, a2, a3] 67 (0, 0))) : (results fn tmps).run Tryz.prog w = .ok (.agg #[a0, a1, a2, a3]) w :=
     results_cell_row h tmps w B 67 #[a0, a1, a2, a3] (0, 0) _ hp hb Tryz.underlying67 rfl (by rw [jjy]; rfl)
theorem jb5 {w w2 w3 : World} {lo B : Nat} {y : Fld} {r : List Fld} {v : Value} {zs : List Int} (ho : O64 w2 (B + 1) v zs) (hg : w2.grownBy w3 v.ownBlock) (hc : jc6 w2 lo B y r) (h0 : w.grownBy w2 none) (hB : w.heap.size ≤ B) :
    (∀ b, b ≤ B → w3.heap[b]? = w2.heap[b]?) ∧ jc6 w3 lo B y r ∧ w.grownBy w3 none :=
     ⟨fun b hb => hg.block b (by have := hc.lt; omega) (fun e => by have := ho.ge e.symm; omega), hc.kept hg (fun g e => .inr (by have := ho.ge e; omega)), jaf h0 hg (fun g e => .inr (by have := ho.ge e; omega))⟩
theorem jds {w w3 : World} {lo B b0 j base : Nat} {y : Fld} {r : List Fld} (a : Value) {d f g h : Value} {ld lf lg lh : List Int} (hc : jc6 w3 lo B y r) (h0 : w.grownBy w3 none) (h4 : Four w3 base d f g h ld lf lg lh) (hb : b0 < lo) (hw : w.heap.size ≤ b0) (hl : lo ≤ base) :
    (∀ b, b ≠ b0 → b < w3.heap.size → (w3.setCell ⟨b0, j, none⟩ a).heap[b]? = w3.heap[b]?) ∧ jc6 (w3.setCell ⟨b0, j, none⟩ a) lo B y r ∧ w.grownBy (w3.setCell ⟨b0, j, none⟩ a) none ∧ Four (w3.setCell ⟨b0, j, none⟩ a) base d f g h ld lf lg lh :=
     have hg := jap w3 b0 j a
     ⟨fun b hne hl => hg.block b hl (fun e => hne (Option.some.inj e)), hc.kept hg (fun g e => .inl (by cases e; exact hb)), jaf h0 hg (fun g e => .inr (by cases e; exact hw)), h4.box hg (by omega)⟩
theorem jas (w : World) (a : Array Value) (t : TypeId) : (w.alloc (.cells a t)).heap.size = w.heap.size + 1 := by simp
theorem jbS (w : World) (a b c : Array Value) (t u v : TypeId) : (((w.alloc (.cells a t)).alloc (.cells b u)).alloc (.cells c v)).heap[w.heap.size]? = some (.cells a t (0, 0)) :=
 ((jab _ (.cells c v)).block _ (by rw [jas, jas]; omega) (by simp)).trans (((jab _ (.cells b u)).block _ (by rw [jas]; omega) (by simp)).trans (heap_alloc_new w _))
theorem jbD (w : World) (a b c : Array Value) (t u v : TypeId) : (((w.alloc (.cells a t)).alloc (.cells b u)).alloc (.cells c v)).heap[w.heap.size + 1]? = some (.cells b u (0, 0)) := by
 have h := heap_alloc_new (w.alloc (.cells a t)) (.cells b u)
 rw [jas] at h
 exact ((jab _ (.cells c v)).block _ (by rw [jas, jas]; omega) (by simp)).trans h
theorem jbT (w : World) (a b c : Array Value) (t u v : TypeId) : (((w.alloc (.cells a t)).alloc (.cells b u)).alloc (.cells c v)).heap[w.heap.size + 1 + 1]? = some (.cells c v (0, 0)) := by
 have h := heap_alloc_new ((w.alloc (.cells a t)).alloc (.cells b u)) (.cells c v)
 rw [jas, jas] at h
 exact h
theorem jiJ {s : ByteArray} {l : List Fld} (h : ja1 s = .ok l) : TInv t0 l := by
 have h1 := jcq h
 have h2 := jbg h
 have hc : jfP l ≤ 33554432 := by unfold jfP; omega
 refine ⟨by simpa [t0] using hc, by simpa [t0] using hc, by simpa [t0] using hc, by simpa [t0] using hc, by decide, by decide, fun y hy => jdB h y hy⟩
theorem jlX {x : Fld} {q : ByteArray} (h : jbH x = .ok q) : x.b = q := by
 unfold jbH at h
 rcases jbW x 2 with h1 | h1
 ·rw [h1] at h; cases h; rfl
 ·rw [h1] at h; cases h
theorem jbz (s : ByteArray) (w : World) (hs : s.size ≤ 9223372036854775807) :
    Calls Tryz.prog 82 #[.string s] w (jbJ w (jau s) fun T v w' => ∃ d t : Sl, v = .agg #[.string T.name, .int .i64 T.ty, .slice d.a d.n d.c, .slice t.a t.n t.c] ∧ jen w' w.heap.size d.v T.dims ∧ O64 w' w.heap.size t.v T.data) := by
     have O := jac (fun wx => jcw s wx hs)
     obtain ⟨w0, hw0⟩ : ∃ w0, w0 = ((w.alloc (.cells #[.string ⟨#[]⟩, .int .i64 0, .slice none 0 0, .slice none 0 0] 67)).alloc (.cells #[.string ⟨#[]⟩, .int .i64 0, .slice none 0 0, .slice none 0 0] 67)).alloc (.cells #[.slice none 0 0, .slice none 0 0, .slice none 0 0, .string ⟨#[]⟩] 166) := ⟨_, rfl⟩
     have g0 : w.grownBy w0 none := by rw [hw0]; exact jaa (jaa (jab _ _) (jab _ _)) (jab _ _)
     have hbR : w0.heap[w.heap.size]? = some (.cells #[.string ⟨#[]⟩, .int .i64 0, .slice none 0 0, .slice none 0 0] 67 (0, 0)) := by rw [hw0]; exact jbS _ _ _ _ _ _ _
     have hbT : w0.heap[w.heap.size + 1]? = some (.cells #[.string ⟨#[]⟩, .int .i64 0, .slice none 0 0, .slice none 0 0] 67 (0, 0)) := by rw [hw0]; exact jbD _ _ _ _ _ _ _
     have hbP : w0.heap[w.heap.size + 1 + 1]? = some (.cells #[.slice none 0 0, .slice none 0 0, .slice none 0 0, .string ⟨#[]⟩] 166 (0, 0)) := by rw [hw0]; exact jbT _ _ _ _ _ _ _
     have S0 : w0.heap.size = w.heap.size + 3 := by rw [hw0, jas, jas, jas]
     rcases ja8 s with ⟨l, hl⟩ | ⟨c, hc, -⟩
     ·rw [hl] at O
      have FL := jac hl
      have E0 : Hid (jau s = (jaA jaN t0 l).bind fun t => (jdy (pbE t.ty t.dims (jdd t.ty t.p))).bind fun _ => (jai (jaL [t.name]) 6).bind fun _ => .ok ⟨t.name, t.ty, t.dims, jdd t.ty t.p⟩) := by show _ = _; unfold jau; rw [hl]; rfl
      clear hl
      go_enter Tryz.func82, Tryz.ntmps82
      go_wp2_with fail
      rw [← hw0]
      refine (O.out w0).mono ?_
      rintro e w1 ⟨hg1, v, rfl, B, rfl, hcur⟩
      obtain ⟨lo, hlo⟩ : ∃ lo, lo = w0.heap.size := ⟨_, rfl⟩
      rw [← hlo] at hcur S0
      have LB : lo ≤ B := by obtain ⟨_, _, _, _, h⟩ := hcur; exact h
      obtain ⟨bR, hR⟩ : ∃ b, b = w.heap.size := ⟨_, rfl⟩
      obtain ⟨bT, hT⟩ : ∃ b, b = w.heap.size + 1 := ⟨_, rfl⟩
      obtain ⟨bP, hP⟩ : ∃ b, b = w.heap.size + 1 + 1 := ⟨_, rfl⟩
      rw [← hR] at hbR
      rw [← hP] at hbP ⊢
      rw [← hT] at hbT ⊢
      rw [← hR]
      have BT : Hid (bT ≤ B ∧ bP ≤ B ∧ bR ≤ B) := ⟨by omega, by omega, by omega⟩
      have BL : Hid (bP < lo ∧ w.heap.size ≤ bP ∧ (bT < lo ∧ w.heap.size ≤ bT) ∧ lo ≤ B + 1) := ⟨by omega, by omega, ⟨by omega, by omega⟩, by omega⟩
      have BN : Hid (bT ≠ bP ∧ bR ≠ bP ∧ bR ≠ bT) := ⟨by omega, by omega, by omega⟩
      have HB : Hid (w.heap.size ≤ B) := by show w.heap.size ≤ B; omega
      have RI : Hid (bR = w.heap.size) := hR
      have R1 : w1.heap[bR]? = some (.cells #[.string ⟨#[]⟩, .int .i64 0, .slice none 0 0, .slice none 0 0] 67 (0, 0)) := (hg1.block bR (by omega) (by simp)).trans hbR
      have T1 : w1.heap[bT]? = some (.cells #[.string ⟨#[]⟩, .int .i64 0, .slice none 0 0, .slice none 0 0] 67 (0, 0)) := (hg1.block bT (by omega) (by simp)).trans hbT
      have P1 : w1.heap[bP]? = some (.cells #[.slice none 0 0, .slice none 0 0, .slice none 0 0, .string ⟨#[]⟩] 166 (0, 0)) := (hg1.block bP (by omega) (by simp)).trans hbP
      have IN : TInv t0 l := jiJ FL.out
      have G1 := jaa g0 hg1
      clear hbR hbT hbP g0 hg1 hw0 S0 hlo LB hR hT hP
      go_wp2_with fail
      go_loopg [4] l.length (fun gh dims wr => ∃ (x : Fld) (r : List Fld) (st : TSt) (d f g h : Sl), gh = r.length ∧ dims = .slice d.a d.n d.c ∧ wr.heap[bR]? = some (.cells #[.string ⟨#[]⟩, .int .i64 0, .slice none 0 0, .slice none 0 0] 67 (0, 0)) ∧ wr.heap[bT]? = some (.cells #[.string st.name, .int .i64 st.ty, .slice none 0 0, .slice none 0 0] 67 (0, 0)) ∧ wr.heap[bP]? = some (.cells #[.slice f.a f.n f.c, .slice g.a g.n g.c, .slice h.a h.n h.c, .string st.p.raw] 166 (0, 0)) ∧ Four wr (B + 1) d.v f.v g.v h.v st.dims st.p.fl st.p.i32 st.p.i64 ∧ jc6 wr lo B x r ∧ w.grownBy wr none ∧ jaA jaN t0 l = jaA jaN st r ∧ TInv st r)
      case atStart => exact ⟨_, l, t0, ⟨none, 0, 0⟩, ⟨none, 0, 0⟩, ⟨none, 0, 0⟩, ⟨none, 0, 0⟩, rfl, rfl, R1, T1, P1, Four.nil _ _, hcur, G1, rfl, IN⟩
      case round =>
       obtain ⟨x, r, ⟨sd, ty, nam, ⟨lf, lg, lh, raw⟩⟩, ⟨da, dn, dc⟩, ⟨fa, fn, fc⟩, ⟨ga, gn, gc⟩, ⟨ha, hn, hc⟩, rfl, rfl, hR, hT, hP, h4, hcu, hg, hf, hin⟩ := hrel
       simp only [Sl.v] at h4
       have HF := jac hf
       have HC := jac hcu
       have HG := jac hg
       have HI : Hid (sd.length + jfP r ≤ 33554432 ∧ lf.length + jfP r ≤ 33554432 ∧ lg.length + jfP r ≤ 33554432 ∧ lh.length + jfP r ≤ 33554432 ∧ (-9223372036854775808 ≤ ty ∧ ty ≤ 9223372036854775807) ∧ raw.size ≤ 16777216 ∧ ∀ y ∈ r, y.b.size ≤ 16777216) := hin
       have LOB : Hid (lo ≤ B) := by obtain ⟨_, _, _, _, h⟩ := hcu; exact h
       have H4 := jac h4
       have HR := jac hR
       have HT := jac hT
       have HP := jac hP
       clear hf hcu hg hin h4 hR hT hP hcur R1 T1 P1 IN G1
       cases r with
       | nil =>
        have NX := jac (jbN _ B x wr HC.out)
        have E1 : Hid (jau s = (jdy (pbE ty sd (jdd ty ⟨lf, lg, lh, raw⟩))).bind fun _ => (jai (jaL [nam]) 6).bind fun _ => .ok ⟨nam, ty, sd, jdd ty ⟨lf, lg, lh, raw⟩⟩) := by show _ = _; rw [E0.out, HF.out]; rfl
        have TI := jac (jiH (.slice da dn dc) sd wr H4.out.od.ints (by have := HI.out.1; omega))
        go_wp2_with fail
        refine NX.out.mono ?_
        rintro e w2 ⟨rfl, rfl⟩
        go_wp2_with fail
        refine TI.out.mono ?_
        rintro e w3 ⟨hg3, ⟨ua, un, uc⟩, rfl, ho3⟩
        have C3 := jac (HC.out.more hg3)
        have G3 := jac (jaa HG.out hg3)
        have F3 := jac (H4.out.new hg3)
        have T3 := jac ((hg3.block bT (by have := HC.out.lt; have := BT.out; omega) (by simp)).trans HT.out)
        have P3 := jac ((hg3.block bP (by have := HC.out.lt; have := BT.out; omega) (by simp)).trans HP.out)
        have R3 := jac ((hg3.block bR (by have := HC.out.lt; have := BT.out; omega) (by simp)).trans HR.out)
        have n1 : bT ≠ bP := BN.out.1
        have n2 : bP ≠ bT := BN.out.1.symm
        obtain ⟨⟨t0, t1, t2, t3⟩, tf0, tf1, tf2, tf3⟩ := jaV T3.out
        obtain ⟨⟨p0, p1, p2, p3⟩, -⟩ := jaV P3.out
        have K4 := jac (jds (j := 2) (.slice ua un uc) C3.out G3.out F3.out BL.out.2.2.1.1 BL.out.2.2.1.2 BL.out.2.2.2)
        have T4 := jac ((jlu T3.out (.slice ua un uc)).2.2.1)
        have P4 := jac ((K4.out.1 bP n2 (by have := C3.out.lt; have := BT.out; omega)).trans P3.out)
        have R4 := jac ((K4.out.1 bR BN.out.2.2 (by have := C3.out.lt; have := BT.out; omega)).trans R3.out)
        have O4 := jac (ho3.more (jap w3 bT 2 (.slice ua un uc)) (jeY ho3 (by have := HC.out.lt; have := BT.out; omega)))
        have SZ : Hid (lo + 1 ≤ wr.heap.size ∧ w.heap.size ≤ wr.heap.size ∧ bT < wr.heap.size) := ⟨by have := HC.out.lt; have := LOB.out; omega, HG.out.size, by have := HC.out.lt; have := BT.out; omega⟩
        clear hg3 ho3 TI NX HC HG H4 HT HP HR
        go_wp2_with fail
        obtain ⟨w4, hw4⟩ : ∃ w4, w4 = w3.setCell ⟨bT, 2, none⟩ (.slice ua un uc) := ⟨_, rfl⟩
        rw [← hw4] at K4 T4 P4 R4 O4 ⊢
        clear hw4 t0 t1 t2 t3 tf0 tf1 tf2 tf3 p0 p1 p2 p3
        refine (jkG ty ⟨lf, lg, lh, raw⟩ (.slice fa fn fc) (.slice ga gn gc) (.slice ha hn hc) (B + 1) w4 K4.out.2.2.2.of K4.out.2.2.2.og K4.out.2.2.2.oh HI.out.2.2.2.2.2.1 (by have := K4.out.2.1.lt; omega)).mono ?_
        rintro e w5 ⟨hg5, v5, rfl, ho5⟩
        obtain ⟨ya, yc, rfl⟩ := ho5.form
        obtain ⟨dat, hdat⟩ : ∃ l, l = jdd ty ⟨lf, lg, lh, raw⟩ := ⟨_, rfl⟩
        rw [← hdat] at E1 ho5 ⊢
        clear hdat
        have hl4 := K4.out.2.1.lt
        have G5 := jac (jaa K4.out.2.2.1 hg5)
        have T5 := jac ((hg5.block bT (by have := BT.out; omega) (by simp)).trans T4.out)
        have R5 := jac ((hg5.block bR (by have := BT.out; omega) (by simp)).trans R4.out)
        have O5 := jac (O4.out.new hg5)
        have LT5 : Hid (bT < w5.heap.size ∧ bR < w5.heap.size) := by have := BT.out; have := hg5.size; exact ⟨by omega, by omega⟩
        obtain ⟨⟨t0, t1, t2, t3⟩, tf0, tf1, tf2, tf3⟩ := jaV T5.out
        have T6 := jac ((jlu T5.out (.slice ya dat.length yc)).2.2.2)
        have G6 := jac (jaf (row := none) G5.out (jap w5 bT 3 (.slice ya dat.length yc)) (fun g e => by cases e; exact .inr BL.out.2.2.1.2))
        have R6 := jac (((jap w5 bT 3 (.slice ya dat.length yc)).block bR LT5.out.2 (fun e => BN.out.2.2 (Option.some.inj e))).trans R5.out)
        have O6 := jac (O5.out.more (jap w5 bT 3 (.slice ya dat.length yc)) (jeY O5.out (by have := SZ.out; omega)))
        have D6 := jac (ho5.more (jap w5 bT 3 (.slice ya dat.length yc)) (jeZ ho5 (by have := BT.out; omega)))
        have S6 : Hid (bT < (w5.setCell ⟨bT, 3, none⟩ (.slice ya dat.length yc)).heap.size ∧ bR < (w5.setCell ⟨bT, 3, none⟩ (.slice ya dat.length yc)).heap.size) := by have h1 := (jap w5 bT 3 (.slice ya dat.length yc)).size; have := LT5.out; exact ⟨by omega, by omega⟩
        have DL := jac ho5.2.1
        clear hg5 ho5 T5 R5 O5 K4 T4 P4 R4 O4 C3 G3 F3 T3 P3 R3 hl4 n1 n2
        go_wp2_with fail
        obtain ⟨w6, hw6⟩ : ∃ w6, w6 = w5.setCell ⟨bT, 3, none⟩ (.slice ya dat.length yc) := ⟨_, rfl⟩
        rw [← hw6] at T6 G6 R6 O6 D6 S6 ⊢
        clear hw6 t0 t1 t2 t3 tf0 tf1 tf2 tf3
        refine (jeg ty (.slice ua un uc) (.slice ya dat.length yc) sd dat w6 O6.out.ints D6.out.ints).mono ?_
        rintro e w7 ⟨rfl, hg7⟩
        have G7 := jac (jaa G6.out hg7)
        have T7 := jac ((hg7.block bT S6.out.1 (by simp)).trans T6.out)
        have R7 := jac ((hg7.block bR S6.out.2 (by simp)).trans R6.out)
        have O7 := jac (O6.out.new hg7)
        have D7 := jac (D6.out.new hg7)
        have S7 : Hid (bT < w7.heap.size ∧ bR < w7.heap.size) := by have := hg7.size; have := S6.out; exact ⟨by omega, by omega⟩
        clear hg7 T6 R6 O6 D6 S6 G6
        obtain ⟨ce, hce⟩ : ∃ c, c = pbE ty sd dat := ⟨_, rfl⟩
        rw [← hce] at E1 ⊢
        clear hce
        obtain ⟨⟨t0, t1, t2, t3⟩, -⟩ := jaV T7.out
        by_cases h0 : ce = 0
        ·have E2 : Hid (jau s = (jai (jaL [nam]) 6).bind fun _ => .ok ⟨nam, ty, sd, dat⟩) := by show _ = _; rw [E1.out, h0]; rfl
         rw [h0]
         clear E1 h0
         have TL := jac (jaQ (.slice (some ⟨w7.heap.size, 0, none⟩) 1 1) [nam] (w7.alloc (.cells #[.string nam] 9)) (jb8 (heap_alloc_new w7 _)))
         have g8 := jab w7 (.cells #[.string nam] 9)
         have G8 := jac (jaa G7.out g8)
         have T8 := jac ((g8.block bT S7.out.1 (by simp)).trans T7.out)
         have R8 := jac ((g8.block bR S7.out.2 (by simp)).trans R7.out)
         have O8 := jac (O7.out.new g8)
         have D8 := jac (D7.out.new g8)
         clear g8
         go_wp2_with (go_at_call 79; refine (jfx _).mono ?_; rintro e w' ⟨rfl, rfl⟩)
         refine TL.out.mono ?_
         obtain ⟨w8, hw8⟩ : ∃ w8, w8 = w7.alloc (.cells #[.string nam] 9) := ⟨_, rfl⟩
         rw [← hw8] at G8 T8 R8 O8 D8 ⊢
         clear hw8 TL t0 t1 t2 t3
         rintro e w9 ⟨rfl, rfl⟩
         cases hlg : jaL [nam] with
         | true =>
          have E3 : Hid (jau s = .error 6) := by show _ = _; rw [E2.out, hlg]; rfl
          clear hlg
          go_wp2_with (go_at_call 53; refine (jaB _ _).mono ?_; rintro e w' ⟨rfl, rfl⟩)
          exact ⟨rfl, jad E3.out G8.out⟩
         | false =>
          have E3 : Hid (jau s = .ok ⟨nam, ty, sd, dat⟩) := by show _ = _; rw [E2.out, hlg]; rfl
          clear hlg
          obtain ⟨⟨t0, t1, t2, t3⟩, -⟩ := jaV T8.out
          obtain ⟨⟨r0, r1, r2, r3⟩, rf0, rf1, rf2, rf3⟩ := jaV R8.out
          have n3 : bR ≠ bT := BN.out.2.2
          have n4 : bT ≠ bR := BN.out.2.2.symm
          obtain ⟨hX, gX⟩ := jgq (.string nam) (.int .i64 ty) (.slice ua un uc) (.slice ya dat.length yc) R8.out
          have HX := jac hX
          have GX := jac (jaf (row := none) G8.out gX (fun g e => by cases e; exact .inr (by have := RI.out; omega)))
          have OX := jac (O8.out.more gX (jeY O8.out (by have := SZ.out; have := RI.out; have := BL.out; omega)))
          have DX := jac (D8.out.more gX (jeZ D8.out (by have := BT.out; omega)))
          clear hX gX
          go_wp2_with (go_at_call 53; refine (jaP _ _).mono ?_; rintro e w' ⟨rfl, rfl⟩)
          refine bodyPost_ret (jjz rfl _ _ bR rfl HX.out) rfl ?_
          exact jaI E3.out GX.out ⟨⟨ua, un, uc⟩, ⟨ya, dat.length, yc⟩, rfl, OX.out.base_le SZ.out.2.1, DX.out.base_le (by have := HB.out; omega)⟩
        ·have E2 : Hid (jau s = .error ce) := by show _ = _; rw [E1.out]; unfold jdy; rw [if_neg h0]; rfl
         have SE := jac (jdX ce h0)
         clear h0 E1
         go_wp2_with (go_at_call 79; refine (SE.out _).mono ?_; rintro e w' ⟨rfl, rfl⟩)
         exact ⟨rfl, jad E2.out G7.out⟩
       | cons y r =>
        have NX := jac (jbO _ B x y r wr HC.out)
        have COST := jac (jgX y r)
        have YB := jac (HI.out.2.2.2.2.2.2 y (List.mem_cons_self ..))
        go_wp2_with fail
        refine NX.out.mono ?_
        rintro e w2 ⟨rfl, hc2, hg2⟩
        have HC2 := jac hc2
        have HG2 := jac (jan HG.out hg2 (fun g e => by cases e; exact HB.out))
        have F2 := jac (H4.out.box hg2 (by omega))
        have T2 := jac ((hg2.block bT (by have := HC.out.lt; have := BT.out; omega) (fun e => by have e2 := Option.some.inj e; have := BL.out; have := RI.out; have := LOB.out; omega)).trans HT.out)
        have P2 := jac ((hg2.block bP (by have := HC.out.lt; have := BT.out; omega) (fun e => by have e2 := Option.some.inj e; have := BL.out; have := RI.out; have := LOB.out; omega)).trans HP.out)
        have R2 := jac ((hg2.block bR (by have := HC.out.lt; have := BT.out; omega) (fun e => by have e2 := Option.some.inj e; have := BL.out; have := RI.out; have := LOB.out; omega)).trans HR.out)
        obtain ⟨a0, a1, a2, a3⟩ := hc2.cells
        clear hc2 hg2 NX HC HG H4 HT HP HR
        by_cases h1 : y.num = 1
        ·have b1 : (y.num == 1) = true := by simp [h1]
         have H1 := jac h1
         clear h1
         have p0 : True := trivial
         have p1 : True := trivial
         have p2 : True := trivial
         have p3 : True := trivial
         go_wp2_with fail
         have TX := jac (jdr B (B + 1) y (.slice da dn dc) sd w2 a1 a2 a3 F2.out.od (by have := HC2.out.lt; omega) (by have := HI.out.1; have := COST.out; omega) YB.out)
         clear a0 a1 a2 a3 p0 p1 p2 p3
         cases hx : jaX sd y with
         | error c =>
          rw [hx] at TX
          have E : Hid (jau s = .error c) := by show _ = _; rw [E0.out, HF.out, jaJ (f := jaN) (c := c) (by unfold jaN; rw [if_pos H1.out]; rw [hx]; rfl)]; rfl
          clear hx
          refine TX.out.mono ?_
          rintro e w3 ⟨hg3, rfl⟩
          exact ⟨rfl, jad E.out (jb5 F2.out.od hg3 HC2.out HG2.out HB.out).2.2⟩
         | ok zs =>
          rw [hx] at TX
          have LZ := jac (jcX hx)
          have ES := jac (HF.out.trans (jav (f := jaN) (b := ⟨zs, ty, nam, ⟨lf, lg, lh, raw⟩⟩) (by unfold jaN; rw [if_pos H1.out]; rw [hx]; rfl)))
          clear hx
          refine TX.out.mono ?_
          rintro e w3 ⟨hg3, v', rfl, ho, hfrom⟩
          have F3 := jac (F2.out.setd hg3 ho hfrom)
          have K3 := jac (jb5 F2.out.od hg3 HC2.out HG2.out HB.out)
          have T3 := jac ((K3.out.1 bT BT.out.1).trans T2.out)
          have P3 := jac ((K3.out.1 bP BT.out.2.1).trans P2.out)
          have R3 := jac ((K3.out.1 bR BT.out.2.2).trans R2.out)
          obtain ⟨va, vc, rfl⟩ := ho.form
          clear hg3 ho hfrom TX
          go_wp2_with fail
          go_roundg r.length
          case measure => simp
          case rel => exact ⟨y, r, ⟨zs, ty, nam, ⟨lf, lg, lh, raw⟩⟩, ⟨va, zs.length, vc⟩, ⟨fa, fn, fc⟩, ⟨ga, gn, gc⟩, ⟨ha, hn, hc⟩, rfl, rfl, R3.out, T3.out, P3.out, F3.out, K3.out.2.1, K3.out.2.2, ES.out, jdE (by have := HI.out.1; have := COST.out; have := LZ.out; omega) (by have := HI.out.2.1; have := COST.out; omega) (by have := HI.out.2.2.1; have := COST.out; omega) (by have := HI.out.2.2.2.1; have := COST.out; omega) (HI.out.2.2.2.2.1) (HI.out.2.2.2.2.2.1) (fun z hz => HI.out.2.2.2.2.2.2 z (List.mem_cons_of_mem _ hz))⟩
        ·have b1 : (y.num == 1) = false := by simpa using h1
         have H1 := jac h1
         clear h1
         by_cases h2 : y.num = 2
         ·have b2 : (y.num == 2) = true := by simp [h2]
          have H2 := jac h2
          clear h2
          obtain ⟨⟨p0, p1, p2, p3⟩, -⟩ := jaV T2.out
          go_wp2_with fail
          have TX := jac (jcH B y w2 a1 a2)
          clear a0 a1 a2 a3 p0 p1 p2 p3
          rcases jbR y with ⟨q, hx, hq⟩ | hx
          ·rw [hx] at TX
           have ES := jac (HF.out.trans (jav (f := jaN) (b := ⟨sd, q, nam, ⟨lf, lg, lh, raw⟩⟩) (by unfold jaN; rw [if_neg H1.out]; rw [if_pos H2.out]; rw [hx]; rfl)))
           have HQ := jac hq
           clear hq
           clear hx
           refine TX.out.mono ?_
           rintro e w3 ⟨hg3, v, rfl, rfl, rfl⟩
           obtain ⟨⟨p0, p1, p2, p3⟩, pf0, pf1, pf2, pf3⟩ := jaV T2.out
           go_wp2_with (go_at_call 109; refine (jdA _ _ HQ.out).mono ?_; rintro e w' ⟨rfl, rfl⟩)
           have K4 := jac (jds (j := 1) (.int .i64 q) HC2.out HG2.out F2.out BL.out.2.2.1.1 BL.out.2.2.1.2 BL.out.2.2.2)
           have T4 := jac ((jlu T2.out (.int .i64 q)).2.1)
           have P4 := jac ((K4.out.1 bP BN.out.1.symm (by have := HC2.out.lt; have := BT.out; omega)).trans P2.out)
           have R4 := jac ((K4.out.1 bR BN.out.2.2 (by have := HC2.out.lt; have := BT.out.2.2; omega)).trans R2.out)
           clear p0 p1 p2 p3 pf0 pf1 pf2 pf3
           go_roundg r.length
           case measure => simp
           case rel => exact ⟨y, r, ⟨sd, q, nam, ⟨lf, lg, lh, raw⟩⟩, ⟨da, dn, dc⟩, ⟨fa, fn, fc⟩, ⟨ga, gn, gc⟩, ⟨ha, hn, hc⟩, rfl, rfl, R4.out, T4.out, P4.out, K4.out.2.2.2, K4.out.2.1, K4.out.2.2.1, ES.out, jdE (by have := HI.out.1; have := COST.out; omega) (by have := HI.out.2.1; have := COST.out; omega) (by have := HI.out.2.2.1; have := COST.out; omega) (by have := HI.out.2.2.2.1; have := COST.out; omega) (HQ.out) (HI.out.2.2.2.2.2.1) (fun z hz => HI.out.2.2.2.2.2.2 z (List.mem_cons_of_mem _ hz))⟩
          ·rw [hx] at TX
           have E : Hid (jau s = .error 3) := by show _ = _; rw [E0.out, HF.out, jaJ (f := jaN) (c := 3) (by unfold jaN; rw [if_neg H1.out]; rw [if_pos H2.out]; rw [hx]; rfl)]; rfl
           clear hx
           refine TX.out.mono ?_
           rintro e w3 ⟨hg3, rfl⟩
           exact ⟨rfl, jad E.out (jaa HG2.out hg3)⟩
         ·have b2 : (y.num == 2) = false := by simpa using h2
          have H2 := jac h2
          clear h2
          by_cases h4 : y.num = 4
          ·have b4 : (y.num == 4) = true := by simp [h4]
           have H4 := jac h4
           clear h4
           obtain ⟨⟨p0, p1, p2, p3⟩, -⟩ := jaV P2.out
           go_wp2_with fail
           have TX := jac (jiF B (B + 1) y (.slice fa fn fc) lf w2 a1 a2 a3 F2.out.of (by have := HC2.out.lt; omega) (by have := HI.out.2.1; have := COST.out; omega) YB.out)
           clear a0 a1 a2 a3 p0 p1 p2 p3
           cases hx : jbA lf y with
           | error c =>
            rw [hx] at TX
            have E : Hid (jau s = .error c) := by show _ = _; rw [E0.out, HF.out, jaJ (f := jaN) (c := c) (by unfold jaN; rw [if_neg H1.out]; rw [if_neg H2.out]; rw [if_pos H4.out]; rw [hx]; rfl)]; rfl
            clear hx
            refine TX.out.mono ?_
            rintro e w3 ⟨hg3, rfl⟩
            exact ⟨rfl, jad E.out (jb5 F2.out.of hg3 HC2.out HG2.out HB.out).2.2⟩
           | ok zs =>
            rw [hx] at TX
            have LZ := jac (jhD hx)
            have ES := jac (HF.out.trans (jav (f := jaN) (b := ⟨sd, ty, nam, ⟨zs, lg, lh, raw⟩⟩) (by unfold jaN; rw [if_neg H1.out]; rw [if_neg H2.out]; rw [if_pos H4.out]; rw [hx]; rfl)))
            clear hx
            refine TX.out.mono ?_
            rintro e w3 ⟨hg3, v', rfl, ho, hfrom⟩
            have F3 := jac (F2.out.setf hg3 ho hfrom)
            have K3 := jac (jb5 F2.out.of hg3 HC2.out HG2.out HB.out)
            have T3 := jac ((K3.out.1 bT BT.out.1).trans T2.out)
            have P3 := jac ((K3.out.1 bP BT.out.2.1).trans P2.out)
            have R3 := jac ((K3.out.1 bR BT.out.2.2).trans R2.out)
            obtain ⟨va, vc, rfl⟩ := ho.form
            clear hg3 ho hfrom TX
            obtain ⟨⟨p0, p1, p2, p3⟩, pf0, pf1, pf2, pf3⟩ := jaV P3.out
            go_wp2_with fail
            have K4 := jac (jds (j := 0) (.slice va zs.length vc) K3.out.2.1 K3.out.2.2 F3.out BL.out.1 BL.out.2.1 BL.out.2.2.2)
            have P4 := jac ((jlu P3.out (.slice va zs.length vc)).1)
            have T4 := jac ((K4.out.1 bT BN.out.1 (by have := K3.out.2.1.lt; have := BT.out.1; omega)).trans T3.out)
            have R4 := jac ((K4.out.1 bR BN.out.2.1 (by have := K3.out.2.1.lt; have := BT.out.2.2; omega)).trans R3.out)
            clear p0 p1 p2 p3 pf0 pf1 pf2 pf3
            go_roundg r.length
            case measure => simp
            case rel => exact ⟨y, r, ⟨sd, ty, nam, ⟨zs, lg, lh, raw⟩⟩, ⟨da, dn, dc⟩, ⟨va, zs.length, vc⟩, ⟨ga, gn, gc⟩, ⟨ha, hn, hc⟩, rfl, rfl, R4.out, T4.out, P4.out, K4.out.2.2.2, K4.out.2.1, K4.out.2.2.1, ES.out, jdE (by have := HI.out.1; have := COST.out; omega) (by have := HI.out.2.1; have := COST.out; have := LZ.out; omega) (by have := HI.out.2.2.1; have := COST.out; omega) (by have := HI.out.2.2.2.1; have := COST.out; omega) (HI.out.2.2.2.2.1) (HI.out.2.2.2.2.2.1) (fun z hz => HI.out.2.2.2.2.2.2 z (List.mem_cons_of_mem _ hz))⟩
          ·have b4 : (y.num == 4) = false := by simpa using h4
           have H4 := jac h4
           clear h4
           by_cases h5 : y.num = 5
           ·have b5 : (y.num == 5) = true := by simp [h5]
            have H5 := jac h5
            clear h5
            obtain ⟨⟨p0, p1, p2, p3⟩, -⟩ := jaV P2.out
            go_wp2_with fail
            have TX := jac (jdr B (B + 1) y (.slice ga gn gc) lg w2 a1 a2 a3 F2.out.og (by have := HC2.out.lt; omega) (by have := HI.out.2.2.1; have := COST.out; omega) YB.out)
            clear a0 a1 a2 a3 p0 p1 p2 p3
            cases hx : jaX lg y with
            | error c =>
             rw [hx] at TX
             have E : Hid (jau s = .error c) := by show _ = _; rw [E0.out, HF.out, jaJ (f := jaN) (c := c) (by unfold jaN; rw [if_neg H1.out]; rw [if_neg H2.out]; rw [if_neg H4.out]; rw [if_pos H5.out]; rw [hx]; rfl)]; rfl
             clear hx
             refine TX.out.mono ?_
             rintro e w3 ⟨hg3, rfl⟩
             exact ⟨rfl, jad E.out (jb5 F2.out.og hg3 HC2.out HG2.out HB.out).2.2⟩
            | ok zs =>
             rw [hx] at TX
             have LZ := jac (jcX hx)
             have ES := jac (HF.out.trans (jav (f := jaN) (b := ⟨sd, ty, nam, ⟨lf, zs, lh, raw⟩⟩) (by unfold jaN; rw [if_neg H1.out]; rw [if_neg H2.out]; rw [if_neg H4.out]; rw [if_pos H5.out]; rw [hx]; rfl)))
             clear hx
             refine TX.out.mono ?_
             rintro e w3 ⟨hg3, v', rfl, ho, hfrom⟩
             have F3 := jac (F2.out.setg hg3 ho hfrom)
             have K3 := jac (jb5 F2.out.og hg3 HC2.out HG2.out HB.out)
             have T3 := jac ((K3.out.1 bT BT.out.1).trans T2.out)
             have P3 := jac ((K3.out.1 bP BT.out.2.1).trans P2.out)
             have R3 := jac ((K3.out.1 bR BT.out.2.2).trans R2.out)
             obtain ⟨va, vc, rfl⟩ := ho.form
             clear hg3 ho hfrom TX
             obtain ⟨⟨p0, p1, p2, p3⟩, pf0, pf1, pf2, pf3⟩ := jaV P3.out
             go_wp2_with fail
             have K4 := jac (jds (j := 1) (.slice va zs.length vc) K3.out.2.1 K3.out.2.2 F3.out BL.out.1 BL.out.2.1 BL.out.2.2.2)
             have P4 := jac ((jlu P3.out (.slice va zs.length vc)).2.1)
             have T4 := jac ((K4.out.1 bT BN.out.1 (by have := K3.out.2.1.lt; have := BT.out.1; omega)).trans T3.out)
             have R4 := jac ((K4.out.1 bR BN.out.2.1 (by have := K3.out.2.1.lt; have := BT.out.2.2; omega)).trans R3.out)
             clear p0 p1 p2 p3 pf0 pf1 pf2 pf3
             go_roundg r.length
             case measure => simp
             case rel => exact ⟨y, r, ⟨sd, ty, nam, ⟨lf, zs, lh, raw⟩⟩, ⟨da, dn, dc⟩, ⟨fa, fn, fc⟩, ⟨va, zs.length, vc⟩, ⟨ha, hn, hc⟩, rfl, rfl, R4.out, T4.out, P4.out, K4.out.2.2.2, K4.out.2.1, K4.out.2.2.1, ES.out, jdE (by have := HI.out.1; have := COST.out; omega) (by have := HI.out.2.1; have := COST.out; omega) (by have := HI.out.2.2.1; have := COST.out; have := LZ.out; omega) (by have := HI.out.2.2.2.1; have := COST.out; omega) (HI.out.2.2.2.2.1) (HI.out.2.2.2.2.2.1) (fun z hz => HI.out.2.2.2.2.2.2 z (List.mem_cons_of_mem _ hz))⟩
           ·have b5 : (y.num == 5) = false := by simpa using h5
            have H5 := jac h5
            clear h5
            by_cases h7 : y.num = 7
            ·have b7 : (y.num == 7) = true := by simp [h7]
             have H7 := jac h7
             clear h7
             obtain ⟨⟨p0, p1, p2, p3⟩, -⟩ := jaV P2.out
             go_wp2_with fail
             have TX := jac (jdr B (B + 1) y (.slice ha hn hc) lh w2 a1 a2 a3 F2.out.oh (by have := HC2.out.lt; omega) (by have := HI.out.2.2.2.1; have := COST.out; omega) YB.out)
             clear a0 a1 a2 a3 p0 p1 p2 p3
             cases hx : jaX lh y with
             | error c =>
              rw [hx] at TX
              have E : Hid (jau s = .error c) := by show _ = _; rw [E0.out, HF.out, jaJ (f := jaN) (c := c) (by unfold jaN; rw [if_neg H1.out]; rw [if_neg H2.out]; rw [if_neg H4.out]; rw [if_neg H5.out]; rw [if_pos H7.out]; rw [hx]; rfl)]; rfl
              clear hx
              refine TX.out.mono ?_
              rintro e w3 ⟨hg3, rfl⟩
              exact ⟨rfl, jad E.out (jb5 F2.out.oh hg3 HC2.out HG2.out HB.out).2.2⟩
             | ok zs =>
              rw [hx] at TX
              have LZ := jac (jcX hx)
              have ES := jac (HF.out.trans (jav (f := jaN) (b := ⟨sd, ty, nam, ⟨lf, lg, zs, raw⟩⟩) (by unfold jaN; rw [if_neg H1.out]; rw [if_neg H2.out]; rw [if_neg H4.out]; rw [if_neg H5.out]; rw [if_pos H7.out]; rw [hx]; rfl)))
              clear hx
              refine TX.out.mono ?_
              rintro e w3 ⟨hg3, v', rfl, ho, hfrom⟩
              have F3 := jac (F2.out.seth hg3 ho hfrom)
              have K3 := jac (jb5 F2.out.oh hg3 HC2.out HG2.out HB.out)
              have T3 := jac ((K3.out.1 bT BT.out.1).trans T2.out)
              have P3 := jac ((K3.out.1 bP BT.out.2.1).trans P2.out)
              have R3 := jac ((K3.out.1 bR BT.out.2.2).trans R2.out)
              obtain ⟨va, vc, rfl⟩ := ho.form
              clear hg3 ho hfrom TX
              obtain ⟨⟨p0, p1, p2, p3⟩, pf0, pf1, pf2, pf3⟩ := jaV P3.out
              go_wp2_with fail
              have K4 := jac (jds (j := 2) (.slice va zs.length vc) K3.out.2.1 K3.out.2.2 F3.out BL.out.1 BL.out.2.1 BL.out.2.2.2)
              have P4 := jac ((jlu P3.out (.slice va zs.length vc)).2.2.1)
              have T4 := jac ((K4.out.1 bT BN.out.1 (by have := K3.out.2.1.lt; have := BT.out.1; omega)).trans T3.out)
              have R4 := jac ((K4.out.1 bR BN.out.2.1 (by have := K3.out.2.1.lt; have := BT.out.2.2; omega)).trans R3.out)
              clear p0 p1 p2 p3 pf0 pf1 pf2 pf3
              go_roundg r.length
              case measure => simp
              case rel => exact ⟨y, r, ⟨sd, ty, nam, ⟨lf, lg, zs, raw⟩⟩, ⟨da, dn, dc⟩, ⟨fa, fn, fc⟩, ⟨ga, gn, gc⟩, ⟨va, zs.length, vc⟩, rfl, rfl, R4.out, T4.out, P4.out, K4.out.2.2.2, K4.out.2.1, K4.out.2.2.1, ES.out, jdE (by have := HI.out.1; have := COST.out; omega) (by have := HI.out.2.1; have := COST.out; omega) (by have := HI.out.2.2.1; have := COST.out; omega) (by have := HI.out.2.2.2.1; have := COST.out; have := LZ.out; omega) (HI.out.2.2.2.2.1) (HI.out.2.2.2.2.2.1) (fun z hz => HI.out.2.2.2.2.2.2 z (List.mem_cons_of_mem _ hz))⟩
            ·have b7 : (y.num == 7) = false := by simpa using h7
             have H7 := jac h7
             clear h7
             by_cases h8 : y.num = 8
             ·have b8 : (y.num == 8) = true := by simp [h8]
              have H8 := jac h8
              clear h8
              obtain ⟨⟨p0, p1, p2, p3⟩, -⟩ := jaV T2.out
              go_wp2_with fail
              have TX := jac (jay B y w2 a1 a3)
              clear a0 a1 a2 a3 p0 p1 p2 p3
              rcases jaS y with ⟨q, hx⟩ | hx
              ·rw [hx] at TX
               have ES := jac (HF.out.trans (jav (f := jaN) (b := ⟨sd, ty, q, ⟨lf, lg, lh, raw⟩⟩) (by unfold jaN; rw [if_neg H1.out]; rw [if_neg H2.out]; rw [if_neg H4.out]; rw [if_neg H5.out]; rw [if_neg H7.out]; rw [if_pos H8.out]; rw [hx]; rfl)))
               skip
               clear hx
               refine TX.out.mono ?_
               rintro e w3 ⟨hg3, v, rfl, rfl, rfl⟩
               obtain ⟨⟨p0, p1, p2, p3⟩, pf0, pf1, pf2, pf3⟩ := jaV T2.out
               go_wp2_with fail
               have K4 := jac (jds (j := 0) (.string q) HC2.out HG2.out F2.out BL.out.2.2.1.1 BL.out.2.2.1.2 BL.out.2.2.2)
               have T4 := jac ((jlu T2.out (.string q)).1)
               have P4 := jac ((K4.out.1 bP BN.out.1.symm (by have := HC2.out.lt; have := BT.out; omega)).trans P2.out)
               have R4 := jac ((K4.out.1 bR BN.out.2.2 (by have := HC2.out.lt; have := BT.out.2.2; omega)).trans R2.out)
               clear p0 p1 p2 p3 pf0 pf1 pf2 pf3
               go_roundg r.length
               case measure => simp
               case rel => exact ⟨y, r, ⟨sd, ty, q, ⟨lf, lg, lh, raw⟩⟩, ⟨da, dn, dc⟩, ⟨fa, fn, fc⟩, ⟨ga, gn, gc⟩, ⟨ha, hn, hc⟩, rfl, rfl, R4.out, T4.out, P4.out, K4.out.2.2.2, K4.out.2.1, K4.out.2.2.1, ES.out, jdE (by have := HI.out.1; have := COST.out; omega) (by have := HI.out.2.1; have := COST.out; omega) (by have := HI.out.2.2.1; have := COST.out; omega) (by have := HI.out.2.2.2.1; have := COST.out; omega) (HI.out.2.2.2.2.1) (HI.out.2.2.2.2.2.1) (fun z hz => HI.out.2.2.2.2.2.2 z (List.mem_cons_of_mem _ hz))⟩
              ·rw [hx] at TX
               have E : Hid (jau s = .error 3) := by show _ = _; rw [E0.out, HF.out, jaJ (f := jaN) (c := 3) (by unfold jaN; rw [if_neg H1.out]; rw [if_neg H2.out]; rw [if_neg H4.out]; rw [if_neg H5.out]; rw [if_neg H7.out]; rw [if_pos H8.out]; rw [hx]; rfl)]; rfl
               clear hx
               refine TX.out.mono ?_
               rintro e w3 ⟨hg3, rfl⟩
               exact ⟨rfl, jad E.out (jaa HG2.out hg3)⟩
             ·have b8 : (y.num == 8) = false := by simpa using h8
              have H8 := jac h8
              clear h8
              by_cases h9 : y.num = 9
              ·have b9 : (y.num == 9) = true := by simp [h9]
               have H9 := jac h9
               clear h9
               obtain ⟨⟨p0, p1, p2, p3⟩, -⟩ := jaV P2.out
               go_wp2_with fail
               have TX := jac (jay B y w2 a1 a3)
               clear a0 a1 a2 a3 p0 p1 p2 p3
               rcases jaS y with ⟨q, hx⟩ | hx
               ·rw [hx] at TX
                have ES := jac (HF.out.trans (jav (f := jaN) (b := ⟨sd, ty, nam, ⟨lf, lg, lh, q⟩⟩) (by unfold jaN; rw [if_neg H1.out]; rw [if_neg H2.out]; rw [if_neg H4.out]; rw [if_neg H5.out]; rw [if_neg H7.out]; rw [if_neg H8.out]; rw [if_pos H9.out]; rw [hx]; rfl)))
                have HQ : Hid (q.size ≤ 16777216) := by show q.size ≤ _; rw [← jlX hx]; exact YB.out
                clear hx
                refine TX.out.mono ?_
                rintro e w3 ⟨hg3, v, rfl, rfl, rfl⟩
                obtain ⟨⟨p0, p1, p2, p3⟩, pf0, pf1, pf2, pf3⟩ := jaV P2.out
                go_wp2_with fail
                have K4 := jac (jds (j := 3) (.string q) HC2.out HG2.out F2.out BL.out.1 BL.out.2.1 BL.out.2.2.2)
                have P4 := jac ((jlu P2.out (.string q)).2.2.2)
                have T4 := jac ((K4.out.1 bT BN.out.1 (by have := HC2.out.lt; have := BT.out; omega)).trans T2.out)
                have R4 := jac ((K4.out.1 bR BN.out.2.1 (by have := HC2.out.lt; have := BT.out.2.2; omega)).trans R2.out)
                clear p0 p1 p2 p3 pf0 pf1 pf2 pf3
                go_roundg r.length
                case measure => simp
                case rel => exact ⟨y, r, ⟨sd, ty, nam, ⟨lf, lg, lh, q⟩⟩, ⟨da, dn, dc⟩, ⟨fa, fn, fc⟩, ⟨ga, gn, gc⟩, ⟨ha, hn, hc⟩, rfl, rfl, R4.out, T4.out, P4.out, K4.out.2.2.2, K4.out.2.1, K4.out.2.2.1, ES.out, jdE (by have := HI.out.1; have := COST.out; omega) (by have := HI.out.2.1; have := COST.out; omega) (by have := HI.out.2.2.1; have := COST.out; omega) (by have := HI.out.2.2.2.1; have := COST.out; omega) (HI.out.2.2.2.2.1) (HQ.out) (fun z hz => HI.out.2.2.2.2.2.2 z (List.mem_cons_of_mem _ hz))⟩
               ·rw [hx] at TX
                have E : Hid (jau s = .error 3) := by show _ = _; rw [E0.out, HF.out, jaJ (f := jaN) (c := 3) (by unfold jaN; rw [if_neg H1.out]; rw [if_neg H2.out]; rw [if_neg H4.out]; rw [if_neg H5.out]; rw [if_neg H7.out]; rw [if_neg H8.out]; rw [if_pos H9.out]; rw [hx]; rfl)]; rfl
                clear hx
                refine TX.out.mono ?_
                rintro e w3 ⟨hg3, rfl⟩
                exact ⟨rfl, jad E.out (jaa HG2.out hg3)⟩
              ·have b9 : (y.num == 9) = false := by simpa using h9
               have H9 := jac h9
               clear h9
               have ES := jac (HF.out.trans (jav (f := jaN) (b := ⟨sd, ty, nam, ⟨lf, lg, lh, raw⟩⟩) (by unfold jaN; rw [if_neg H1.out]; rw [if_neg H2.out]; rw [if_neg H4.out]; rw [if_neg H5.out]; rw [if_neg H7.out]; rw [if_neg H8.out]; rw [if_neg H9.out])))
               clear a1 a2 a3
               go_wp2_with fail
               clear a0
               go_roundg r.length
               case measure => simp
               case rel => exact ⟨y, r, ⟨sd, ty, nam, ⟨lf, lg, lh, raw⟩⟩, ⟨da, dn, dc⟩, ⟨fa, fn, fc⟩, ⟨ga, gn, gc⟩, ⟨ha, hn, hc⟩, rfl, rfl, R2.out, T2.out, P2.out, F2.out, HC2.out, HG2.out, ES.out, jdE (by have := HI.out.1; have := COST.out; omega) (by have := HI.out.2.1; have := COST.out; omega) (by have := HI.out.2.2.1; have := COST.out; omega) (by have := HI.out.2.2.2.1; have := COST.out; omega) (HI.out.2.2.2.2.1) (HI.out.2.2.2.2.2.1) (fun z hz => HI.out.2.2.2.2.2.2 z (List.mem_cons_of_mem _ hz))⟩
     ·rw [hc] at O
      have E : Hid (jau s = .error c) := by show _ = _; unfold jau; rw [hc]; rfl
      clear hc
      go_enter Tryz.func82, Tryz.ntmps82
      go_wp2_with fail
      rw [← hw0]
      refine (O.out w0).mono ?_
      rintro e w1 ⟨hg1, rfl⟩
      exact ⟨rfl, jad E.out (jaa g0 hg1)⟩
end Go.Proofs.YtbgbpfbjeleooaaGreat.Pd
