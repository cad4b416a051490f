/- A part. -/
import Derived.Test.YtbgbpfbjeleooaaGreatSartAS
import Derived.Test.YtbgbpfbjeleooaaGreatSartAH
set_option maxHeartbeats 12800000
set_option maxRecDepth 100000
namespace Go.Proofs.YtbgbpfbjeleooaaGreat.Pd
open Go.RowKit
open Wr (Fld)
def jca (s : ByteArray × List ByteArray) (x : Fld) : R (ByteArray × List ByteArray) := if x.num = 1 then (jbW x).bind fun t => .ok (t, s.2) else if x.num = 2 then (jbW x).bind fun t => .ok (s.1, s.2 ++ [t]) else .ok s
structure NVal where
 name : ByteArray
 ty : Int
 dims : List Int
def jaG (s : ByteArray) : R NVal := (jba s).bind fun l => (jaE jca (⟨#[]⟩, []) l).bind fun t => (jak (t.2.length == 0) 5).bind fun _ => (jbg (jbX t.2)).bind fun x => (jak (jaq [t.1]) 6).bind fun _ => .ok ⟨t.1, x.1, x.2⟩
theorem put3 {w : World} {B : Nat} {z0 z1 z2 : Value} {t : TypeId} (hb : w.heap[B]? = some (.cells #[z0, z1, z2] t (0, 0))) (a : Value) :
    (w.setCell ⟨B, 0, none⟩ a).heap[B]? = some (.cells #[a, z1, z2] t (0, 0)) ∧ (w.setCell ⟨B, 1, none⟩ a).heap[B]? = some (.cells #[z0, a, z2] t (0, 0)) ∧ (w.setCell ⟨B, 2, none⟩ a).heap[B]? = some (.cells #[z0, z1, a] t (0, 0)) :=
     ⟨by simpa using heap_setCell_same w B 0 _ _ a hb, by simpa using heap_setCell_same w B 1 _ _ a hb, by simpa using heap_setCell_same w B 2 _ _ a hb⟩
theorem jbk {w : World} {B : Nat} {z0 z1 z2 : Value} {t : TypeId} (hb : w.heap[B]? = some (.cells #[z0, z1, z2] t (0, 0))) :
    (w.cell? ⟨B, 0, none⟩ = some z0 ∧ w.cell? ⟨B, 1, none⟩ = some z1 ∧ w.cell? ⟨B, 2, none⟩ = some z2) ∧ w.frozen? ⟨B, 0, none⟩ = false ∧ w.frozen? ⟨B, 1, none⟩ = false ∧ w.frozen? ⟨B, 2, none⟩ = false :=
     ⟨⟨(cell_of_row _ _ 0 _ _ (0, 0) hb).trans rfl, (cell_of_row _ _ 1 _ _ (0, 0) hb).trans rfl, (cell_of_row _ _ 2 _ _ (0, 0) hb).trans rfl⟩, frozen_of_row w B 0 _ _ hb, frozen_of_row w B 1 _ _ hb, frozen_of_row w B 2 _ _ hb⟩
theorem jnh {w3 : World} {B : Nat} {z0 z1 z2 : Value} {t : TypeId} (a b c : Value) (hb : w3.heap[B]? = some (.cells #[z0, z1, z2] t (0, 0))) :
    (((w3.setCell ⟨B, 0, none⟩ a).setCell ⟨B, 1, none⟩ b).setCell ⟨B, 2, none⟩ c).heap[B]? = some (.cells #[a, b, c] t (0, 0)) ∧ w3.grownBy (((w3.setCell ⟨B, 0, none⟩ a).setCell ⟨B, 1, none⟩ b).setCell ⟨B, 2, none⟩ c) (some B) := by
     have h1 := heap_setCell_same w3 B 0 _ _ a hb
     have h2 := heap_setCell_same _ B 1 _ _ b h1
     have h3 := heap_setCell_same _ B 2 _ _ c h2
     exact ⟨by simpa using h3, Wr.row_trans (Wr.row_trans (jao w3 B 0 a) (jao _ B 1 b)) (jao _ B 2 c)⟩
theorem jlX : (Tryz.prog.info? 82).map (·.size) = some 3 := by kernel_rfl
theorem jlY {fn : Func} {p : Tmp} (h : fn.results = #[.cell p 82]) (tmps : Array Value) (w : World) (B : Nat) (hp : tmps.getD p undef = .pointer (some ⟨B, 0, none⟩)) {a0 a1 a2 : Value}
    (hb : w.heap[B]? = some (.cells #[a0, a1, a2] 82 (0, 0))) : (results fn tmps).run Tryz.prog w = .ok (.agg #[a0, a1, a2]) w :=
     results_cell_row h tmps w B 82 #[a0, a1, a2] (0, 0) _ hp hb Tryz.underlying82 rfl (by rw [jlX]; rfl)
theorem jb1 (w : World) (a b : Array Value) (t u : TypeId) : ((w.alloc (.cells a t)).alloc (.cells b u)).heap[w.heap.size]? = some (.cells a t (0, 0)) :=
 ((jab _ (.cells b u)).block _ (by rw [jas]; omega) (by simp)).trans (heap_alloc_new w _)
theorem jcW (w : World) (a b : Array Value) (t u : TypeId) : ((w.alloc (.cells a t)).alloc (.cells b u)).heap[w.heap.size + 1]? = some (.cells b u (0, 0)) := by
 have h := heap_alloc_new (w.alloc (.cells a t)) (.cells b u)
 rw [jas] at h
 exact h
theorem ja5 (s : ByteArray) (w : World) (hs : s.size ≤ 9223372036854775807) :
    Calls Tryz.prog 83 #[.string s] w (jbR w (jaG s) fun V v w' => ∃ d : Sl, v = .agg #[.string V.name, .int .i64 V.ty, .slice d.a d.n d.c] ∧ jeK w' w.heap.size d.v V.dims) := by
     obtain ⟨is0, hs0, hs1, hs2, hs3⟩ := info_parts jed
     have O := jac (fun wx => jcD s wx hs)
     obtain ⟨w0, hw0⟩ : ∃ w0, w0 = (w.alloc (.cells #[.string ⟨#[]⟩, .int .i64 0, .slice none 0 0] 82)).alloc (.cells #[.string ⟨#[]⟩, .int .i64 0, .slice none 0 0] 82) := ⟨_, rfl⟩
     have g0 : w.grownBy w0 none := by rw [hw0]; exact jaa (jab _ _) (jab _ _)
     have hbR : w0.heap[w.heap.size]? = some (.cells #[.string ⟨#[]⟩, .int .i64 0, .slice none 0 0] 82 (0, 0)) := by rw [hw0]; exact jb1 _ _ _ _ _
     have hbT : w0.heap[w.heap.size + 1]? = some (.cells #[.string ⟨#[]⟩, .int .i64 0, .slice none 0 0] 82 (0, 0)) := by rw [hw0]; exact jcW _ _ _ _ _
     have S0 : w0.heap.size = w.heap.size + 2 := by rw [hw0, jas, jas]
     rcases jbc s with ⟨l, hl⟩ | ⟨c, hc, -⟩
     ·rw [hl] at O
      have FL := jac hl
      have E0 : Hid (jaG s = (jaE jca (⟨#[]⟩, []) l).bind fun t => (jak (t.2.length == 0) 5).bind fun _ => (jbg (jbX t.2)).bind fun x => (jak (jaq [t.1]) 6).bind fun _ => .ok ⟨t.1, x.1, x.2⟩) := by show _ = _; unfold jaG; rw [hl]; rfl
      clear hl
      go_enter Tryz.func83, Tryz.ntmps83
      go_wp2_with fail
      rw [← hw0]
      refine (O.out w0).mono ?_
      rintro e w1 ⟨hg1, v, rfl, B, rfl, hcur⟩
      obtain ⟨lo, hlo⟩ : ∃ lo, lo = w0.heap.size := ⟨_, rfl⟩
      rw [← hlo] at hcur S0
      have LB : lo ≤ B := by obtain ⟨_, _, _, _, h⟩ := hcur; exact h
      obtain ⟨bR, hR⟩ : ∃ b, b = w.heap.size := ⟨_, rfl⟩
      obtain ⟨bT, hT⟩ : ∃ b, b = w.heap.size + 1 := ⟨_, rfl⟩
      rw [← hR] at hbR
      rw [← hT] at hbT ⊢
      rw [← hR]
      have BT : Hid (bT < B ∧ bR < B) := ⟨by omega, by omega⟩
      have BL : Hid (bT < lo ∧ w.heap.size ≤ bT) := ⟨by omega, by omega⟩
      have BN : Hid (bR ≠ bT) := by show bR ≠ bT; omega
      have HB : Hid (w.heap.size ≤ B) := by show w.heap.size ≤ B; omega
      have RI : Hid (bR = w.heap.size) := hR
      have R1 : w1.heap[bR]? = some (.cells #[.string ⟨#[]⟩, .int .i64 0, .slice none 0 0] 82 (0, 0)) := (hg1.block bR (by omega) (by simp)).trans hbR
      have T1 : w1.heap[bT]? = some (.cells #[.string ⟨#[]⟩, .int .i64 0, .slice none 0 0] 82 (0, 0)) := (hg1.block bT (by omega) (by simp)).trans hbT
      have G1 := jaa g0 hg1
      clear hbR hbT g0 hg1 hw0 S0 hlo LB hR hT
      go_wp2_with fail
      go_loopg [4] l.length (fun gh sv wr => ∃ (x : Fld) (r : List Fld) (st : ByteArray × List ByteArray), gh = r.length ∧ wr.heap[bR]? = some (.cells #[.string ⟨#[]⟩, .int .i64 0, .slice none 0 0] 82 (0, 0)) ∧ wr.heap[bT]? = some (.cells #[.string st.1, .int .i64 0, .slice none 0 0] 82 (0, 0)) ∧ jer wr (B + 1) sv st.2 ∧ jdh wr lo B x r ∧ w.grownBy wr none ∧ jaE jca (⟨#[]⟩, []) l = jaE jca st r ∧ st.2.length + r.length ≤ 16777216 ∧ tot st.2 + tot (r.map (·.b)) ≤ 16777216)
      case atStart => exact ⟨_, l, (⟨#[]⟩, []), rfl, R1, T1, OwnsL.nil .., hcur, G1, rfl, by have := jbn FL.out; simpa using this, by have := jcy FL.out; simpa [tot] using this⟩
      case round =>
       obtain ⟨x, r, ⟨nm, ss⟩, rfl, hR, hT, hi0, hcu, hg, hf, hi1, hi2⟩ := hrel
       simp only at hT hi0 hi1 hi2
       have HF := jac hf
       have HC := jac hcu
       have HG := jac hg
       have I0 := jac hi0
       have I1 := jac hi1
       have I2 := jac hi2
       have HR := jac hR
       have HT := jac hT
       clear hf hcu hg hi0 hi1 hi2 hR hT hcur R1 T1 G1
       obtain ⟨va, vc, rfl⟩ := OwnsL.form I0.out
       cases r with
       | nil =>
        have NX := jac (jbU _ B x wr HC.out)
        have E1 : Hid (jaG s = (jak (ss.length == 0) 5).bind fun _ => (jbg (jbX ss)).bind fun x => (jak (jaq [nm]) 6).bind fun _ => .ok ⟨nm, x.1, x.2⟩) := by show _ = _; rw [E0.out, HF.out]; rfl
        by_cases h0 : ss.length = 0
        ·have b0 : ((ss.length : Int) == 0) = true := by simp [h0]
         have E2 : Hid (jaG s = .error 5) := by show _ = _; rw [E1.out]; simp [h0, jak]; rfl
         clear h0
         go_wp2_with (first | (go_at_call 51; refine NX.out.mono ?_; rintro e w' ⟨rfl, rfl⟩) | (go_at_call 53; refine (jaC _ _).mono ?_; rintro e w' ⟨rfl, rfl⟩))
         exact ⟨rfl, jad E2.out HG.out⟩
        ·have b0 : ((ss.length : Int) == 0) = false := beq_eq_false_iff_ne.2 (by omega)
         have E2 : Hid (jaG s = (jbg (jbX ss)).bind fun x => (jak (jaq [nm]) 6).bind fun _ => .ok ⟨nm, x.1, x.2⟩) := by show _ = _; rw [E1.out]; simp [h0, jak]; rfl
         have TL : Hid (ss.length ≤ 16777216 ∧ tot ss ≤ 16777216) := by
          have h1 := I1.out
          have h2 := I2.out
          exact ⟨by simpa using h1, by simp [tot] at h2 ⊢; omega⟩
         have JN := jac (jeR (B + 1) _ ss wr I0.out TL.out.1 TL.out.2)
         clear h0 E1
         go_wp2_with (first | (go_at_call 51; refine NX.out.mono ?_; rintro e w' ⟨rfl, rfl⟩) | (go_at_call 53; refine (jaL _ _).mono ?_; rintro e w' ⟨rfl, rfl⟩) | (go_at_call 55; refine JN.out.mono ?_; rintro e w3 ⟨rfl, hg3⟩) | fail)
         have SB := jac (jhS (jbX ss) w3 (by rw [jdn]; have := TL.out.2; omega))
         have G3 := jac (jaa HG.out hg3)
         have hlt := HC.out.lt
         have T3 := jac ((hg3.block bT (by have := BT.out; omega) (by simp)).trans HT.out)
         have R3 := jac ((hg3.block bR (by have := BT.out; omega) (by simp)).trans HR.out)
         have S3 : Hid (bT < w3.heap.size ∧ bR < w3.heap.size) := by have := BT.out; have := hg3.size; exact ⟨by omega, by omega⟩
         have Z3 : Hid (w.heap.size ≤ w3.heap.size) := Nat.le_trans HG.out.size hg3.size
         obtain ⟨jx, hjx⟩ : ∃ jx, jx = jbX ss := ⟨_, rfl⟩
         rw [← hjx] at SB E2 ⊢
         clear hjx hg3 hlt HT HR HC HG JN
         cases hd : jbg jx with
         | error c =>
          have E3 : Hid (jaG s = .error c) := by show _ = _; rw [E2.out, hd]; rfl
          rw [hd] at SB
          clear hd
          refine SB.out.mono ?_
          rintro e w4 ⟨hg4, rfl⟩
          exact ⟨rfl, jad E3.out (jaa G3.out hg4)⟩
         | ok res =>
          obtain ⟨ty, ds⟩ := res
          have E3 : Hid (jaG s = (jak (jaq [nm]) 6).bind fun _ => .ok ⟨nm, ty, ds⟩) := by show _ = _; rw [E2.out, hd]; rfl
          rw [hd] at SB
          clear hd E2
          refine SB.out.mono ?_
          rintro e w4 ⟨hg4, v, rfl, ⟨qa, qn, qc⟩, rfl, hq⟩
          simp only [Sl.v] at hq ⊢
          have HQ := jac hq
          have T4 := jac ((hg4.block bT S3.out.1 (by simp)).trans T3.out)
          have R4 := jac ((hg4.block bR S3.out.2 (by simp)).trans R3.out)
          have G4 := jac (jaa G3.out hg4)
          have S4 : Hid (bT < w4.heap.size ∧ bR < w4.heap.size) := by have := S3.out; have := hg4.size; exact ⟨by omega, by omega⟩
          clear hq hg4 SB T3 R3 G3
          obtain ⟨⟨q0, q1, q2⟩, qf0, qf1, qf2⟩ := jbk T4.out
          have h6 := (put3 T4.out (.int .i64 ty)).2.1
          have T6 := jac ((put3 h6 (.slice qa qn qc)).2.2)
          have gp := Wr.row_trans (jao w4 bT 1 (.int .i64 ty)) (jao _ bT 2 (.slice qa qn qc))
          have G6 := jac (jag (row := none) G4.out gp (fun g e => by cases e; exact .inr BL.out.2))
          have R6 := jac ((gp.block bR S4.out.2 (fun e => BN.out (Option.some.inj e))).trans R4.out)
          have O6 := jac (HQ.out.more gp (jfp HQ.out S3.out.1))
          have S6 : Hid (bT < ((w4.setCell ⟨bT, 1, none⟩ (.int .i64 ty)).setCell ⟨bT, 2, none⟩ (.slice qa qn qc)).heap.size ∧ bR < ((w4.setCell ⟨bT, 1, none⟩ (.int .i64 ty)).setCell ⟨bT, 2, none⟩ (.slice qa qn qc)).heap.size) := by have := S4.out; have := gp.size; exact ⟨by omega, by omega⟩
          clear h6 gp T4 R4 G4 HQ
          go_wp2_with fail
          obtain ⟨w6, hw6⟩ : ∃ w6, w6 = (w4.setCell ⟨bT, 1, none⟩ (.int .i64 ty)).setCell ⟨bT, 2, none⟩ (.slice qa qn qc) := ⟨_, rfl⟩
          have e6 : Hid (w6.heap.size = w4.heap.size) := by show w6.heap.size = _; rw [hw6]; simp [World.setCell]
          rw [← hw6] at T6 G6 R6 O6 S6 ⊢
          clear hw6 q0 q1 q2 qf0 qf1 qf2
          have LG := jac (jaM (.slice (some ⟨w4.heap.size, 0, none⟩) 1 1) [nm] (w6.alloc (.cells #[.string nm] 9)) (jch (by rw [← e6.out]; exact heap_alloc_new w6 _)))
          have g8 := jab w6 (.cells #[.string nm] 9)
          have G8 := jac (jaa G6.out g8)
          have T8 := jac ((g8.block bT S6.out.1 (by simp)).trans T6.out)
          have R8 := jac ((g8.block bR S6.out.2 (by simp)).trans R6.out)
          have O8 := jac (O6.out.new g8)
          clear g8
          refine LG.out.mono ?_
          obtain ⟨w8, hw8⟩ : ∃ w8, w8 = w6.alloc (.cells #[.string nm] 9) := ⟨_, rfl⟩
          rw [← hw8] at G8 T8 R8 O8 ⊢
          clear hw8 LG
          rintro e w9 ⟨rfl, rfl⟩
          cases hlg : jaq [nm] with
          | true =>
           have E4 : Hid (jaG s = .error 6) := by show _ = _; rw [E3.out, hlg]; rfl
           clear hlg
           go_wp2_with (go_at_call 53; refine (jaC _ _).mono ?_; rintro e w' ⟨rfl, rfl⟩)
           exact ⟨rfl, jad E4.out G8.out⟩
          | false =>
           have E4 : Hid (jaG s = .ok ⟨nm, ty, ds⟩) := by show _ = _; rw [E3.out, hlg]; rfl
           clear hlg
           obtain ⟨⟨q0, q1, q2⟩, -⟩ := jbk T8.out
           obtain ⟨⟨r0, r1, r2⟩, rf0, rf1, rf2⟩ := jbk R8.out
           have n3 : bR ≠ bT := BN.out
           have n4 : bT ≠ bR := BN.out.symm
           obtain ⟨hX, gX⟩ := jnh (.string nm) (.int .i64 ty) (.slice qa qn qc) R8.out
           have HX := jac hX
           have GX := jac (jag (row := none) G8.out gX (fun g e => by cases e; exact .inr (by have := RI.out; omega)))
           have OX := jac (O8.out.more gX (jfp O8.out S3.out.2))
           clear hX gX
           go_wp2_with (go_at_call 53; refine (jaL _ _).mono ?_; rintro e w' ⟨rfl, rfl⟩)
           refine bodyPost_ret (jlY rfl _ _ bR rfl HX.out) rfl ?_
           exact jaI E4.out GX.out ⟨⟨qa, qn, qc⟩, rfl, OX.out.base_le Z3.out⟩
       | cons y r =>
        have NX := jac (jbV _ B x y r wr HC.out)
        go_wp2_with fail
        refine NX.out.mono ?_
        rintro e w2 ⟨rfl, hc2, hg2⟩
        have hlt := HC.out.lt
        have HC2 := jac hc2
        have HG2 := jac (jah HG.out hg2 (fun g e => by cases e; exact HB.out))
        have OW2 := jac (I0.out.kept (row := some B) hg2 (fun g e => by cases e; omega))
        have T2 := jac ((hg2.block bT (by have := BT.out; omega) (fun e => by have e2 := Option.some.inj e; have := BT.out; omega)).trans HT.out)
        have R2 := jac ((hg2.block bR (by have := BT.out; omega) (fun e => by have e2 := Option.some.inj e; have := BT.out; omega)).trans HR.out)
        obtain ⟨a0, a1, a2, a3⟩ := hc2.cells
        clear hc2 hg2 NX HC HG HT HR hlt
        by_cases h1 : y.num = 1
        ·have b1 : (y.num == 1) = true := by simp [h1]
         have H1 := jac h1
         clear h1
         obtain ⟨⟨q0, q1, q2⟩, qf0, qf1, qf2⟩ := jbk T2.out
         go_wp2_with fail
         have TX := jac (jaz B y w2 a1 a3)
         clear a0 a1 a2 a3
         rcases jaT y with ⟨sx, hx⟩ | hx
         ·rw [hx] at TX
          have ES := jac (HF.out.trans (jax (f := jca) (b := (sx, ss)) (by unfold jca; rw [if_pos H1.out]; rw [hx]; rfl)))
          clear hx
          refine TX.out.mono ?_
          rintro e w3 ⟨-, v, rfl, rfl, rfl⟩
          go_wp2_with fail
          have hgp := jao w2 bT 0 (.string sx)
          have T4 := jac ((put3 T2.out (.string sx)).1)
          have R4 := jac ((hgp.block bR (by have := HC2.out.lt; have := BT.out; omega) (fun e => BN.out (Option.some.inj e))).trans R2.out)
          have O4 := jac (OW2.out.kept hgp (fun g e => by cases e; have := BT.out; omega))
          have C4 := jac (HC2.out.kept hgp (fun g e => .inl (by cases e; exact BL.out.1)))
          have G4 := jac (jag (row := none) HG2.out hgp (fun g e => by cases e; exact .inr BL.out.2))
          clear hgp q0 q1 q2 qf0 qf1 qf2
          go_roundg r.length
          case measure => simp
          case rel => exact ⟨y, r, (sx, ss), rfl, R4.out, T4.out, O4.out, C4.out, G4.out, ES.out, by have := I1.out; simp at this ⊢; omega, by have t1 := I2.out; simp only [List.map_cons, jbi] at t1; show tot ss + _ ≤ _; omega⟩
         ·rw [hx] at TX
          have E : Hid (jaG s = .error 3) := by show _ = _; rw [E0.out, HF.out, jaJ (f := jca) (c := 3) (by unfold jca; rw [if_pos H1.out]; rw [hx]; rfl)]; rfl
          clear hx
          refine TX.out.mono ?_
          rintro e w3 ⟨hg3, rfl⟩
          exact ⟨rfl, jad E.out (jaa HG2.out hg3)⟩
        ·have b1 : (y.num == 1) = false := by simpa using h1
         have H1 := jac h1
         clear h1
         by_cases h2 : y.num = 2
         ·have b2 : (y.num == 2) = true := by simp [h2]
          have H2 := jac h2
          clear h2
          go_wp2_with fail
          have TX := jac (jaz B y w2 a1 a3)
          clear a0 a1 a2 a3
          rcases jaT y with ⟨sx, hx⟩ | hx
          ·rw [hx] at TX
           have TB := jac (jdT hx (Nat.le_refl _))
           have ES := jac (HF.out.trans (jax (f := jca) (b := (nm, ss ++ [sx])) (by unfold jca; rw [if_neg H1.out]; rw [if_pos H2.out]; rw [hx]; rfl)))
           clear hx
           refine TX.out.mono ?_
           rintro e w3 ⟨-, v, rfl, rfl, rfl⟩
           have OW : Hid (∀ o, jer (w2.alloc o) (B + 1) (.slice va ss.length vc) ss) := fun o => OW2.out.more (jab _ _)
           have sz : B + 1 ≤ w2.heap.size := HC2.out.lt
           have hle : ss.length + 1 ≤ 16777216 := by have := I1.out; simp at this; omega
           go_wp2_with (at_builtin; refine Wr.wpList_push rfl (.tmp 22) (.tmp 25) 32 9 1 16 (.string ⟨#[]⟩) is0 jbf rfl Tryz.underlying32 hs0 hs1 hs2 hs3 rfl (by decide) (B + 1) _ _ rfl (by exact OW.out _) w2.heap.size 1 sx #[.string sx] rfl (by exact heap_alloc_new w2 _) rfl rfl (jb6 sx) (by omega) (by simp only [maxLen]; omega) (by simp; omega) ?_; intro v' w8 hown' hgrow)
           have og := World.ownsRow.lt (OW.out (.cells #[.string sx] 9))
           have gn := jab w2 (.cells #[.string sx] 9)
           have ST : Hid (w.grownBy w8 none ∧ jer w8 (B + 1) v' (ss ++ [sx]) ∧ jdh w8 lo B y r) :=
            ⟨jah (jaa HG2.out gn) hgrow (fun g e => by have := og g e; have := HB.out; omega), hown', (HC2.out.more gn).kept hgrow (fun g e => by have := og g e; omega)⟩
           have T4 := jac ((hgrow.block bT (by have := gn.size; have := BT.out; omega) (fun e => by have := og bT e.symm; have := BT.out; omega)).trans ((gn.block bT (by have := BT.out; omega) (by simp)).trans T2.out))
           have R4 := jac ((hgrow.block bR (by have := gn.size; have := BT.out; omega) (fun e => by have := og bR e.symm; have := BT.out; omega)).trans ((gn.block bR (by have := BT.out; omega) (by simp)).trans R2.out))
           clear hown' hgrow OW og gn
           go_roundg r.length
           case measure => simp
           case rel => exact ⟨y, r, (nm, ss ++ [sx]), rfl, R4.out, T4.out, ST.out.2.1, ST.out.2.2, ST.out.1, ES.out, by have := I1.out; simp at this ⊢; omega, by have t1 := I2.out; have t2 := TB.out; simp only [List.map_cons, jbi] at t1; show tot (ss ++ [sx]) + _ ≤ _; rw [jf7, jf8]; omega⟩
          ·rw [hx] at TX
           have E : Hid (jaG s = .error 3) := by show _ = _; rw [E0.out, HF.out, jaJ (f := jca) (c := 3) (by unfold jca; rw [if_neg H1.out]; rw [if_pos H2.out]; rw [hx]; rfl)]; rfl
           clear hx
           refine TX.out.mono ?_
           rintro e w3 ⟨hg3, rfl⟩
           exact ⟨rfl, jad E.out (jaa HG2.out hg3)⟩
         ·have b2 : (y.num == 2) = false := by simpa using h2
          have H2 := jac h2
          clear h2
          have ES := jac (HF.out.trans (jax (f := jca) (b := (nm, ss)) (by unfold jca; rw [if_neg H1.out]; rw [if_neg H2.out])))
          clear a1 a2 a3
          go_wp2_with fail
          clear a0
          go_roundg r.length
          case measure => simp
          case rel => exact ⟨y, r, (nm, ss), rfl, R2.out, T2.out, OW2.out, HC2.out, HG2.out, ES.out, by have := I1.out; simp at this ⊢; omega, by have t1 := I2.out; simp only [List.map_cons, jbi] at t1; show tot ss + _ ≤ _; omega⟩
     ·rw [hc] at O
      have E : Hid (jaG s = .error c) := by show _ = _; unfold jaG; rw [hc]; rfl
      clear hc
      go_enter Tryz.func83, Tryz.ntmps83
      go_wp2_with fail
      rw [← hw0]
      refine (O.out w0).mono ?_
      rintro e w1 ⟨hg1, rfl⟩
      exact ⟨rfl, jad E.out (jaa g0 hg1)⟩
end Go.Proofs.YtbgbpfbjeleooaaGreat.Pd
namespace Go.Proofs.YtbgbpfbjeleooaaGreat.Pd
open Go.RowKit
open Wr (Fld)
def Ao (v : Value) (b : Nat) : Prop := v.ownBlock = some b
def Pr (v1 : Value) (A1 : Nat → Prop) (v2 : Value) (A2 : Nat → Prop) : Prop := (∀ b, v1.ownBlock = some b → ¬ A2 b) ∧ (∀ b, v2.ownBlock = some b → ¬ A1 b)
theorem Pr.symm {v1 v2 : Value} {A1 A2 : Nat → Prop} (h : Pr v1 A1 v2 A2) : Pr v2 A2 v1 A1 := ⟨h.2, h.1⟩
theorem Pr.step {v1 v2 v1' : Value} {A1 A2 A1' : Nat → Prop} {n : Nat} (h : Pr v1 A1 v2 A2) (hv : jee n v1 v1') (hA : ∀ b, A1' b → A1 b ∨ n ≤ b) (h2 : ∀ b, A2 b → b < n) (h3 : ∀ b, v2.ownBlock = some b → b < n) : Pr v1' A1' v2 A2 :=
 ⟨fun b e k => by
  rcases hv b e with e2 | e2
  ·exact h.1 b e2 k
  ·have := h2 b k; omega,
 fun b e k => by
  rcases hA b k with e2 | e2
  ·exact h.2 b e e2
  ·have := h3 b e; omega⟩
theorem jhg {n : Nat} {v v' : Value} (h : jee n v v') : ∀ b, Ao v' b → Ao v b ∨ n ≤ b := h
theorem jdW {w : World} {base : Nat} {v : Value} {ss : List ByteArray} (h : jer w base v ss) : ∀ b, v.ownBlock = some b → b < w.heap.size := fun b e => (World.ownsRow.lt h b e).2
theorem jer.grow {w w' : World} {base : Nat} {v : Value} {ss : List ByteArray} (h : jer w base v ss) {row : Option Nat} (hg : w.grownBy w' row) (hr : ∀ g, row = some g → ¬ Ao v g) : jer w' base v ss :=
 jdk h (fun b e => hg.block b (World.ownsRow.lt h b e).2 (fun e2 => hr b e2.symm e))
section
variable {α β : Type} {te : TypeId} {size : Nat} {f : α → List Value} {H : World → α → β → Prop} {foot : α → β → Nat → Prop}
def Al (foot : α → β → Nat → Prop) (v : Value) (ps : List (α × β)) (b : Nat) : Prop := v.ownBlock = some b ∨ ∃ p ∈ ps, foot p.1 p.2 b
abbrev jkM (te : TypeId) (size : Nat) (f : α → List Value) (H : World → α → β → Prop) (foot : α → β → Nat → Prop) (w : World) (lo : Nat) (v : Value) (ps : List (α × β)) : Prop := OwnD te size f H foot w lo w.heap.size v ps
theorem ja6 {w : World} {lo : Nat} {v : Value} {ps : List (α × β)} (h : jkM te size f H foot w lo v ps) {b : Nat} (hb : Al foot v ps b) : lo ≤ b ∧ b < w.heap.size := by
 rcases hb with e | ⟨p, hp, e⟩
 ·exact World.ownsRow.lt h.own b e
 ·have := h.new p hp b e; exact ⟨this.1, this.2.1⟩
theorem jbr {w w' : World} {lo : Nat} {v : Value} {ps : List (α × β)} (HK : jkd H foot) (h : jkM te size f H foot w lo v ps) {row : Option Nat} (hg : w.grownBy w' row) (hr : ∀ g, row = some g → ¬ Al foot v ps g) : jkM te size f H foot w' lo v ps :=
 ⟨jdk h.own (fun b e => hg.block b (World.ownsRow.lt h.own b e).2 (fun e2 => hr b e2.symm (.inl e))), fun b e => Nat.lt_of_lt_of_le (h.row b e) hg.size, fun p hp => HK _ _ _ _ (h.has p hp) (fun b hb e => hg.block b hb (fun e2 => hr b e2.symm (.inr ⟨p, hp, e⟩))), fun p hp b e => have k := h.new p hp b e; ⟨k.1, Nat.lt_of_lt_of_le k.2.1 hg.size, k.2.2⟩, Nat.le_refl _⟩
theorem jeW {w w' : World} {lo : Nat} {v : Value} {ps : List (α × β)} (HK : jkd H foot) (h : jkM te size f H foot w lo v ps) (hg : w.grownBy w' none) : jkM te size f H foot w' lo v ps := jbr HK h hg (by simp)
theorem jeX {w w' : World} {lo B : Nat} {v : Value} {ps : List (α × β)} (HK : jkd H foot) (h : jkM te size f H foot w lo v ps) (hg : w.grownBy w' (some B)) (hB : B < lo) : jkM te size f H foot w' lo v ps :=
 jbr HK h hg (fun g e k => by cases e; have := (ja6 h k).1; omega)
theorem jcs {m : Nat} {v v' : Value} {ps : List (α × β)} {y : α} {c : β} (hv : jee m v v') (fy : ∀ b, foot y c b → m ≤ b) : ∀ b, Al foot v' (ps ++ [(y, c)]) b → Al foot v ps b ∨ m ≤ b := by
 intro b h
 rcases h with e | ⟨p, hp, e⟩
 ·rcases hv b e with h | h
  ·exact .inl (.inl h)
  ·exact .inr h
 ·rcases List.mem_append.1 hp with hp | hp
  ·exact .inl (.inr ⟨p, hp, e⟩)
  ·obtain rfl : p = (y, c) := by simpa using hp
   exact .inr (fy b e)
theorem jgM (v : Value) (A : Nat → Prop) : Pr (.slice none 0 0) (Al foot (.slice none 0 0) ([] : List (α × β))) v A :=
 ⟨fun b e => by simp [Value.ownBlock] at e, fun b _ k => by rcases k with k | ⟨p, hp, -⟩; · simp [Value.ownBlock] at k
                                                            ·cases hp⟩
end
theorem jni (v : Value) (A : Nat → Prop) : Pr (.slice none 0 0) (Ao (.slice none 0 0)) v A :=
 ⟨fun b e => by simp [Value.ownBlock] at e, fun b _ k => by simp [Ao, Value.ownBlock] at k⟩
theorem jbt {m g n cap : Nat} {v : Value} (h : v.ownBlock = some g ∨ m ≤ g) : jee m v (.slice (some ⟨g, 0, none⟩) n cap) := fun b e => by
 have e2 : g = b := by simpa [Value.ownBlock] using e
 subst e2
 exact h
theorem jkN {α : Type} {ops : Array Oper} {rest : List Oper} {o : Oper} {a : Act} {w : World} {Q : Exit → Act → World → Prop} (hgd : o.guard = none) (s x : Operand) (t te : TypeId) (size bytes : Nat) (z : Value) (i0 : TypeInfo) (f : α → List Value)
    (ho : o.op = .call { callee := .builtin .append, args := #[s, x], argTypes := #[t, t] }) (ht : Tryz.prog.underlying t = some (.slice te)) (hi : Tryz.prog.info? te = some i0) (hz : i0.zero = some z)
    (hsize : i0.size = size) (hby : i0.bytes = bytes) (hzs : z.cells.size = size) (hsz : 0 < size) (base : Nat) (v : Value) (xs : List α) (hs : a.eval s = v) (hown : OwnsL te size f w base v xs)
    (B c : Nat) (y : α) (cs : Array Value) (hx : a.eval x = .slice (some ⟨B, 0, none⟩) 1 c) (hB : w.heap[B]? = some (.cells cs te (0, 0))) (hcs : cs.toList = f y) (hl : (f y).length = size) (h1 : ∀ u ∈ f y, u.oneCell' = true)
    (hbytes : (xs.length + 1) * bytes ≤ 140737488355328) (h63 : xs.length + 1 ≤ maxLen) (hbase : base ≤ w.heap.size)
    (h : ∀ g cap w', OwnsL te size f w' base (.slice (some ⟨g, 0, none⟩) (xs.length + 1) cap) (xs ++ [y]) → w.grownBy w' v.ownBlock → (v.ownBlock = some g ∨ g = w.heap.size) → wpList Tryz.prog ops Q rest (a.put o.dst (.slice (some ⟨g, 0, none⟩) (xs.length + 1) cap)) w') : wpList Tryz.prog ops Q (o :: rest) a w := by
     refine wpList_append_lies w hgd s x t ho base te i0 z size bytes ht hi hz hsize hby hzs hsz v _ _ hs hown ⟨B, 0, none⟩ 1 c (f y) hx (by rw [hl, Nat.one_mul]) ?_ h1 (by decide) h63 hbytes hbase _ rfl ?_
     ·intro j u hu
      have : cs[j]? = some u := by rw [← Array.getElem?_toList, hcs]; exact hu
      have k := cell_of_row w B j _ _ (0, 0) hB
      by_cases hj : j = 0
      ·subst hj; simpa [Addr.add, this] using k
      ·simpa [Addr.add, this, hj] using k
     ·intro g cap w' ho' hg hat _
      exact h g cap w' (by unfold OwnsL; rw [List.length_append, List.flatMap_append]; simpa using ho') hg hat
def jgN (a : Atr) (_ : Cont) (b : Nat) : Prop := a.dv.v.ownBlock = some b ∨ a.tv.v.ownBlock = some b ∨ a.iv.v.ownBlock = some b
theorem jc8 : jkd Has jgN := fun _ _ _ _ h hk => h.kept hk
abbrev jkO (w : World) (lo : Nat) (v : Value) (ps : List (Atr × Cont)) : Prop := jkM 78 9 jbu Has jgN w lo v ps
end Go.Proofs.YtbgbpfbjeleooaaGreat.Pd
namespace Go.Proofs.YtbgbpfbjeleooaaGreat.Pd
open Go.RowKit
open Wr (Fld)
def jcP (a : Atr) : R Atr :=
 if a.kind = 1 then .ok ⟨a.name, a.kind, a.f, 0, ⟨#[]⟩, 0, ⟨none, 0, 0⟩, ⟨none, 0, 0⟩, ⟨none, 0, 0⟩⟩
 else if a.kind = 2 then .ok ⟨a.name, a.kind, 0, a.i, ⟨#[]⟩, 0, ⟨none, 0, 0⟩, ⟨none, 0, 0⟩, ⟨none, 0, 0⟩⟩
 else if a.kind = 3 then .ok ⟨a.name, a.kind, 0, 0, a.s, 0, ⟨none, 0, 0⟩, ⟨none, 0, 0⟩, ⟨none, 0, 0⟩⟩
 else if a.kind = 4 then .ok ⟨a.name, a.kind, 0, 0, ⟨#[]⟩, a.ty, a.dv, a.tv, ⟨none, 0, 0⟩⟩
 else if a.kind = 7 then .ok ⟨a.name, a.kind, 0, 0, ⟨#[]⟩, 0, ⟨none, 0, 0⟩, ⟨none, 0, 0⟩, a.iv⟩
 else .error 5
theorem jbC (x : World) (B : Nat) (cs : Array Value) : x.grownBy (x.setRow B cs) (some B) := ⟨rfl, rfl, rfl, by simp, fun k _ hk => setRow_other _ _ _ _ (fun e => hk (by rw [e]))⟩
theorem jbz : (Tryz.prog.info? 78).map (·.size) = some 9 := by kernel_rfl
theorem jcI {fn : Func} {p : Tmp} (h : fn.results = #[.cell p 78]) (tmps : Array Value) (w : World) (B : Nat) (hp : tmps.getD p undef = .pointer (some ⟨B, 0, none⟩)) {z0 z1 z2 z3 z4 z5 z6 z7 z8 : Value}
    (hb : w.heap[B]? = some (.cells #[z0, z1, z2, z3, z4, z5, z6, z7, z8] 78 (0, 0))) : (results fn tmps).run Tryz.prog w = .ok (.agg #[z0, z1, z2, z3, z4, z5, z6, z7, z8]) w :=
     results_cell_row h tmps w B 78 #[z0, z1, z2, z3, z4, z5, z6, z7, z8] (0, 0) _ hp hb Tryz.underlying78 rfl (by rw [jbz]; rfl)
theorem jat {w : World} {B : Nat} {z0 z1 z2 z3 z4 z5 z6 z7 z8 : Value} {t : TypeId} (hb : w.heap[B]? = some (.cells #[z0, z1, z2, z3, z4, z5, z6, z7, z8] t (0, 0))) :
    (w.cell? ⟨B, 0, none⟩ = some z0 ∧ w.cell? ⟨B, 1, none⟩ = some z1 ∧ w.cell? ⟨B, 2, none⟩ = some z2 ∧ w.cell? ⟨B, 3, none⟩ = some z3 ∧ w.cell? ⟨B, 4, none⟩ = some z4 ∧ w.cell? ⟨B, 5, none⟩ = some z5 ∧ w.cell? ⟨B, 6, none⟩ = some z6 ∧ w.cell? ⟨B, 7, none⟩ = some z7 ∧ w.cell? ⟨B, 8, none⟩ = some z8) ∧ w.frozen? ⟨B, 0, none⟩ = false ∧ w.frozen? ⟨B, 1, none⟩ = false ∧ w.frozen? ⟨B, 2, none⟩ = false ∧ w.frozen? ⟨B, 3, none⟩ = false ∧ w.frozen? ⟨B, 4, none⟩ = false ∧ w.frozen? ⟨B, 5, none⟩ = false ∧ w.frozen? ⟨B, 6, none⟩ = false ∧ w.frozen? ⟨B, 7, none⟩ = false ∧ w.frozen? ⟨B, 8, none⟩ = false :=
     ⟨⟨(cell_of_row _ _ 0 _ _ (0, 0) hb).trans rfl, (cell_of_row _ _ 1 _ _ (0, 0) hb).trans rfl, (cell_of_row _ _ 2 _ _ (0, 0) hb).trans rfl, (cell_of_row _ _ 3 _ _ (0, 0) hb).trans rfl, (cell_of_row _ _ 4 _ _ (0, 0) hb).trans rfl, (cell_of_row _ _ 5 _ _ (0, 0) hb).trans rfl, (cell_of_row _ _ 6 _ _ (0, 0) hb).trans rfl, (cell_of_row _ _ 7 _ _ (0, 0) hb).trans rfl, (cell_of_row _ _ 8 _ _ (0, 0) hb).trans rfl⟩, frozen_of_row w B 0 _ _ hb, frozen_of_row w B 1 _ _ hb, frozen_of_row w B 2 _ _ hb, frozen_of_row w B 3 _ _ hb, frozen_of_row w B 4 _ _ hb, frozen_of_row w B 5 _ _ hb, frozen_of_row w B 6 _ _ hb, frozen_of_row w B 7 _ _ hb, frozen_of_row w B 8 _ _ hb⟩
theorem jlZ (a : Atr) (w : World) (h : a.kind = 1) : Calls Tryz.prog 136 #[jb7 a] w (jbR w (jcP a) fun b v _ => v = jb7 b) := by
 obtain ⟨nm, kd, ff, ii, ss, ty, ⟨da, dn, dc⟩, ⟨ta, tn, tc⟩, ⟨va, vn, vc⟩⟩ := a
 unfold jb7
 simp only at *
 obtain ⟨R0, hR0⟩ : ∃ r, r = jcP ⟨nm, kd, ff, ii, ss, ty, ⟨da, dn, dc⟩, ⟨ta, tn, tc⟩, ⟨va, vn, vc⟩⟩ := ⟨_, rfl⟩
 rw [← hR0]
 have HR := jac hR0
 clear hR0
 subst h
 have G0 : Hid (w.grownBy ((((w.alloc (.cells #[.string nm, .int .i64 1, .int .i64 ff, .int .i64 ii, .string ss, .int .i64 ty, .slice da dn dc, .slice ta tn tc, .slice va vn vc] 78)).alloc (.cells #[.string ⟨#[]⟩, .int .i64 0, .int .i64 0, .int .i64 0, .string ⟨#[]⟩, .int .i64 0, .slice none 0 0, .slice none 0 0, .slice none 0 0] 78)).alloc (.cells #[.string ⟨#[]⟩, .int .i64 0, .int .i64 0, .int .i64 0, .string ⟨#[]⟩, .int .i64 0, .slice none 0 0, .slice none 0 0, .slice none 0 0] 78))) none) := jaa (jaa (jab _ _) (jab _ _)) (jab _ _)
 have H3 := jb0 w #[.string nm, .int .i64 1, .int .i64 ff, .int .i64 ii, .string ss, .int .i64 ty, .slice da dn dc, .slice ta tn tc, .slice va vn vc] #[.string ⟨#[]⟩, .int .i64 0, .int .i64 0, .int .i64 0, .string ⟨#[]⟩, .int .i64 0, .slice none 0 0, .slice none 0 0, .slice none 0 0] #[.string ⟨#[]⟩, .int .i64 0, .int .i64 0, .int .i64 0, .string ⟨#[]⟩, .int .i64 0, .slice none 0 0, .slice none 0 0, .slice none 0 0] 78 78 78
 have H2 := jbL w #[.string nm, .int .i64 1, .int .i64 ff, .int .i64 ii, .string ss, .int .i64 ty, .slice da dn dc, .slice ta tn tc, .slice va vn vc] #[.string ⟨#[]⟩, .int .i64 0, .int .i64 0, .int .i64 0, .string ⟨#[]⟩, .int .i64 0, .slice none 0 0, .slice none 0 0, .slice none 0 0] #[.string ⟨#[]⟩, .int .i64 0, .int .i64 0, .int .i64 0, .string ⟨#[]⟩, .int .i64 0, .slice none 0 0, .slice none 0 0, .slice none 0 0] 78 78 78
 have H1 := jbZ w #[.string nm, .int .i64 1, .int .i64 ff, .int .i64 ii, .string ss, .int .i64 ty, .slice da dn dc, .slice ta tn tc, .slice va vn vc] #[.string ⟨#[]⟩, .int .i64 0, .int .i64 0, .int .i64 0, .string ⟨#[]⟩, .int .i64 0, .slice none 0 0, .slice none 0 0, .slice none 0 0] #[.string ⟨#[]⟩, .int .i64 0, .int .i64 0, .int .i64 0, .string ⟨#[]⟩, .int .i64 0, .slice none 0 0, .slice none 0 0, .slice none 0 0] 78 78 78
 have X3 := setRow_heap _ (w.heap.size + 1 + 1) _ #[.string nm, .int .i64 1, .int .i64 0, .int .i64 0, .string ⟨#[]⟩, .int .i64 0, .slice none 0 0, .slice none 0 0, .slice none 0 0] _ _ H3
 have gr := jbC ((((w.alloc (.cells #[.string nm, .int .i64 1, .int .i64 ff, .int .i64 ii, .string ss, .int .i64 ty, .slice da dn dc, .slice ta tn tc, .slice va vn vc] 78)).alloc (.cells #[.string ⟨#[]⟩, .int .i64 0, .int .i64 0, .int .i64 0, .string ⟨#[]⟩, .int .i64 0, .slice none 0 0, .slice none 0 0, .slice none 0 0] 78)).alloc (.cells #[.string ⟨#[]⟩, .int .i64 0, .int .i64 0, .int .i64 0, .string ⟨#[]⟩, .int .i64 0, .slice none 0 0, .slice none 0 0, .slice none 0 0] 78))) (w.heap.size + 1 + 1) #[.string nm, .int .i64 1, .int .i64 0, .int .i64 0, .string ⟨#[]⟩, .int .i64 0, .slice none 0 0, .slice none 0 0, .slice none 0 0]
 have sz : ((((w.alloc (.cells #[.string nm, .int .i64 1, .int .i64 ff, .int .i64 ii, .string ss, .int .i64 ty, .slice da dn dc, .slice ta tn tc, .slice va vn vc] 78)).alloc (.cells #[.string ⟨#[]⟩, .int .i64 0, .int .i64 0, .int .i64 0, .string ⟨#[]⟩, .int .i64 0, .slice none 0 0, .slice none 0 0, .slice none 0 0] 78)).alloc (.cells #[.string ⟨#[]⟩, .int .i64 0, .int .i64 0, .int .i64 0, .string ⟨#[]⟩, .int .i64 0, .slice none 0 0, .slice none 0 0, .slice none 0 0] 78))).heap.size = w.heap.size + 1 + 1 + 1 := by rw [jas, jas, jas]
 have X1 := (gr.block (w.heap.size) (by omega) (fun e => by have := Option.some.inj e; omega)).trans H1
 have X2 := (gr.block (w.heap.size + 1) (by omega) (fun e => by have := Option.some.inj e; omega)).trans H2
 have G1 := jag (row := none) G0.out gr (fun g e => by cases e; exact .inr (by omega))
 have sz1 := gr.size
 obtain ⟨w1, hw1⟩ : ∃ w1, w1 = ((((w.alloc (.cells #[.string nm, .int .i64 1, .int .i64 ff, .int .i64 ii, .string ss, .int .i64 ty, .slice da dn dc, .slice ta tn tc, .slice va vn vc] 78)).alloc (.cells #[.string ⟨#[]⟩, .int .i64 0, .int .i64 0, .int .i64 0, .string ⟨#[]⟩, .int .i64 0, .slice none 0 0, .slice none 0 0, .slice none 0 0] 78)).alloc (.cells #[.string ⟨#[]⟩, .int .i64 0, .int .i64 0, .int .i64 0, .string ⟨#[]⟩, .int .i64 0, .slice none 0 0, .slice none 0 0, .slice none 0 0] 78)).setRow (w.heap.size + 1 + 1) #[.string nm, .int .i64 1, .int .i64 0, .int .i64 0, .string ⟨#[]⟩, .int .i64 0, .slice none 0 0, .slice none 0 0, .slice none 0 0]) := ⟨_, rfl⟩
 rw [← hw1] at X3 X1 X2 G1 sz1
 have hw2 := hw1.symm
 clear hw1
 obtain ⟨⟨x0, x1, x2, x3, x4, x5, x6, x7, x8⟩, xf⟩ := jat X1
 obtain ⟨⟨z0, z1, z2, z3, z4, z5, z6, z7, z8⟩, y0, y1, y2, y3, y4, y5, y6, y7, y8⟩ := jat X3
 have HX3 := jac X3
 have HX2 := jac X2
 have HG1 := jac G1
 have SZ : Hid (w.heap.size + 1 < w1.heap.size ∧ w.heap.size + 1 + 1 < w1.heap.size) := ⟨by omega, by omega⟩
 have n1 : w.heap.size ≠ w.heap.size + 1 + 1 := by omega
 have n2 : w.heap.size + 1 + 1 ≠ w.heap.size := by omega
 clear X1 X2 X3 G1 gr sz sz1 H1 H2 xf
 have V0 : (w1.setCell ⟨w.heap.size + 1 + 1, 2, none⟩ (.int .i64 ff)).heap[w.heap.size + 1 + 1]? = some (.cells #[.string nm, .int .i64 1, .int .i64 ff, .int .i64 0, .string ⟨#[]⟩, .int .i64 0, .slice none 0 0, .slice none 0 0, .slice none 0 0] 78 (0, 0)) := by simpa using heap_setCell_same w1 (w.heap.size + 1 + 1) 2 _ _ (.int .i64 ff) HX3.out
 have gp := jao w1 (w.heap.size + 1 + 1) 2 (.int .i64 ff)
 have Y2 := (gp.block (w.heap.size + 1) SZ.out.1 (fun e => by have := Option.some.inj e; omega)).trans HX2.out
 have X9 := jac (setRow_heap _ (w.heap.size + 1) _ #[.string nm, .int .i64 1, .int .i64 ff, .int .i64 0, .string ⟨#[]⟩, .int .i64 0, .slice none 0 0, .slice none 0 0, .slice none 0 0] _ _ Y2)
 have GX := jac (jag (row := none) (jag (row := none) HG1.out gp (fun g e => by cases e; exact .inr (by omega))) (jbC (w1.setCell ⟨w.heap.size + 1 + 1, 2, none⟩ (.int .i64 ff)) (w.heap.size + 1) #[.string nm, .int .i64 1, .int .i64 ff, .int .i64 0, .string ⟨#[]⟩, .int .i64 0, .slice none 0 0, .slice none 0 0, .slice none 0 0]) (fun g e => by cases e; exact .inr (by omega)))
 have HV := jac V0
 clear gp V0
 go_enter Tryz.func136, Tryz.ntmps136
 go_wp2_with (first | (refine wpList_store_row rfl 78 (.tmp 3) (.tmp 8) rfl (w.heap.size + 1 + 1) #[.string nm, .int .i64 1, .int .i64 0, .int .i64 0, .string ⟨#[]⟩, .int .i64 0, .slice none 0 0, .slice none 0 0, .slice none 0 0] rfl rfl 78 _ H3 jbz rfl (by simp [Value.oneCell']) ?_; rw [hw2]) | (refine wpList_store_row rfl 78 (.tmp 2) (.tmp 37) rfl (w.heap.size + 1) #[.string nm, .int .i64 1, .int .i64 ff, .int .i64 0, .string ⟨#[]⟩, .int .i64 0, .slice none 0 0, .slice none 0 0, .slice none 0 0] rfl rfl 78 _ Y2 jbz rfl (by simp [Value.oneCell']) ?_))
 refine bodyPost_ret (jcI rfl _ _ (w.heap.size + 1) rfl X9.out) rfl ?_
 exact jaI (HR.out.trans (by first | rfl | simp [jcP])) GX.out rfl
theorem jl0 (a : Atr) (w : World) (h : a.kind = 2) : Calls Tryz.prog 136 #[jb7 a] w (jbR w (jcP a) fun b v _ => v = jb7 b) := by
 obtain ⟨nm, kd, ff, ii, ss, ty, ⟨da, dn, dc⟩, ⟨ta, tn, tc⟩, ⟨va, vn, vc⟩⟩ := a
 unfold jb7
 simp only at *
 obtain ⟨R0, hR0⟩ : ∃ r, r = jcP ⟨nm, kd, ff, ii, ss, ty, ⟨da, dn, dc⟩, ⟨ta, tn, tc⟩, ⟨va, vn, vc⟩⟩ := ⟨_, rfl⟩
 rw [← hR0]
 have HR := jac hR0
 clear hR0
 subst h
 have G0 : Hid (w.grownBy ((((w.alloc (.cells #[.string nm, .int .i64 2, .int .i64 ff, .int .i64 ii, .string ss, .int .i64 ty, .slice da dn dc, .slice ta tn tc, .slice va vn vc] 78)).alloc (.cells #[.string ⟨#[]⟩, .int .i64 0, .int .i64 0, .int .i64 0, .string ⟨#[]⟩, .int .i64 0, .slice none 0 0, .slice none 0 0, .slice none 0 0] 78)).alloc (.cells #[.string ⟨#[]⟩, .int .i64 0, .int .i64 0, .int .i64 0, .string ⟨#[]⟩, .int .i64 0, .slice none 0 0, .slice none 0 0, .slice none 0 0] 78))) none) := jaa (jaa (jab _ _) (jab _ _)) (jab _ _)
 have H3 := jb0 w #[.string nm, .int .i64 2, .int .i64 ff, .int .i64 ii, .string ss, .int .i64 ty, .slice da dn dc, .slice ta tn tc, .slice va vn vc] #[.string ⟨#[]⟩, .int .i64 0, .int .i64 0, .int .i64 0, .string ⟨#[]⟩, .int .i64 0, .slice none 0 0, .slice none 0 0, .slice none 0 0] #[.string ⟨#[]⟩, .int .i64 0, .int .i64 0, .int .i64 0, .string ⟨#[]⟩, .int .i64 0, .slice none 0 0, .slice none 0 0, .slice none 0 0] 78 78 78
 have H2 := jbL w #[.string nm, .int .i64 2, .int .i64 ff, .int .i64 ii, .string ss, .int .i64 ty, .slice da dn dc, .slice ta tn tc, .slice va vn vc] #[.string ⟨#[]⟩, .int .i64 0, .int .i64 0, .int .i64 0, .string ⟨#[]⟩, .int .i64 0, .slice none 0 0, .slice none 0 0, .slice none 0 0] #[.string ⟨#[]⟩, .int .i64 0, .int .i64 0, .int .i64 0, .string ⟨#[]⟩, .int .i64 0, .slice none 0 0, .slice none 0 0, .slice none 0 0] 78 78 78
 have H1 := jbZ w #[.string nm, .int .i64 2, .int .i64 ff, .int .i64 ii, .string ss, .int .i64 ty, .slice da dn dc, .slice ta tn tc, .slice va vn vc] #[.string ⟨#[]⟩, .int .i64 0, .int .i64 0, .int .i64 0, .string ⟨#[]⟩, .int .i64 0, .slice none 0 0, .slice none 0 0, .slice none 0 0] #[.string ⟨#[]⟩, .int .i64 0, .int .i64 0, .int .i64 0, .string ⟨#[]⟩, .int .i64 0, .slice none 0 0, .slice none 0 0, .slice none 0 0] 78 78 78
 have X3 := setRow_heap _ (w.heap.size + 1 + 1) _ #[.string nm, .int .i64 2, .int .i64 0, .int .i64 0, .string ⟨#[]⟩, .int .i64 0, .slice none 0 0, .slice none 0 0, .slice none 0 0] _ _ H3
 have gr := jbC ((((w.alloc (.cells #[.string nm, .int .i64 2, .int .i64 ff, .int .i64 ii, .string ss, .int .i64 ty, .slice da dn dc, .slice ta tn tc, .slice va vn vc] 78)).alloc (.cells #[.string ⟨#[]⟩, .int .i64 0, .int .i64 0, .int .i64 0, .string ⟨#[]⟩, .int .i64 0, .slice none 0 0, .slice none 0 0, .slice none 0 0] 78)).alloc (.cells #[.string ⟨#[]⟩, .int .i64 0, .int .i64 0, .int .i64 0, .string ⟨#[]⟩, .int .i64 0, .slice none 0 0, .slice none 0 0, .slice none 0 0] 78))) (w.heap.size + 1 + 1) #[.string nm, .int .i64 2, .int .i64 0, .int .i64 0, .string ⟨#[]⟩, .int .i64 0, .slice none 0 0, .slice none 0 0, .slice none 0 0]
 have sz : ((((w.alloc (.cells #[.string nm, .int .i64 2, .int .i64 ff, .int .i64 ii, .string ss, .int .i64 ty, .slice da dn dc, .slice ta tn tc, .slice va vn vc] 78)).alloc (.cells #[.string ⟨#[]⟩, .int .i64 0, .int .i64 0, .int .i64 0, .string ⟨#[]⟩, .int .i64 0, .slice none 0 0, .slice none 0 0, .slice none 0 0] 78)).alloc (.cells #[.string ⟨#[]⟩, .int .i64 0, .int .i64 0, .int .i64 0, .string ⟨#[]⟩, .int .i64 0, .slice none 0 0, .slice none 0 0, .slice none 0 0] 78))).heap.size = w.heap.size + 1 + 1 + 1 := by rw [jas, jas, jas]
 have X1 := (gr.block (w.heap.size) (by omega) (fun e => by have := Option.some.inj e; omega)).trans H1
 have X2 := (gr.block (w.heap.size + 1) (by omega) (fun e => by have := Option.some.inj e; omega)).trans H2
 have G1 := jag (row := none) G0.out gr (fun g e => by cases e; exact .inr (by omega))
 have sz1 := gr.size
 obtain ⟨w1, hw1⟩ : ∃ w1, w1 = ((((w.alloc (.cells #[.string nm, .int .i64 2, .int .i64 ff, .int .i64 ii, .string ss, .int .i64 ty, .slice da dn dc, .slice ta tn tc, .slice va vn vc] 78)).alloc (.cells #[.string ⟨#[]⟩, .int .i64 0, .int .i64 0, .int .i64 0, .string ⟨#[]⟩, .int .i64 0, .slice none 0 0, .slice none 0 0, .slice none 0 0] 78)).alloc (.cells #[.string ⟨#[]⟩, .int .i64 0, .int .i64 0, .int .i64 0, .string ⟨#[]⟩, .int .i64 0, .slice none 0 0, .slice none 0 0, .slice none 0 0] 78)).setRow (w.heap.size + 1 + 1) #[.string nm, .int .i64 2, .int .i64 0, .int .i64 0, .string ⟨#[]⟩, .int .i64 0, .slice none 0 0, .slice none 0 0, .slice none 0 0]) := ⟨_, rfl⟩
 rw [← hw1] at X3 X1 X2 G1 sz1
 have hw2 := hw1.symm
 clear hw1
 obtain ⟨⟨x0, x1, x2, x3, x4, x5, x6, x7, x8⟩, xf⟩ := jat X1
 obtain ⟨⟨z0, z1, z2, z3, z4, z5, z6, z7, z8⟩, y0, y1, y2, y3, y4, y5, y6, y7, y8⟩ := jat X3
 have HX3 := jac X3
 have HX2 := jac X2
 have HG1 := jac G1
 have SZ : Hid (w.heap.size + 1 < w1.heap.size ∧ w.heap.size + 1 + 1 < w1.heap.size) := ⟨by omega, by omega⟩
 have n1 : w.heap.size ≠ w.heap.size + 1 + 1 := by omega
 have n2 : w.heap.size + 1 + 1 ≠ w.heap.size := by omega
 clear X1 X2 X3 G1 gr sz sz1 H1 H2 xf
 have V0 : (w1.setCell ⟨w.heap.size + 1 + 1, 3, none⟩ (.int .i64 ii)).heap[w.heap.size + 1 + 1]? = some (.cells #[.string nm, .int .i64 2, .int .i64 0, .int .i64 ii, .string ⟨#[]⟩, .int .i64 0, .slice none 0 0, .slice none 0 0, .slice none 0 0] 78 (0, 0)) := by simpa using heap_setCell_same w1 (w.heap.size + 1 + 1) 3 _ _ (.int .i64 ii) HX3.out
 have gp := jao w1 (w.heap.size + 1 + 1) 3 (.int .i64 ii)
 have Y2 := (gp.block (w.heap.size + 1) SZ.out.1 (fun e => by have := Option.some.inj e; omega)).trans HX2.out
 have X9 := jac (setRow_heap _ (w.heap.size + 1) _ #[.string nm, .int .i64 2, .int .i64 0, .int .i64 ii, .string ⟨#[]⟩, .int .i64 0, .slice none 0 0, .slice none 0 0, .slice none 0 0] _ _ Y2)
 have GX := jac (jag (row := none) (jag (row := none) HG1.out gp (fun g e => by cases e; exact .inr (by omega))) (jbC (w1.setCell ⟨w.heap.size + 1 + 1, 3, none⟩ (.int .i64 ii)) (w.heap.size + 1) #[.string nm, .int .i64 2, .int .i64 0, .int .i64 ii, .string ⟨#[]⟩, .int .i64 0, .slice none 0 0, .slice none 0 0, .slice none 0 0]) (fun g e => by cases e; exact .inr (by omega)))
 have HV := jac V0
 clear gp V0
 go_enter Tryz.func136, Tryz.ntmps136
 go_wp2_with (first | (refine wpList_store_row rfl 78 (.tmp 3) (.tmp 8) rfl (w.heap.size + 1 + 1) #[.string nm, .int .i64 2, .int .i64 0, .int .i64 0, .string ⟨#[]⟩, .int .i64 0, .slice none 0 0, .slice none 0 0, .slice none 0 0] rfl rfl 78 _ H3 jbz rfl (by simp [Value.oneCell']) ?_; rw [hw2]) | (refine wpList_store_row rfl 78 (.tmp 2) (.tmp 37) rfl (w.heap.size + 1) #[.string nm, .int .i64 2, .int .i64 0, .int .i64 ii, .string ⟨#[]⟩, .int .i64 0, .slice none 0 0, .slice none 0 0, .slice none 0 0] rfl rfl 78 _ Y2 jbz rfl (by simp [Value.oneCell']) ?_))
 refine bodyPost_ret (jcI rfl _ _ (w.heap.size + 1) rfl X9.out) rfl ?_
 exact jaI (HR.out.trans (by first | rfl | simp [jcP])) GX.out rfl
theorem jl1 (a : Atr) (w : World) (h : a.kind = 3) : Calls Tryz.prog 136 #[jb7 a] w (jbR w (jcP a) fun b v _ => v = jb7 b) := by
 obtain ⟨nm, kd, ff, ii, ss, ty, ⟨da, dn, dc⟩, ⟨ta, tn, tc⟩, ⟨va, vn, vc⟩⟩ := a
 unfold jb7
 simp only at *
 obtain ⟨R0, hR0⟩ : ∃ r, r = jcP ⟨nm, kd, ff, ii, ss, ty, ⟨da, dn, dc⟩, ⟨ta, tn, tc⟩, ⟨va, vn, vc⟩⟩ := ⟨_, rfl⟩
 rw [← hR0]
 have HR := jac hR0
 clear hR0
 subst h
 have G0 : Hid (w.grownBy ((((w.alloc (.cells #[.string nm, .int .i64 3, .int .i64 ff, .int .i64 ii, .string ss, .int .i64 ty, .slice da dn dc, .slice ta tn tc, .slice va vn vc] 78)).alloc (.cells #[.string ⟨#[]⟩, .int .i64 0, .int .i64 0, .int .i64 0, .string ⟨#[]⟩, .int .i64 0, .slice none 0 0, .slice none 0 0, .slice none 0 0] 78)).alloc (.cells #[.string ⟨#[]⟩, .int .i64 0, .int .i64 0, .int .i64 0, .string ⟨#[]⟩, .int .i64 0, .slice none 0 0, .slice none 0 0, .slice none 0 0] 78))) none) := jaa (jaa (jab _ _) (jab _ _)) (jab _ _)
 have H3 := jb0 w #[.string nm, .int .i64 3, .int .i64 ff, .int .i64 ii, .string ss, .int .i64 ty, .slice da dn dc, .slice ta tn tc, .slice va vn vc] #[.string ⟨#[]⟩, .int .i64 0, .int .i64 0, .int .i64 0, .string ⟨#[]⟩, .int .i64 0, .slice none 0 0, .slice none 0 0, .slice none 0 0] #[.string ⟨#[]⟩, .int .i64 0, .int .i64 0, .int .i64 0, .string ⟨#[]⟩, .int .i64 0, .slice none 0 0, .slice none 0 0, .slice none 0 0] 78 78 78
 have H2 := jbL w #[.string nm, .int .i64 3, .int .i64 ff, .int .i64 ii, .string ss, .int .i64 ty, .slice da dn dc, .slice ta tn tc, .slice va vn vc] #[.string ⟨#[]⟩, .int .i64 0, .int .i64 0, .int .i64 0, .string ⟨#[]⟩, .int .i64 0, .slice none 0 0, .slice none 0 0, .slice none 0 0] #[.string ⟨#[]⟩, .int .i64 0, .int .i64 0, .int .i64 0, .string ⟨#[]⟩, .int .i64 0, .slice none 0 0, .slice none 0 0, .slice none 0 0] 78 78 78
 have H1 := jbZ w #[.string nm, .int .i64 3, .int .i64 ff, .int .i64 ii, .string ss, .int .i64 ty, .slice da dn dc, .slice ta tn tc, .slice va vn vc] #[.string ⟨#[]⟩, .int .i64 0, .int .i64 0, .int .i64 0, .string ⟨#[]⟩, .int .i64 0, .slice none 0 0, .slice none 0 0, .slice none 0 0] #[.string ⟨#[]⟩, .int .i64 0, .int .i64 0, .int .i64 0, .string ⟨#[]⟩, .int .i64 0, .slice none 0 0, .slice none 0 0, .slice none 0 0] 78 78 78
 have X3 := setRow_heap _ (w.heap.size + 1 + 1) _ #[.string nm, .int .i64 3, .int .i64 0, .int .i64 0, .string ⟨#[]⟩, .int .i64 0, .slice none 0 0, .slice none 0 0, .slice none 0 0] _ _ H3
 have gr := jbC ((((w.alloc (.cells #[.string nm, .int .i64 3, .int .i64 ff, .int .i64 ii, .string ss, .int .i64 ty, .slice da dn dc, .slice ta tn tc, .slice va vn vc] 78)).alloc (.cells #[.string ⟨#[]⟩, .int .i64 0, .int .i64 0, .int .i64 0, .string ⟨#[]⟩, .int .i64 0, .slice none 0 0, .slice none 0 0, .slice none 0 0] 78)).alloc (.cells #[.string ⟨#[]⟩, .int .i64 0, .int .i64 0, .int .i64 0, .string ⟨#[]⟩, .int .i64 0, .slice none 0 0, .slice none 0 0, .slice none 0 0] 78))) (w.heap.size + 1 + 1) #[.string nm, .int .i64 3, .int .i64 0, .int .i64 0, .string ⟨#[]⟩, .int .i64 0, .slice none 0 0, .slice none 0 0, .slice none 0 0]
 have sz : ((((w.alloc (.cells #[.string nm, .int .i64 3, .int .i64 ff, .int .i64 ii, .string ss, .int .i64 ty, .slice da dn dc, .slice ta tn tc, .slice va vn vc] 78)).alloc (.cells #[.string ⟨#[]⟩, .int .i64 0, .int .i64 0, .int .i64 0, .string ⟨#[]⟩, .int .i64 0, .slice none 0 0, .slice none 0 0, .slice none 0 0] 78)).alloc (.cells #[.string ⟨#[]⟩, .int .i64 0, .int .i64 0, .int .i64 0, .string ⟨#[]⟩, .int .i64 0, .slice none 0 0, .slice none 0 0, .slice none 0 0] 78))).heap.size = w.heap.size + 1 + 1 + 1 := by rw [jas, jas, jas]
 have X1 := (gr.block (w.heap.size) (by omega) (fun e => by have := Option.some.inj e; omega)).trans H1
 have X2 := (gr.block (w.heap.size + 1) (by omega) (fun e => by have := Option.some.inj e; omega)).trans H2
 have G1 := jag (row := none) G0.out gr (fun g e => by cases e; exact .inr (by omega))
 have sz1 := gr.size
 obtain ⟨w1, hw1⟩ : ∃ w1, w1 = ((((w.alloc (.cells #[.string nm, .int .i64 3, .int .i64 ff, .int .i64 ii, .string ss, .int .i64 ty, .slice da dn dc, .slice ta tn tc, .slice va vn vc] 78)).alloc (.cells #[.string ⟨#[]⟩, .int .i64 0, .int .i64 0, .int .i64 0, .string ⟨#[]⟩, .int .i64 0, .slice none 0 0, .slice none 0 0, .slice none 0 0] 78)).alloc (.cells #[.string ⟨#[]⟩, .int .i64 0, .int .i64 0, .int .i64 0, .string ⟨#[]⟩, .int .i64 0, .slice none 0 0, .slice none 0 0, .slice none 0 0] 78)).setRow (w.heap.size + 1 + 1) #[.string nm, .int .i64 3, .int .i64 0, .int .i64 0, .string ⟨#[]⟩, .int .i64 0, .slice none 0 0, .slice none 0 0, .slice none 0 0]) := ⟨_, rfl⟩
 rw [← hw1] at X3 X1 X2 G1 sz1
 have hw2 := hw1.symm
 clear hw1
 obtain ⟨⟨x0, x1, x2, x3, x4, x5, x6, x7, x8⟩, xf⟩ := jat X1
 obtain ⟨⟨z0, z1, z2, z3, z4, z5, z6, z7, z8⟩, y0, y1, y2, y3, y4, y5, y6, y7, y8⟩ := jat X3
 have HX3 := jac X3
 have HX2 := jac X2
 have HG1 := jac G1
 have SZ : Hid (w.heap.size + 1 < w1.heap.size ∧ w.heap.size + 1 + 1 < w1.heap.size) := ⟨by omega, by omega⟩
 have n1 : w.heap.size ≠ w.heap.size + 1 + 1 := by omega
 have n2 : w.heap.size + 1 + 1 ≠ w.heap.size := by omega
 clear X1 X2 X3 G1 gr sz sz1 H1 H2 xf
 have V0 : (w1.setCell ⟨w.heap.size + 1 + 1, 4, none⟩ (.string ss)).heap[w.heap.size + 1 + 1]? = some (.cells #[.string nm, .int .i64 3, .int .i64 0, .int .i64 0, .string ss, .int .i64 0, .slice none 0 0, .slice none 0 0, .slice none 0 0] 78 (0, 0)) := by simpa using heap_setCell_same w1 (w.heap.size + 1 + 1) 4 _ _ (.string ss) HX3.out
 have gp := jao w1 (w.heap.size + 1 + 1) 4 (.string ss)
 have Y2 := (gp.block (w.heap.size + 1) SZ.out.1 (fun e => by have := Option.some.inj e; omega)).trans HX2.out
 have X9 := jac (setRow_heap _ (w.heap.size + 1) _ #[.string nm, .int .i64 3, .int .i64 0, .int .i64 0, .string ss, .int .i64 0, .slice none 0 0, .slice none 0 0, .slice none 0 0] _ _ Y2)
 have GX := jac (jag (row := none) (jag (row := none) HG1.out gp (fun g e => by cases e; exact .inr (by omega))) (jbC (w1.setCell ⟨w.heap.size + 1 + 1, 4, none⟩ (.string ss)) (w.heap.size + 1) #[.string nm, .int .i64 3, .int .i64 0, .int .i64 0, .string ss, .int .i64 0, .slice none 0 0, .slice none 0 0, .slice none 0 0]) (fun g e => by cases e; exact .inr (by omega)))
 have HV := jac V0
 clear gp V0
 go_enter Tryz.func136, Tryz.ntmps136
 go_wp2_with (first | (refine wpList_store_row rfl 78 (.tmp 3) (.tmp 8) rfl (w.heap.size + 1 + 1) #[.string nm, .int .i64 3, .int .i64 0, .int .i64 0, .string ⟨#[]⟩, .int .i64 0, .slice none 0 0, .slice none 0 0, .slice none 0 0] rfl rfl 78 _ H3 jbz rfl (by simp [Value.oneCell']) ?_; rw [hw2]) | (refine wpList_store_row rfl 78 (.tmp 2) (.tmp 37) rfl (w.heap.size + 1) #[.string nm, .int .i64 3, .int .i64 0, .int .i64 0, .string ss, .int .i64 0, .slice none 0 0, .slice none 0 0, .slice none 0 0] rfl rfl 78 _ Y2 jbz rfl (by simp [Value.oneCell']) ?_))
 refine bodyPost_ret (jcI rfl _ _ (w.heap.size + 1) rfl X9.out) rfl ?_
 exact jaI (HR.out.trans (by first | rfl | simp [jcP])) GX.out rfl
theorem jl2 (a : Atr) (w : World) (h : a.kind = 4) : Calls Tryz.prog 136 #[jb7 a] w (jbR w (jcP a) fun b v _ => v = jb7 b) := by
 obtain ⟨nm, kd, ff, ii, ss, ty, ⟨da, dn, dc⟩, ⟨ta, tn, tc⟩, ⟨va, vn, vc⟩⟩ := a
 unfold jb7
 simp only at *
 obtain ⟨R0, hR0⟩ : ∃ r, r = jcP ⟨nm, kd, ff, ii, ss, ty, ⟨da, dn, dc⟩, ⟨ta, tn, tc⟩, ⟨va, vn, vc⟩⟩ := ⟨_, rfl⟩
 rw [← hR0]
 have HR := jac hR0
 clear hR0
 subst h
 have G0 : Hid (w.grownBy ((((w.alloc (.cells #[.string nm, .int .i64 4, .int .i64 ff, .int .i64 ii, .string ss, .int .i64 ty, .slice da dn dc, .slice ta tn tc, .slice va vn vc] 78)).alloc (.cells #[.string ⟨#[]⟩, .int .i64 0, .int .i64 0, .int .i64 0, .string ⟨#[]⟩, .int .i64 0, .slice none 0 0, .slice none 0 0, .slice none 0 0] 78)).alloc (.cells #[.string ⟨#[]⟩, .int .i64 0, .int .i64 0, .int .i64 0, .string ⟨#[]⟩, .int .i64 0, .slice none 0 0, .slice none 0 0, .slice none 0 0] 78))) none) := jaa (jaa (jab _ _) (jab _ _)) (jab _ _)
 have H3 := jb0 w #[.string nm, .int .i64 4, .int .i64 ff, .int .i64 ii, .string ss, .int .i64 ty, .slice da dn dc, .slice ta tn tc, .slice va vn vc] #[.string ⟨#[]⟩, .int .i64 0, .int .i64 0, .int .i64 0, .string ⟨#[]⟩, .int .i64 0, .slice none 0 0, .slice none 0 0, .slice none 0 0] #[.string ⟨#[]⟩, .int .i64 0, .int .i64 0, .int .i64 0, .string ⟨#[]⟩, .int .i64 0, .slice none 0 0, .slice none 0 0, .slice none 0 0] 78 78 78
 have H2 := jbL w #[.string nm, .int .i64 4, .int .i64 ff, .int .i64 ii, .string ss, .int .i64 ty, .slice da dn dc, .slice ta tn tc, .slice va vn vc] #[.string ⟨#[]⟩, .int .i64 0, .int .i64 0, .int .i64 0, .string ⟨#[]⟩, .int .i64 0, .slice none 0 0, .slice none 0 0, .slice none 0 0] #[.string ⟨#[]⟩, .int .i64 0, .int .i64 0, .int .i64 0, .string ⟨#[]⟩, .int .i64 0, .slice none 0 0, .slice none 0 0, .slice none 0 0] 78 78 78
 have H1 := jbZ w #[.string nm, .int .i64 4, .int .i64 ff, .int .i64 ii, .string ss, .int .i64 ty, .slice da dn dc, .slice ta tn tc, .slice va vn vc] #[.string ⟨#[]⟩, .int .i64 0, .int .i64 0, .int .i64 0, .string ⟨#[]⟩, .int .i64 0, .slice none 0 0, .slice none 0 0, .slice none 0 0] #[.string ⟨#[]⟩, .int .i64 0, .int .i64 0, .int .i64 0, .string ⟨#[]⟩, .int .i64 0, .slice none 0 0, .slice none 0 0, .slice none 0 0] 78 78 78
 have X3 := setRow_heap _ (w.heap.size + 1 + 1) _ #[.string nm, .int .i64 4, .int .i64 0, .int .i64 0, .string ⟨#[]⟩, .int .i64 0, .slice none 0 0, .slice none 0 0, .slice none 0 0] _ _ H3
 have gr := jbC ((((w.alloc (.cells #[.string nm, .int .i64 4, .int .i64 ff, .int .i64 ii, .string ss, .int .i64 ty, .slice da dn dc, .slice ta tn tc, .slice va vn vc] 78)).alloc (.cells #[.string ⟨#[]⟩, .int .i64 0, .int .i64 0, .int .i64 0, .string ⟨#[]⟩, .int .i64 0, .slice none 0 0, .slice none 0 0, .slice none 0 0] 78)).alloc (.cells #[.string ⟨#[]⟩, .int .i64 0, .int .i64 0, .int .i64 0, .string ⟨#[]⟩, .int .i64 0, .slice none 0 0, .slice none 0 0, .slice none 0 0] 78))) (w.heap.size + 1 + 1) #[.string nm, .int .i64 4, .int .i64 0, .int .i64 0, .string ⟨#[]⟩, .int .i64 0, .slice none 0 0, .slice none 0 0, .slice none 0 0]
 have sz : ((((w.alloc (.cells #[.string nm, .int .i64 4, .int .i64 ff, .int .i64 ii, .string ss, .int .i64 ty, .slice da dn dc, .slice ta tn tc, .slice va vn vc] 78)).alloc (.cells #[.string ⟨#[]⟩, .int .i64 0, .int .i64 0, .int .i64 0, .string ⟨#[]⟩, .int .i64 0, .slice none 0 0, .slice none 0 0, .slice none 0 0] 78)).alloc (.cells #[.string ⟨#[]⟩, .int .i64 0, .int .i64 0, .int .i64 0, .string ⟨#[]⟩, .int .i64 0, .slice none 0 0, .slice none 0 0, .slice none 0 0] 78))).heap.size = w.heap.size + 1 + 1 + 1 := by rw [jas, jas, jas]
 have X1 := (gr.block (w.heap.size) (by omega) (fun e => by have := Option.some.inj e; omega)).trans H1
 have X2 := (gr.block (w.heap.size + 1) (by omega) (fun e => by have := Option.some.inj e; omega)).trans H2
 have G1 := jag (row := none) G0.out gr (fun g e => by cases e; exact .inr (by omega))
 have sz1 := gr.size
 obtain ⟨w1, hw1⟩ : ∃ w1, w1 = ((((w.alloc (.cells #[.string nm, .int .i64 4, .int .i64 ff, .int .i64 ii, .string ss, .int .i64 ty, .slice da dn dc, .slice ta tn tc, .slice va vn vc] 78)).alloc (.cells #[.string ⟨#[]⟩, .int .i64 0, .int .i64 0, .int .i64 0, .string ⟨#[]⟩, .int .i64 0, .slice none 0 0, .slice none 0 0, .slice none 0 0] 78)).alloc (.cells #[.string ⟨#[]⟩, .int .i64 0, .int .i64 0, .int .i64 0, .string ⟨#[]⟩, .int .i64 0, .slice none 0 0, .slice none 0 0, .slice none 0 0] 78)).setRow (w.heap.size + 1 + 1) #[.string nm, .int .i64 4, .int .i64 0, .int .i64 0, .string ⟨#[]⟩, .int .i64 0, .slice none 0 0, .slice none 0 0, .slice none 0 0]) := ⟨_, rfl⟩
 rw [← hw1] at X3 X1 X2 G1 sz1
 have hw2 := hw1.symm
 clear hw1
 obtain ⟨⟨x0, x1, x2, x3, x4, x5, x6, x7, x8⟩, xf⟩ := jat X1
 obtain ⟨⟨z0, z1, z2, z3, z4, z5, z6, z7, z8⟩, y0, y1, y2, y3, y4, y5, y6, y7, y8⟩ := jat X3
 have HX3 := jac X3
 have HX2 := jac X2
 have HG1 := jac G1
 have SZ : Hid (w.heap.size + 1 < w1.heap.size ∧ w.heap.size + 1 + 1 < w1.heap.size) := ⟨by omega, by omega⟩
 have n1 : w.heap.size ≠ w.heap.size + 1 + 1 := by omega
 have n2 : w.heap.size + 1 + 1 ≠ w.heap.size := by omega
 clear X1 X2 X3 G1 gr sz sz1 H1 H2 xf
 have V0 : (w1.setCell ⟨w.heap.size + 1 + 1, 5, none⟩ (.int .i64 ty)).heap[w.heap.size + 1 + 1]? = some (.cells #[.string nm, .int .i64 4, .int .i64 0, .int .i64 0, .string ⟨#[]⟩, .int .i64 ty, .slice none 0 0, .slice none 0 0, .slice none 0 0] 78 (0, 0)) := by simpa using heap_setCell_same w1 (w.heap.size + 1 + 1) 5 _ _ (.int .i64 ty) HX3.out
 have V1 : ((w1.setCell ⟨w.heap.size + 1 + 1, 5, none⟩ (.int .i64 ty)).setCell ⟨w.heap.size + 1 + 1, 6, none⟩ (.slice da dn dc)).heap[w.heap.size + 1 + 1]? = some (.cells #[.string nm, .int .i64 4, .int .i64 0, .int .i64 0, .string ⟨#[]⟩, .int .i64 ty, .slice da dn dc, .slice none 0 0, .slice none 0 0] 78 (0, 0)) := by simpa using heap_setCell_same (w1.setCell ⟨w.heap.size + 1 + 1, 5, none⟩ (.int .i64 ty)) (w.heap.size + 1 + 1) 6 _ _ (.slice da dn dc) V0
 have V2 : (((w1.setCell ⟨w.heap.size + 1 + 1, 5, none⟩ (.int .i64 ty)).setCell ⟨w.heap.size + 1 + 1, 6, none⟩ (.slice da dn dc)).setCell ⟨w.heap.size + 1 + 1, 7, none⟩ (.slice ta tn tc)).heap[w.heap.size + 1 + 1]? = some (.cells #[.string nm, .int .i64 4, .int .i64 0, .int .i64 0, .string ⟨#[]⟩, .int .i64 ty, .slice da dn dc, .slice ta tn tc, .slice none 0 0] 78 (0, 0)) := by simpa using heap_setCell_same ((w1.setCell ⟨w.heap.size + 1 + 1, 5, none⟩ (.int .i64 ty)).setCell ⟨w.heap.size + 1 + 1, 6, none⟩ (.slice da dn dc)) (w.heap.size + 1 + 1) 7 _ _ (.slice ta tn tc) V1
 have gp := Wr.row_trans (Wr.row_trans (jao w1 (w.heap.size + 1 + 1) 5 (.int .i64 ty)) (jao _ (w.heap.size + 1 + 1) 6 (.slice da dn dc))) (jao _ (w.heap.size + 1 + 1) 7 (.slice ta tn tc))
 have Y2 := (gp.block (w.heap.size + 1) SZ.out.1 (fun e => by have := Option.some.inj e; omega)).trans HX2.out
 have X9 := jac (setRow_heap _ (w.heap.size + 1) _ #[.string nm, .int .i64 4, .int .i64 0, .int .i64 0, .string ⟨#[]⟩, .int .i64 ty, .slice da dn dc, .slice ta tn tc, .slice none 0 0] _ _ Y2)
 have GX := jac (jag (row := none) (jag (row := none) HG1.out gp (fun g e => by cases e; exact .inr (by omega))) (jbC (((w1.setCell ⟨w.heap.size + 1 + 1, 5, none⟩ (.int .i64 ty)).setCell ⟨w.heap.size + 1 + 1, 6, none⟩ (.slice da dn dc)).setCell ⟨w.heap.size + 1 + 1, 7, none⟩ (.slice ta tn tc)) (w.heap.size + 1) #[.string nm, .int .i64 4, .int .i64 0, .int .i64 0, .string ⟨#[]⟩, .int .i64 ty, .slice da dn dc, .slice ta tn tc, .slice none 0 0]) (fun g e => by cases e; exact .inr (by omega)))
 have HV := jac V2
 clear gp V0 V1 V2
 go_enter Tryz.func136, Tryz.ntmps136
 go_wp2_with (first | (refine wpList_store_row rfl 78 (.tmp 3) (.tmp 8) rfl (w.heap.size + 1 + 1) #[.string nm, .int .i64 4, .int .i64 0, .int .i64 0, .string ⟨#[]⟩, .int .i64 0, .slice none 0 0, .slice none 0 0, .slice none 0 0] rfl rfl 78 _ H3 jbz rfl (by simp [Value.oneCell']) ?_; rw [hw2]) | (refine wpList_store_row rfl 78 (.tmp 2) (.tmp 37) rfl (w.heap.size + 1) #[.string nm, .int .i64 4, .int .i64 0, .int .i64 0, .string ⟨#[]⟩, .int .i64 ty, .slice da dn dc, .slice ta tn tc, .slice none 0 0] rfl rfl 78 _ Y2 jbz rfl (by simp [Value.oneCell']) ?_))
 refine bodyPost_ret (jcI rfl _ _ (w.heap.size + 1) rfl X9.out) rfl ?_
 exact jaI (HR.out.trans (by first | rfl | simp [jcP])) GX.out rfl
theorem jl3 (a : Atr) (w : World) (h : a.kind = 7) : Calls Tryz.prog 136 #[jb7 a] w (jbR w (jcP a) fun b v _ => v = jb7 b) := by
 obtain ⟨nm, kd, ff, ii, ss, ty, ⟨da, dn, dc⟩, ⟨ta, tn, tc⟩, ⟨va, vn, vc⟩⟩ := a
 unfold jb7
 simp only at *
 obtain ⟨R0, hR0⟩ : ∃ r, r = jcP ⟨nm, kd, ff, ii, ss, ty, ⟨da, dn, dc⟩, ⟨ta, tn, tc⟩, ⟨va, vn, vc⟩⟩ := ⟨_, rfl⟩
 rw [← hR0]
 have HR := jac hR0
 clear hR0
 subst h
 have G0 : Hid (w.grownBy ((((w.alloc (.cells #[.string nm, .int .i64 7, .int .i64 ff, .int .i64 ii, .string ss, .int .i64 ty, .slice da dn dc, .slice ta tn tc, .slice va vn vc] 78)).alloc (.cells #[.string ⟨#[]⟩, .int .i64 0, .int .i64 0, .int .i64 0, .string ⟨#[]⟩, .int .i64 0, .slice none 0 0, .slice none 0 0, .slice none 0 0] 78)).alloc (.cells #[.string ⟨#[]⟩, .int .i64 0, .int .i64 0, .int .i64 0, .string ⟨#[]⟩, .int .i64 0, .slice none 0 0, .slice none 0 0, .slice none 0 0] 78))) none) := jaa (jaa (jab _ _) (jab _ _)) (jab _ _)
 have H3 := jb0 w #[.string nm, .int .i64 7, .int .i64 ff, .int .i64 ii, .string ss, .int .i64 ty, .slice da dn dc, .slice ta tn tc, .slice va vn vc] #[.string ⟨#[]⟩, .int .i64 0, .int .i64 0, .int .i64 0, .string ⟨#[]⟩, .int .i64 0, .slice none 0 0, .slice none 0 0, .slice none 0 0] #[.string ⟨#[]⟩, .int .i64 0, .int .i64 0, .int .i64 0, .string ⟨#[]⟩, .int .i64 0, .slice none 0 0, .slice none 0 0, .slice none 0 0] 78 78 78
 have H2 := jbL w #[.string nm, .int .i64 7, .int .i64 ff, .int .i64 ii, .string ss, .int .i64 ty, .slice da dn dc, .slice ta tn tc, .slice va vn vc] #[.string ⟨#[]⟩, .int .i64 0, .int .i64 0, .int .i64 0, .string ⟨#[]⟩, .int .i64 0, .slice none 0 0, .slice none 0 0, .slice none 0 0] #[.string ⟨#[]⟩, .int .i64 0, .int .i64 0, .int .i64 0, .string ⟨#[]⟩, .int .i64 0, .slice none 0 0, .slice none 0 0, .slice none 0 0] 78 78 78
 have H1 := jbZ w #[.string nm, .int .i64 7, .int .i64 ff, .int .i64 ii, .string ss, .int .i64 ty, .slice da dn dc, .slice ta tn tc, .slice va vn vc] #[.string ⟨#[]⟩, .int .i64 0, .int .i64 0, .int .i64 0, .string ⟨#[]⟩, .int .i64 0, .slice none 0 0, .slice none 0 0, .slice none 0 0] #[.string ⟨#[]⟩, .int .i64 0, .int .i64 0, .int .i64 0, .string ⟨#[]⟩, .int .i64 0, .slice none 0 0, .slice none 0 0, .slice none 0 0] 78 78 78
 have X3 := setRow_heap _ (w.heap.size + 1 + 1) _ #[.string nm, .int .i64 7, .int .i64 0, .int .i64 0, .string ⟨#[]⟩, .int .i64 0, .slice none 0 0, .slice none 0 0, .slice none 0 0] _ _ H3
 have gr := jbC ((((w.alloc (.cells #[.string nm, .int .i64 7, .int .i64 ff, .int .i64 ii, .string ss, .int .i64 ty, .slice da dn dc, .slice ta tn tc, .slice va vn vc] 78)).alloc (.cells #[.string ⟨#[]⟩, .int .i64 0, .int .i64 0, .int .i64 0, .string ⟨#[]⟩, .int .i64 0, .slice none 0 0, .slice none 0 0, .slice none 0 0] 78)).alloc (.cells #[.string ⟨#[]⟩, .int .i64 0, .int .i64 0, .int .i64 0, .string ⟨#[]⟩, .int .i64 0, .slice none 0 0, .slice none 0 0, .slice none 0 0] 78))) (w.heap.size + 1 + 1) #[.string nm, .int .i64 7, .int .i64 0, .int .i64 0, .string ⟨#[]⟩, .int .i64 0, .slice none 0 0, .slice none 0 0, .slice none 0 0]
 have sz : ((((w.alloc (.cells #[.string nm, .int .i64 7, .int .i64 ff, .int .i64 ii, .string ss, .int .i64 ty, .slice da dn dc, .slice ta tn tc, .slice va vn vc] 78)).alloc (.cells #[.string ⟨#[]⟩, .int .i64 0, .int .i64 0, .int .i64 0, .string ⟨#[]⟩, .int .i64 0, .slice none 0 0, .slice none 0 0, .slice none 0 0] 78)).alloc (.cells #[.string ⟨#[]⟩, .int .i64 0, .int .i64 0, .int .i64 0, .string ⟨#[]⟩, .int .i64 0, .slice none 0 0, .slice none 0 0, .slice none 0 0] 78))).heap.size = w.heap.size + 1 + 1 + 1 := by rw [jas, jas, jas]
 have X1 := (gr.block (w.heap.size) (by omega) (fun e => by have := Option.some.inj e; omega)).trans H1
 have X2 := (gr.block (w.heap.size + 1) (by omega) (fun e => by have := Option.some.inj e; omega)).trans H2
 have G1 := jag (row := none) G0.out gr (fun g e => by cases e; exact .inr (by omega))
 have sz1 := gr.size
 obtain ⟨w1, hw1⟩ : ∃ w1, w1 = ((((w.alloc (.cells #[.string nm, .int .i64 7, .int .i64 ff, .int .i64 ii, .string ss, .int .i64 ty, .slice da dn dc, .slice ta tn tc, .slice va vn vc] 78)).alloc (.cells #[.string ⟨#[]⟩, .int .i64 0, .int .i64 0, .int .i64 0, .string ⟨#[]⟩, .int .i64 0, .slice none 0 0, .slice none 0 0, .slice none 0 0] 78)).alloc (.cells #[.string ⟨#[]⟩, .int .i64 0, .int .i64 0, .int .i64 0, .string ⟨#[]⟩, .int .i64 0, .slice none 0 0, .slice none 0 0, .slice none 0 0] 78)).setRow (w.heap.size + 1 + 1) #[.string nm, .int .i64 7, .int .i64 0, .int .i64 0, .string ⟨#[]⟩, .int .i64 0, .slice none 0 0, .slice none 0 0, .slice none 0 0]) := ⟨_, rfl⟩
 rw [← hw1] at X3 X1 X2 G1 sz1
 have hw2 := hw1.symm
 clear hw1
 obtain ⟨⟨x0, x1, x2, x3, x4, x5, x6, x7, x8⟩, xf⟩ := jat X1
 obtain ⟨⟨z0, z1, z2, z3, z4, z5, z6, z7, z8⟩, y0, y1, y2, y3, y4, y5, y6, y7, y8⟩ := jat X3
 have HX3 := jac X3
 have HX2 := jac X2
 have HG1 := jac G1
 have SZ : Hid (w.heap.size + 1 < w1.heap.size ∧ w.heap.size + 1 + 1 < w1.heap.size) := ⟨by omega, by omega⟩
 have n1 : w.heap.size ≠ w.heap.size + 1 + 1 := by omega
 have n2 : w.heap.size + 1 + 1 ≠ w.heap.size := by omega
 clear X1 X2 X3 G1 gr sz sz1 H1 H2 xf
 have V0 : (w1.setCell ⟨w.heap.size + 1 + 1, 8, none⟩ (.slice va vn vc)).heap[w.heap.size + 1 + 1]? = some (.cells #[.string nm, .int .i64 7, .int .i64 0, .int .i64 0, .string ⟨#[]⟩, .int .i64 0, .slice none 0 0, .slice none 0 0, .slice va vn vc] 78 (0, 0)) := by simpa using heap_setCell_same w1 (w.heap.size + 1 + 1) 8 _ _ (.slice va vn vc) HX3.out
 have gp := jao w1 (w.heap.size + 1 + 1) 8 (.slice va vn vc)
 have Y2 := (gp.block (w.heap.size + 1) SZ.out.1 (fun e => by have := Option.some.inj e; omega)).trans HX2.out
 have X9 := jac (setRow_heap _ (w.heap.size + 1) _ #[.string nm, .int .i64 7, .int .i64 0, .int .i64 0, .string ⟨#[]⟩, .int .i64 0, .slice none 0 0, .slice none 0 0, .slice va vn vc] _ _ Y2)
 have GX := jac (jag (row := none) (jag (row := none) HG1.out gp (fun g e => by cases e; exact .inr (by omega))) (jbC (w1.setCell ⟨w.heap.size + 1 + 1, 8, none⟩ (.slice va vn vc)) (w.heap.size + 1) #[.string nm, .int .i64 7, .int .i64 0, .int .i64 0, .string ⟨#[]⟩, .int .i64 0, .slice none 0 0, .slice none 0 0, .slice va vn vc]) (fun g e => by cases e; exact .inr (by omega)))
 have HV := jac V0
 clear gp V0
 go_enter Tryz.func136, Tryz.ntmps136
 go_wp2_with (first | (refine wpList_store_row rfl 78 (.tmp 3) (.tmp 8) rfl (w.heap.size + 1 + 1) #[.string nm, .int .i64 7, .int .i64 0, .int .i64 0, .string ⟨#[]⟩, .int .i64 0, .slice none 0 0, .slice none 0 0, .slice none 0 0] rfl rfl 78 _ H3 jbz rfl (by simp [Value.oneCell']) ?_; rw [hw2]) | (refine wpList_store_row rfl 78 (.tmp 2) (.tmp 37) rfl (w.heap.size + 1) #[.string nm, .int .i64 7, .int .i64 0, .int .i64 0, .string ⟨#[]⟩, .int .i64 0, .slice none 0 0, .slice none 0 0, .slice va vn vc] rfl rfl 78 _ Y2 jbz rfl (by simp [Value.oneCell']) ?_))
 refine bodyPost_ret (jcI rfl _ _ (w.heap.size + 1) rfl X9.out) rfl ?_
 exact jaI (HR.out.trans (by first | rfl | simp [jcP])) GX.out rfl
theorem jiA (a : Atr) (w : World) (h1 : ¬ a.kind = 1) (h2 : ¬ a.kind = 2) (h3 : ¬ a.kind = 3) (h4 : ¬ a.kind = 4) (h7 : ¬ a.kind = 7) : Calls Tryz.prog 136 #[jb7 a] w (jbR w (jcP a) fun b v _ => v = jb7 b) := by
 obtain ⟨nm, kd, ff, ii, ss, ty, ⟨da, dn, dc⟩, ⟨ta, tn, tc⟩, ⟨va, vn, vc⟩⟩ := a
 unfold jb7
 simp only at *
 obtain ⟨R0, hR0⟩ : ∃ r, r = jcP ⟨nm, kd, ff, ii, ss, ty, ⟨da, dn, dc⟩, ⟨ta, tn, tc⟩, ⟨va, vn, vc⟩⟩ := ⟨_, rfl⟩
 rw [← hR0]
 have HR := jac hR0
 clear hR0
 have b1 : (kd == 1) = false := by simpa using h1
 have b2 : (kd == 2) = false := by simpa using h2
 have b3 : (kd == 3) = false := by simpa using h3
 have b4 : (kd == 4) = false := by simpa using h4
 have b7 : (kd == 7) = false := by simpa using h7
 have E : Hid (R0 = .error 5) := by show _ = _; rw [HR.out]; unfold jcP; simp only; rw [if_neg h1, if_neg h2, if_neg h3, if_neg h4, if_neg h7]
 clear h1 h2 h3 h4 h7
 have G0 : Hid (w.grownBy ((((w.alloc (.cells #[.string nm, .int .i64 kd, .int .i64 ff, .int .i64 ii, .string ss, .int .i64 ty, .slice da dn dc, .slice ta tn tc, .slice va vn vc] 78)).alloc (.cells #[.string ⟨#[]⟩, .int .i64 0, .int .i64 0, .int .i64 0, .string ⟨#[]⟩, .int .i64 0, .slice none 0 0, .slice none 0 0, .slice none 0 0] 78)).alloc (.cells #[.string ⟨#[]⟩, .int .i64 0, .int .i64 0, .int .i64 0, .string ⟨#[]⟩, .int .i64 0, .slice none 0 0, .slice none 0 0, .slice none 0 0] 78))) none) := jaa (jaa (jab _ _) (jab _ _)) (jab _ _)
 have H3 := jb0 w #[.string nm, .int .i64 kd, .int .i64 ff, .int .i64 ii, .string ss, .int .i64 ty, .slice da dn dc, .slice ta tn tc, .slice va vn vc] #[.string ⟨#[]⟩, .int .i64 0, .int .i64 0, .int .i64 0, .string ⟨#[]⟩, .int .i64 0, .slice none 0 0, .slice none 0 0, .slice none 0 0] #[.string ⟨#[]⟩, .int .i64 0, .int .i64 0, .int .i64 0, .string ⟨#[]⟩, .int .i64 0, .slice none 0 0, .slice none 0 0, .slice none 0 0] 78 78 78
 have H2 := jbL w #[.string nm, .int .i64 kd, .int .i64 ff, .int .i64 ii, .string ss, .int .i64 ty, .slice da dn dc, .slice ta tn tc, .slice va vn vc] #[.string ⟨#[]⟩, .int .i64 0, .int .i64 0, .int .i64 0, .string ⟨#[]⟩, .int .i64 0, .slice none 0 0, .slice none 0 0, .slice none 0 0] #[.string ⟨#[]⟩, .int .i64 0, .int .i64 0, .int .i64 0, .string ⟨#[]⟩, .int .i64 0, .slice none 0 0, .slice none 0 0, .slice none 0 0] 78 78 78
 have H1 := jbZ w #[.string nm, .int .i64 kd, .int .i64 ff, .int .i64 ii, .string ss, .int .i64 ty, .slice da dn dc, .slice ta tn tc, .slice va vn vc] #[.string ⟨#[]⟩, .int .i64 0, .int .i64 0, .int .i64 0, .string ⟨#[]⟩, .int .i64 0, .slice none 0 0, .slice none 0 0, .slice none 0 0] #[.string ⟨#[]⟩, .int .i64 0, .int .i64 0, .int .i64 0, .string ⟨#[]⟩, .int .i64 0, .slice none 0 0, .slice none 0 0, .slice none 0 0] 78 78 78
 have X3 := setRow_heap _ (w.heap.size + 1 + 1) _ #[.string nm, .int .i64 kd, .int .i64 0, .int .i64 0, .string ⟨#[]⟩, .int .i64 0, .slice none 0 0, .slice none 0 0, .slice none 0 0] _ _ H3
 have gr := jbC ((((w.alloc (.cells #[.string nm, .int .i64 kd, .int .i64 ff, .int .i64 ii, .string ss, .int .i64 ty, .slice da dn dc, .slice ta tn tc, .slice va vn vc] 78)).alloc (.cells #[.string ⟨#[]⟩, .int .i64 0, .int .i64 0, .int .i64 0, .string ⟨#[]⟩, .int .i64 0, .slice none 0 0, .slice none 0 0, .slice none 0 0] 78)).alloc (.cells #[.string ⟨#[]⟩, .int .i64 0, .int .i64 0, .int .i64 0, .string ⟨#[]⟩, .int .i64 0, .slice none 0 0, .slice none 0 0, .slice none 0 0] 78))) (w.heap.size + 1 + 1) #[.string nm, .int .i64 kd, .int .i64 0, .int .i64 0, .string ⟨#[]⟩, .int .i64 0, .slice none 0 0, .slice none 0 0, .slice none 0 0]
 have sz : ((((w.alloc (.cells #[.string nm, .int .i64 kd, .int .i64 ff, .int .i64 ii, .string ss, .int .i64 ty, .slice da dn dc, .slice ta tn tc, .slice va vn vc] 78)).alloc (.cells #[.string ⟨#[]⟩, .int .i64 0, .int .i64 0, .int .i64 0, .string ⟨#[]⟩, .int .i64 0, .slice none 0 0, .slice none 0 0, .slice none 0 0] 78)).alloc (.cells #[.string ⟨#[]⟩, .int .i64 0, .int .i64 0, .int .i64 0, .string ⟨#[]⟩, .int .i64 0, .slice none 0 0, .slice none 0 0, .slice none 0 0] 78))).heap.size = w.heap.size + 1 + 1 + 1 := by rw [jas, jas, jas]
 have X1 := (gr.block (w.heap.size) (by omega) (fun e => by have := Option.some.inj e; omega)).trans H1
 have X2 := (gr.block (w.heap.size + 1) (by omega) (fun e => by have := Option.some.inj e; omega)).trans H2
 have G1 := jag (row := none) G0.out gr (fun g e => by cases e; exact .inr (by omega))
 have sz1 := gr.size
 obtain ⟨w1, hw1⟩ : ∃ w1, w1 = ((((w.alloc (.cells #[.string nm, .int .i64 kd, .int .i64 ff, .int .i64 ii, .string ss, .int .i64 ty, .slice da dn dc, .slice ta tn tc, .slice va vn vc] 78)).alloc (.cells #[.string ⟨#[]⟩, .int .i64 0, .int .i64 0, .int .i64 0, .string ⟨#[]⟩, .int .i64 0, .slice none 0 0, .slice none 0 0, .slice none 0 0] 78)).alloc (.cells #[.string ⟨#[]⟩, .int .i64 0, .int .i64 0, .int .i64 0, .string ⟨#[]⟩, .int .i64 0, .slice none 0 0, .slice none 0 0, .slice none 0 0] 78)).setRow (w.heap.size + 1 + 1) #[.string nm, .int .i64 kd, .int .i64 0, .int .i64 0, .string ⟨#[]⟩, .int .i64 0, .slice none 0 0, .slice none 0 0, .slice none 0 0]) := ⟨_, rfl⟩
 rw [← hw1] at X3 X1 X2 G1 sz1
 have hw2 := hw1.symm
 clear hw1
 obtain ⟨⟨x0, x1, x2, x3, x4, x5, x6, x7, x8⟩, xf⟩ := jat X1
 obtain ⟨⟨z0, z1, z2, z3, z4, z5, z6, z7, z8⟩, y0, y1, y2, y3, y4, y5, y6, y7, y8⟩ := jat X3
 have HX3 := jac X3
 have HX2 := jac X2
 have HG1 := jac G1
 have SZ : Hid (w.heap.size + 1 < w1.heap.size ∧ w.heap.size + 1 + 1 < w1.heap.size) := ⟨by omega, by omega⟩
 have n1 : w.heap.size ≠ w.heap.size + 1 + 1 := by omega
 have n2 : w.heap.size + 1 + 1 ≠ w.heap.size := by omega
 clear X1 X2 X3 G1 gr sz sz1 H1 H2 xf
 go_enter Tryz.func136, Tryz.ntmps136
 go_wp2_with (first | (refine wpList_store_row rfl 78 (.tmp 3) (.tmp 8) rfl (w.heap.size + 1 + 1) #[.string nm, .int .i64 kd, .int .i64 0, .int .i64 0, .string ⟨#[]⟩, .int .i64 0, .slice none 0 0, .slice none 0 0, .slice none 0 0] rfl rfl 78 _ H3 jbz rfl (by simp [Value.oneCell']) ?_; rw [hw2]) | (go_at_call 79; refine (jec _ (by decide) _).mono ?_; rintro e w' ⟨rfl, rfl⟩))
 exact ⟨rfl, jad E.out HG1.out⟩
theorem jgO (a : Atr) (w : World) : Calls Tryz.prog 136 #[jb7 a] w (jbR w (jcP a) fun b v _ => v = jb7 b) := by
 by_cases h1 : a.kind = 1
 ·exact jlZ a w h1
 by_cases h2 : a.kind = 2
 ·exact jl0 a w h2
 by_cases h3 : a.kind = 3
 ·exact jl1 a w h3
 by_cases h4 : a.kind = 4
 ·exact jl2 a w h4
 by_cases h7 : a.kind = 7
 ·exact jl3 a w h7
 exact jiA a w h1 h2 h3 h4 h7
end Go.Proofs.YtbgbpfbjeleooaaGreat.Pd
