/- A part. -/
import Derived.Test.YtkefdkboejimeaaGreatDoorMini
import Derived.Test.YtkefdkboejimeaaGreatDoorMini2
import Derived.Test.YtkefdkboejimeaaGreatDoorPartBK
import Derived.Test.YtkefdkboejimeaaGreatDoorPartAX
import Derived.Deep.LoopGhost
set_option maxHeartbeats 8000000
set_option maxRecDepth 100000
namespace Go.Proofs.YtkefdkboejimeaaGreatDoor
open Go.RowKit
theorem jlH (n : Nat) (hn : n ≤ 1000000) : ∃ M : Array Value, (∀ W : World, (Instr.makeSlice 85 (.int .i64 (n : Int)) (.int .i64 (n : Int))).run Tryz.prog W = .ok (.slice (some ⟨W.heap.size, 0, none⟩) n n) (W.alloc (.cells M 23))) ∧
    ∀ (W : World) (base : Nat), base ≤ W.heap.size → jaU 23 1 jco (W.alloc (.cells M 23)) base (.slice (some ⟨W.heap.size, 0, none⟩) n n) (List.replicate n ⟨none, 0, 0⟩) := by
     obtain ⟨j0, hj, jz0, jz1, jz2⟩ := info_parts jiB
     obtain ⟨M1, hM1⟩ : ∃ M, M = madeCells (Value.slice none 0 0).cells (((n : Nat) : Int).toNat * j0.size) := ⟨_, rfl⟩
     have E1 : M1.toList = (madeCells (Value.slice none 0 0).cells (n * 1)).toList := by rw [hM1, jz1]; simp
     have E2 : M1.size = n := by rw [← Array.length_toList, E1, show (Value.slice none 0 0).cells = #[Value.slice none 0 0] from rfl, toList_madeCells_one]; simp
     refine ⟨M1, fun W => ?_, fun W base hb => ?_⟩
     ·have h := Go.run_make (P := Tryz.prog) W 85 23 j0 (.slice none 0 0) Tryz.underlying85 hj jz0 .i64 .i64 (n : Int) (n : Int) (by omega) (by omega) (by rw [jz2]; omega) (by omega)
      rw [← hM1] at h
      simpa using h
     ·refine jgM ⟨by rw [← E1, Array.length_toList, E2, Nat.mul_one], Or.inr ⟨W.heap.size, n, M1, rfl, hb, heap_alloc_new W _, Nat.le_refl _, by simp only [maxLen]; omega, by rw [E2, Nat.mul_one], ?_⟩⟩
      rw [E1, List.take_of_length_le]
      rw [← E1, Array.length_toList, E2, Nat.mul_one]
      exact Nat.le_refl _
def jbp (xs : List Int) (s n : Nat) : List (List Int) := (List.range n).map (jdT xs s)
theorem jd2 (X : Ten) (D0 D1 H W n S : Nat) (xs : List Int) (w : World) (hx : IsInts w X.dv.v [(D0 : Int), D1, H, W]) (hxs : IsInts w X.tv.v xs) (en : n = D0 * D1) (eS : S = H * W) (hl : xs.length = n * S) (n1 : 1 ≤ n) (S1 : 1 ≤ S) (hb : xs.length ≤ 65536) :
    Calls Tryz.prog 54 #[.agg #[.int .i64 X.ty, .slice X.dv.a X.dv.n X.dv.c, .slice X.tv.a X.tv.n X.tv.c]] w fun e w' => ∃ (B : Nat) (ss : List Sl), e = .returned (.slice (some ⟨B, 0, none⟩) n n) ∧ Rws w' B 0 ss (jbp xs S n) ∧ w.heap.size ≤ B ∧ w.grownBy w' none := by
     obtain ⟨ty, ⟨da, dn, dc⟩, ⟨ta, tn, tc⟩⟩ := X
     obtain ⟨_, _, ed, s1, s2, s3⟩ := hx.sl
     obtain ⟨_, _, et, t1, t2, t3⟩ := hxs.sl
     simp only [Sl.v, Value.slice.injEq] at ed et hx hxs
     obtain ⟨rfl, rfl, rfl⟩ := ed
     obtain ⟨rfl, rfl, rfl⟩ := et
     have hn3 : n ≤ 65536 := by rw [hl] at hb; exact Nat.le_trans (Nat.le_mul_of_pos_right _ S1) hb
     have hS3 : S ≤ 65536 := by rw [hl] at hb; exact Nat.le_trans (Nat.le_mul_of_pos_left _ n1) hb
     have hx1 : 0 < xs.length := by rw [hl]; exact Nat.mul_pos n1 S1
     obtain ⟨bd, od, rfl⟩ := jaM hx (by simp)
     obtain ⟨b, off, rfl⟩ := jaM hxs hx1
     have x0 := jaC hx (k := 0) (by simp)
     have x1 := jaC hx (k := 1) (by simp)
     have x2 := jaC hx (k := 2) (by simp)
     have x3 := jaC hx (k := 3) (by simp)
     simp only [List.length_cons, List.length_nil, Nat.zero_add, Nat.reduceAdd, List.getD_cons_zero, List.getD_cons_succ, Nat.add_zero] at x0 x1 x2 x3 s1 ⊢
     have W1 : Hid (IntKind.i64.wrap ((H : Int) * W) = (S : Int)) := by
      show _ = _
      rw [← Int.natCast_mul, ← eS]
      exact Vw.wrap_small (Int.natCast_nonneg _) (by omega)
     have W2 : Hid (IntKind.i64.wrap ((D0 : Int) * D1) = (n : Int)) := by
      show _ = _
      rw [← Int.natCast_mul, ← en]
      exact Vw.wrap_small (Int.natCast_nonneg _) (by omega)
     obtain ⟨M, mk0, mk1⟩ := jlH n (by omega)
     have MK1 := jae mk1
     obtain ⟨w0, hw0⟩ : ∃ w0, w0 = w.alloc (.cells #[.int .i64 ty, .slice (some ⟨bd, od, none⟩) 4 dc, .slice (some ⟨b, off, none⟩) xs.length tc] 25) := ⟨_, rfl⟩
     have g0 : w.grownBy w0 none := by rw [hw0]; exact jab _ _
     have hb0 := heap_alloc_new w (.cells #[.int .i64 ty, .slice (some ⟨bd, od, none⟩) 4 dc, .slice (some ⟨b, off, none⟩) xs.length tc] 25)
     rw [← hw0] at hb0
     obtain ⟨q0, q1, q2⟩ := jal hb0
     have y0 := jac x0 g0
     have y1 := jac x1 g0
     have y2 := jac x2 g0
     have y3 := jac x3 g0
     have Z0 : Hid (w0.heap.size = w.heap.size + 1) := by show _ = _; rw [hw0]; simp
     have BX : Hid (∀ wx, w0.grownBy wx none → wx.heap[w.heap.size]? = some (.cells #[.int .i64 ty, .slice (some ⟨bd, od, none⟩) 4 dc, .slice (some ⟨b, off, none⟩) xs.length tc] 25 (0, 0))) := fun wx hg => jad hb0 hg
     have HD := jae hxs
     have HL := jae hl
     have HB := jae hb
     have G0 := jae g0
     clear hx hxs x0 x1 x2 x3 en eS hl hb mk1 hb0 g0 s1 s2 s3 t3
     go_enter Tryz.func54, Tryz.ntmps54
     go_upto_region 1 with fail
     rw [← hw0]
     clear hw0
     have hw := W1.out
     refine wp_region_held_drew (S := fun w' => w0.grownBy w' none) (by kernel_rfl) (jag (jaf _)) (fun hHeld => ?_)
     refine tkE 0 ?_ (hv := by intro wS hSw; go_simp; (try with_reducible rfl))
     try simp only [Act.put]
     refine tkE 1 ?_ (hv := by intro wS hSw; have c0 := jac q1 hSw; go_simp; (try with_reducible rfl))
     try simp only [Act.put]
     refine tkE 2 ?_ (hv := by intro wS hSw; go_simp; (try with_reducible rfl))
     try simp only [Act.put]
     refine tkE 3 ?_ (hv := by intro wS hSw; have c0 := jac y2 hSw; go_simp; (try with_reducible rfl))
     try simp only [Act.put]
     refine tkE 4 ?_ (hv := by intro wS hSw; go_simp; (try with_reducible rfl))
     try simp only [Act.put]
     refine tkE 5 ?_ (hv := by intro wS hSw; have c0 := jac q1 hSw; go_simp; (try with_reducible rfl))
     try simp only [Act.put]
     refine tkE 6 ?_ (hv := by intro wS hSw; go_simp; (try with_reducible rfl))
     try simp only [Act.put]
     refine tkE 7 ?_ (hv := by intro wS hSw; have c0 := jac y3 hSw; go_simp; (try with_reducible rfl))
     try simp only [Act.put]
     refine wpAnyH_take (i := 8) (v := .int .i64 (S : Int)) rfl (by kernel_rfl) (by kernel_rfl) (by kernel_rfl) (fun _ _ _ h => h) (Or.inl ⟨by kernel_rfl, ?_⟩) (by assumption) ?_
     ·(intro wS hSw; go_simp; (try simp only [hw]))
     try simp only [Act.put]
     clear hw
     refine tkE 9 ?_ (hv := by intro wS hSw; go_simp; (try with_reducible rfl))
     try simp only [Act.put]
     refine wpAnyH_done (by kernel_rfl) ?_ _
     go_simp
     go_upto_region 2 with fail
     have hw := W2.out
     refine wp_region_held_drew (S := fun w' => w0.grownBy w' none) (by kernel_rfl) (jag (jag (jaf _))) (fun hHeld => ?_)
     refine tkE 0 ?_ (hv := by intro wS hSw; go_simp; (try with_reducible rfl))
     try simp only [Act.put]
     refine tkE 1 ?_ (hv := by intro wS hSw; have c0 := jac q1 hSw; go_simp; (try with_reducible rfl))
     try simp only [Act.put]
     refine tkE 2 ?_ (hv := by intro wS hSw; go_simp; (try with_reducible rfl))
     try simp only [Act.put]
     refine tkE 3 ?_ (hv := by intro wS hSw; have c0 := jac y0 hSw; go_simp; (try with_reducible rfl))
     try simp only [Act.put]
     refine tkE 4 ?_ (hv := by intro wS hSw; go_simp; (try with_reducible rfl))
     try simp only [Act.put]
     refine tkE 5 ?_ (hv := by intro wS hSw; have c0 := jac q1 hSw; go_simp; (try with_reducible rfl))
     try simp only [Act.put]
     refine tkE 6 ?_ (hv := by intro wS hSw; go_simp; (try with_reducible rfl))
     try simp only [Act.put]
     refine tkE 7 ?_ (hv := by intro wS hSw; have c0 := jac y1 hSw; go_simp; (try with_reducible rfl))
     try simp only [Act.put]
     refine wpAnyH_take (i := 8) (v := .int .i64 (n : Int)) rfl (by kernel_rfl) (by kernel_rfl) (by kernel_rfl) (fun _ _ _ h => h) (Or.inl ⟨by kernel_rfl, ?_⟩) (by assumption) ?_
     ·(intro wS hSw; go_simp; (try simp only [hw]))
     try simp only [Act.put]
     clear hw
     refine rdA 9 fun K hK => ?_
     go_simp
     generalize hv : (w0.alloc (.cells M 23)).drew.drew = w1
     have g1 : w0.grownBy w1 none := by rw [← hv]; exact jag (jag (jab _ _))
     have O1 : jaU 23 1 jco (w0.alloc (.cells M 23)).drew.drew w0.heap.size (.slice (some ⟨w0.heap.size, 0, none⟩) n n) (List.replicate n ⟨none, 0, 0⟩) := MK1.out w0 w0.heap.size (Nat.le_refl _)
     rw [hv] at O1
     refine hK.out _ _ (g1) (fun hHeld => ?_)
     clear hK K
     try simp only [Act.put]
     refine tkE 10 ?_ (hv := by intro wS hSw; go_simp; (try with_reducible rfl))
     try simp only [Act.put]
     refine wpAnyH_done (by kernel_rfl) ?_ _
     have HO1 := jae O1
     have G1 := jae g1
     have LT1 : Hid (w0.heap.size < w1.heap.size) := (World.ownsRow.lt O1 w0.heap.size rfl).2
     clear O1 g1 hv y0 y1 y2 y3 q0 q1 q2
     go_simp
     go_wp2_with fail
     go_loopg [27] n (fun gh i wr => w0.grownBy wr none ∧ ∃ (k : Nat) (rs : List (Sl × List Int)), gh = n - k ∧ k ≤ n ∧ rs.length = k ∧ i = .int .i64 k ∧ rs.map (·.2) = (jbp xs S n).take k ∧ (∀ q ∈ rs, IsInts w q.1.v q.2) ∧ jaU 23 1 jco wr w0.heap.size (.slice (some ⟨w0.heap.size, 0, none⟩) n n) (rs.map (·.1) ++ List.replicate (n - k) ⟨none, 0, 0⟩))
     case atStart => exact ⟨G1.out, 0, [], rfl, Nat.zero_le _, rfl, rfl, by simp, (fun q hq => by cases hq), by simpa using HO1.out⟩
     case round =>
      obtain ⟨hg, r, rs, hgk, hr, hrl, rfl, hm, hin, ho⟩ := hrel
      have HG := jae hg
      have HRL := jae hrl
      have HM := jae hm
      have HIN := jae hin
      have HO := jae ho
      clear hrl hm hin ho
      by_cases hlt : r < n
      ·obtain ⟨q0, q1, q2⟩ := jal (BX.out wr hg)
       obtain ⟨R, hR⟩ : ∃ R, R = r * S := ⟨_, rfl⟩
       have hRS : R + S ≤ xs.length := by
        rw [HL.out, hR, show r * S + S = (r + 1) * S from by rw [Nat.add_mul]; omega]
        exact Nat.mul_le_mul_right _ hlt
       obtain ⟨C2, hC2⟩ : ∃ C2, tc = R + C2 := ⟨tc - R, by omega⟩
       have e1 : ¬ C2 = 0 := by omega
       have e2 : S ≤ C2 := by omega
       have e3 : R ≤ xs.length := by omega
       have hR3 : R ≤ 1000000 := by have := HB.out; omega
       have IP := jae (jgN (show IsInts w (.slice (some ⟨b, off, none⟩) xs.length tc) xs from HD.out) R S C2 hRS (by omega) e2)
       have EL : Hid ((xs.drop R).take S = jdT xs S r) := by show _ = _; rw [jdT, hR]
       have TK : Hid ((jbp xs S n).take (r + 1) = (jbp xs S n).take r ++ [jdT xs S r]) := by
        show _ = _
        rw [List.take_add_one, jbp, List.getElem?_map, List.getElem?_range hlt]
        rfl
       have hrl' := HRL.out
       obtain ⟨⟨u0, u1⟩, u2, u3, u4⟩ := jfx HO.out (by rw [List.length_append, List.length_map, List.length_replicate]; omega) hlt ⟨some ⟨b, off + R, none⟩, S, C2⟩
       obtain ⟨qa, qn, qc⟩ := u0
       have ES : Hid ((rs.map (·.1) ++ List.replicate (n - r) (⟨none, 0, 0⟩ : Sl)).set r ⟨some ⟨b, off + R, none⟩, S, C2⟩ = (rs ++ [((⟨some ⟨b, off + R, none⟩, S, C2⟩ : Sl), jdT xs S r)]).map (·.1) ++ List.replicate (n - (r + 1)) ⟨none, 0, 0⟩) := by
        show _ = _
        rw [List.set_append_right _ _ (by rw [List.length_map]; omega), List.length_map, hrl', Nat.sub_self, show n - r = (n - (r + 1)) + 1 from by omega, List.replicate_succ, List.set_cons_zero, List.map_append, List.append_assoc]
        rfl
       rw [ES.out] at u3
       have NX := jae u3
       have GX0 := jae (jas hg u4 (Nat.le_refl _))
       have y1' : w.heap.size ≠ w0.heap.size := by rw [Z0.out]; omega
       have y1 := y1'.symm
       have r1 : (r : Int) < (n : Int) := by omega
       have w3' : wrap64 ((r : Int) * (S : Int)) = (R : Int) := by
        rw [← Int.natCast_mul, ← hR]
        exact jdA (Int.natCast_nonneg _) (Int.ofNat_le.2 hR3)
       clear hR hRS hR3 u3 u4 hg hrl' ES
       simp only at u1
       subst hC2
       go_wp2_with fail
       clear w3'
       go_roundg (n - (r + 1))
       case measure => omega
       case rel =>
        refine ⟨GX0.out, r + 1, rs ++ [((⟨some ⟨b, off + R, none⟩, S, C2⟩ : Sl), jdT xs S r)], rfl, hlt, by rw [List.length_append, HRL.out]; rfl, by go_num, ?_, ?_, NX.out⟩
        ·rw [List.map_append, HM.out, TK.out]
         rfl
        ·intro q hq
         rcases List.mem_append.1 hq with hq | hq
         ·exact HIN.out q hq
         ·rw [List.mem_singleton.1 hq, ← EL.out]
          exact IP.out
      ·obtain rfl : r = n := by omega
       have RW : Hid (Rws wr w0.heap.size 0 (rs.map (·.1)) (jbp xs S r)) := by
        have hm := HM.out
        rw [List.take_of_length_le (by simp [jbp])] at hm
        have hL : (jbp xs S r).length = r := by simp [jbp]
        have h2 := HO.out
        rw [Nat.sub_self, List.replicate_zero, List.append_nil] at h2
        have h3 := h2.isL (bytes := 24) jfv (by rw [List.length_map, HRL.out]; omega)
        refine ⟨by rw [List.length_map, HRL.out, hL], fun k hk => ?_, fun k hk => ?_⟩
        ·have hk' : k < (rs.map (·.1)).length := by rw [List.length_map, HRL.out]; omega
         have hc := h3.at k hk' 0 (by omega)
         rw [List.getD, List.getElem?_eq_getElem hk', Option.getD_some]
         simpa [jco] using hc
        ·have hk' : k < rs.length := by rw [HRL.out]; omega
         have hi := HIN.out rs[k] (List.getElem_mem hk')
         rw [← hm]
         simp only [List.getD, List.getElem?_map, List.getElem?_eq_getElem hk', Option.map_some, Option.getD_some]
         exact hi.more (jaa G0.out HG.out)
       clear hg
       go_wp2
       go_ret
       exact ⟨w0.heap.size, rs.map (·.1), rfl, RW.out, G0.out.size, jaa G0.out HG.out⟩
end Go.Proofs.YtkefdkboejimeaaGreatDoor
namespace Go.Proofs.YtkefdkboejimeaaGreatDoor
open Go.RowKit
theorem jat {N R : Prop} (h : N → R) (n : N) : R := h n
theorem jnK : (Tryz.prog.info? 88).map (·.size) = some 5 := by kernel_rfl
theorem je5 : (Tryz.prog.info? 90).map (·.size) = some 10 := by kernel_rfl
theorem jnL {fn : Func} {p : Tmp} (h : fn.results = #[.cell p 88]) (tmps : Array Value) (w : World) (B : Nat) (hp : tmps.getD p undef = .pointer (some ⟨B, 0, none⟩)) {a0 a1 a2 a3 a4 : Value}
    (hb : w.heap[B]? = some (.cells #[a0, a1, a2, a3, a4] 88 (0, 0))) : (results fn tmps).run Tryz.prog w = .ok (.agg #[a0, a1, a2, a3, a4]) w :=
     results_cell_row h tmps w B 88 #[a0, a1, a2, a3, a4] (0, 0) _ hp hb Tryz.underlying88 rfl (by rw [jnK]; rfl)
theorem jpr {fn : Func} {p : Tmp} (h : fn.results = #[.cell p 90]) (tmps : Array Value) (w : World) (B : Nat) (hp : tmps.getD p undef = .pointer (some ⟨B, 0, none⟩)) {a0 a1 a2 a3 a4 a5 a6 a7 a8 a9 : Value}
    (hb : w.heap[B]? = some (.cells #[a0, a1, a2, a3, a4, a5, a6, a7, a8, a9] 90 (0, 0))) : (results fn tmps).run Tryz.prog w = .ok (.agg #[a0, a1, a2, a3, a4, a5, a6, a7, a8, a9]) w :=
     results_cell_row h tmps w B 90 #[a0, a1, a2, a3, a4, a5, a6, a7, a8, a9] (0, 0) _ hp hb Tryz.underlying90 rfl (by rw [je5]; rfl)
theorem jbm (x : World) (B j : Nat) (v : Value) : x.grownBy (x.setCell ⟨B, j, none⟩ v) (some B) := ⟨rfl, rfl, rfl, by simp [World.setCell], fun k _ hk => Below.heap_setCell _ _ _ _ (fun e => hk (by rw [e]))⟩
theorem jps {w : World} {B : Nat} {t : TypeId} {z0 z1 z2 z3 z4 : Value} (a b c d e : Value) (hb : w.heap[B]? = some (.cells #[z0, z1, z2, z3, z4] t (0, 0))) :
    (((((w.setCell ⟨B, 0, none⟩ a).setCell ⟨B, 1, none⟩ b).setCell ⟨B, 2, none⟩ c).setCell ⟨B, 3, none⟩ d).setCell ⟨B, 4, none⟩ e).heap[B]? = some (.cells #[a, b, c, d, e] t (0, 0)) ∧ w.grownBy (((((w.setCell ⟨B, 0, none⟩ a).setCell ⟨B, 1, none⟩ b).setCell ⟨B, 2, none⟩ c).setCell ⟨B, 3, none⟩ d).setCell ⟨B, 4, none⟩ e) (some B) := by
     have h1 := heap_setCell_same w B 0 _ _ a hb
     have h2 := heap_setCell_same _ B 1 _ _ b h1
     have h3 := heap_setCell_same _ B 2 _ _ c h2
     have h4 := heap_setCell_same _ B 3 _ _ d h3
     have h5 := heap_setCell_same _ B 4 _ _ e h4
     exact ⟨by simpa using h5, jaP (jaP (jaP (jaP (jbm w B 0 a) (jbm _ B 1 b)) (jbm _ B 2 c)) (jbm _ B 3 d)) (jbm _ B 4 e)⟩
theorem jbd {w : World} {B : Nat} {cs : Array Value} {t : TypeId} (hb : w.heap[B]? = some (.cells cs t (0, 0))) : ∀ j, w.frozen? ⟨B, j, none⟩ = false := fun j => frozen_of_row w B j cs t hb
theorem joh (i : Nat) (hi : i < 2) (b1 b2 b3 b4 b5 : Nat) (dv kv sv lv pv : Sl) (x k s d p : List Int) (w : World) (h1 : w.heap[b1]? = some (.cells #[.slice dv.a dv.n dv.c] 22 (0, 0))) (h2 : w.heap[b2]? = some (.cells #[.slice kv.a kv.n kv.c] 23 (0, 0))) (h3 : w.heap[b3]? = some (.cells #[.slice sv.a sv.n sv.c] 23 (0, 0))) (h4 : w.heap[b4]? = some (.cells #[.slice lv.a lv.n lv.c] 23 (0, 0))) (h5 : w.heap[b5]? = some (.cells #[.slice pv.a pv.n pv.c] 23 (0, 0)))
    (i1 : IsInts w dv.v x) (i2 : IsInts w kv.v k) (i3 : IsInts w sv.v s) (i4 : IsInts w lv.v d) (i5 : IsInts w pv.v p) (l1 : x.length = 4) (l2 : k.length = 2) (l3 : s.length = 2) (l4 : d.length = 2) (l5 : p.length = 4) :
    Calls Tryz.prog 99 #[.int .i64 i, .pointer (some ⟨b1, 0, none⟩), .pointer (some ⟨b2, 0, none⟩), .pointer (some ⟨b3, 0, none⟩), .pointer (some ⟨b4, 0, none⟩), .pointer (some ⟨b5, 0, none⟩)] w fun e w' => e = .returned (.agg #[.int .i64 (x.getD (2 + i) 0), .int .i64 (k.getD i 0), .int .i64 (s.getD i 0), .int .i64 (d.getD i 0), .int .i64 (p.getD i 0)]) ∧ w.grownBy w' none := by
     obtain ⟨da, dn, dc⟩ := dv
     obtain ⟨ka, kn, kc⟩ := kv
     obtain ⟨sa, sn, sc⟩ := sv
     obtain ⟨la, ln, lc⟩ := lv
     obtain ⟨pa, pn, pc⟩ := pv
     obtain ⟨_, _, e1, -, -, -⟩ := i1.sl
     obtain ⟨_, _, e2, -, -, -⟩ := i2.sl
     obtain ⟨_, _, e3, -, -, -⟩ := i3.sl
     obtain ⟨_, _, e4, -, -, -⟩ := i4.sl
     obtain ⟨_, _, e5, -, -, -⟩ := i5.sl
     rw [l1] at e1
     rw [l2] at e2
     rw [l3] at e3
     rw [l4] at e4
     rw [l5] at e5
     simp only [Sl.v, Value.slice.injEq] at e1 e2 e3 e4 e5 i1 i2 i3 i4 i5
     obtain ⟨rfl, rfl, rfl⟩ := e1
     obtain ⟨rfl, rfl, rfl⟩ := e2
     obtain ⟨rfl, rfl, rfl⟩ := e3
     obtain ⟨rfl, rfl, rfl⟩ := e4
     obtain ⟨rfl, rfl, rfl⟩ := e5
     obtain ⟨q1, o1, rfl⟩ := jaM i1 (by omega)
     obtain ⟨q2, o2, rfl⟩ := jaM i2 (by omega)
     obtain ⟨q3, o3, rfl⟩ := jaM i3 (by omega)
     obtain ⟨q4, o4, rfl⟩ := jaM i4 (by omega)
     obtain ⟨q5, o5, rfl⟩ := jaM i5 (by omega)
     have y1 := jaC i1 (k := 2 + i) (by omega)
     have y2 := jaC i2 (k := i) (by omega)
     have y3 := jaC i3 (k := i) (by omega)
     have y4 := jaC i4 (k := i) (by omega)
     have y5 := jaC i5 (k := i) (by omega)
     generalize x.getD (2 + i) 0 = z1 at y1 ⊢
     generalize k.getD i 0 = z2 at y2 ⊢
     generalize s.getD i 0 = z3 at y3 ⊢
     generalize d.getD i 0 = z4 at y4 ⊢
     generalize p.getD i 0 = z5 at y5 ⊢
     obtain ⟨I, hI⟩ : ∃ I, I = 2 + i := ⟨_, rfl⟩
     rw [← hI] at y1
     have hw : IntKind.i64.wrap (2 + (i : Int)) = (I : Int) := by rw [hI, Vw.wrap_small (by omega) (by omega)]; push_cast; rfl
     have j1 : (I : Int) < 4 := by omega
     have j2 : (i : Int) < 2 := by omega
     have j3 : (i : Int) < 4 := by omega
     have j4 : I < 4 := by omega
     have j6 : i < 4 := by omega
     obtain ⟨w0, hw0⟩ : ∃ w0, w0 = w.alloc (.cells #[.int .i64 0, .int .i64 0, .int .i64 0, .int .i64 0, .int .i64 0] 88) := ⟨_, rfl⟩
     have g0 : w.grownBy w0 none := by rw [hw0]; exact jab _ _
     have hb0 := heap_alloc_new w (.cells #[.int .i64 0, .int .i64 0, .int .i64 0, .int .i64 0, .int .i64 0] 88)
     rw [← hw0] at hb0
     have c1 := jac (jaA h1) g0
     have c2 := jac (jaA h2) g0
     have c3 := jac (jaA h3) g0
     have c4 := jac (jaA h4) g0
     have c5 := jac (jaA h5) g0
     have Ny1 : Hid (q1 ≠ w.heap.size) := Nat.ne_of_lt (World.block_lt_of_cell? w _ y1)
     have Ny2 : Hid (q2 ≠ w.heap.size) := Nat.ne_of_lt (World.block_lt_of_cell? w _ y2)
     have Ny3 : Hid (q3 ≠ w.heap.size) := Nat.ne_of_lt (World.block_lt_of_cell? w _ y3)
     have Ny4 : Hid (q4 ≠ w.heap.size) := Nat.ne_of_lt (World.block_lt_of_cell? w _ y4)
     have Ny5 : Hid (q5 ≠ w.heap.size) := Nat.ne_of_lt (World.block_lt_of_cell? w _ y5)
     have y1 := jac y1 g0
     have y2 := jac y2 g0
     have y3 := jac y3 g0
     have y4 := jac y4 g0
     have y5 := jac y5 g0
     have Z0 : Hid (w.heap.size < w0.heap.size) := (Array.getElem?_eq_some_iff.1 hb0).1
     have G0 := jae g0
     have HB0 := jae hb0
     have Nc1 : Hid (b1 ≠ w.heap.size) := Nat.ne_of_lt (Array.getElem?_eq_some_iff.1 h1).1
     have Nc2 : Hid (b2 ≠ w.heap.size) := Nat.ne_of_lt (Array.getElem?_eq_some_iff.1 h2).1
     have Nc3 : Hid (b3 ≠ w.heap.size) := Nat.ne_of_lt (Array.getElem?_eq_some_iff.1 h3).1
     have Nc4 : Hid (b4 ≠ w.heap.size) := Nat.ne_of_lt (Array.getElem?_eq_some_iff.1 h4).1
     have Nc5 : Hid (b5 ≠ w.heap.size) := Nat.ne_of_lt (Array.getElem?_eq_some_iff.1 h5).1
     clear h1 h2 h3 h4 h5 i1 i2 i3 i4 i5 l1 l2 l3 l4 l5 g0 hb0 hI
     go_enter Tryz.func99, Tryz.ntmps99
     go_upto_region 1 with fail
     rw [← hw0]
     clear hw0
     refine wp_region_held_drew (S := fun w' => w0.grownBy w' (some w.heap.size)) (by kernel_rfl) (jbU (jag (jaf _)) _) (fun hHeld => ?_)
     refine tkE 0 ?_ (hv := by intro wS hSw; have c0 := jaX c1 hSw (Nc1.out); go_simp; (try with_reducible rfl))
     try simp only [Act.put]
     refine tkE 1 ?_ (hv := by intro wS hSw; go_simp; (try with_reducible rfl))
     try simp only [Act.put]
     refine wpAnyH_take (i := 2) (v := .int .i64 (I : Int)) rfl (by kernel_rfl) (by kernel_rfl) (by kernel_rfl) (fun _ _ _ h => h) (Or.inl ⟨by kernel_rfl, ?_⟩) (by assumption) ?_
     ·(intro wS hSw; go_simp; (try simp only [hw]))
     try simp only [Act.put]
     clear hw
     refine tkE 3 ?_ (hv := by intro wS hSw; go_simp; (try with_reducible rfl))
     try simp only [Act.put]
     refine tkE 4 ?_ (hv := by intro wS hSw; have c0 := jaX y1 hSw (Ny1.out); go_simp; (try with_reducible rfl))
     try simp only [Act.put]
     refine tkE 5 ?_ (hv := by intro wS hSw; have c0 := jaX c2 hSw (Nc2.out); go_simp; (try with_reducible rfl))
     try simp only [Act.put]
     refine tkE 6 ?_ (hv := by intro wS hSw; go_simp; (try with_reducible rfl))
     try simp only [Act.put]
     refine tkE 7 ?_ (hv := by intro wS hSw; go_simp; (try with_reducible rfl))
     try simp only [Act.put]
     refine tkE 8 ?_ (hv := by intro wS hSw; have c0 := jaX y2 hSw (Ny2.out); go_simp; (try with_reducible rfl))
     try simp only [Act.put]
     refine tkE 9 ?_ (hv := by intro wS hSw; have c0 := jaX c3 hSw (Nc3.out); go_simp; (try with_reducible rfl))
     try simp only [Act.put]
     refine tkE 10 ?_ (hv := by intro wS hSw; go_simp; (try with_reducible rfl))
     try simp only [Act.put]
     refine tkE 11 ?_ (hv := by intro wS hSw; go_simp; (try with_reducible rfl))
     try simp only [Act.put]
     refine tkE 12 ?_ (hv := by intro wS hSw; have c0 := jaX y3 hSw (Ny3.out); go_simp; (try with_reducible rfl))
     try simp only [Act.put]
     refine tkE 13 ?_ (hv := by intro wS hSw; have c0 := jaX c4 hSw (Nc4.out); go_simp; (try with_reducible rfl))
     try simp only [Act.put]
     refine tkE 14 ?_ (hv := by intro wS hSw; go_simp; (try with_reducible rfl))
     try simp only [Act.put]
     refine tkE 15 ?_ (hv := by intro wS hSw; go_simp; (try with_reducible rfl))
     try simp only [Act.put]
     refine tkE 16 ?_ (hv := by intro wS hSw; have c0 := jaX y4 hSw (Ny4.out); go_simp; (try with_reducible rfl))
     try simp only [Act.put]
     refine tkE 17 ?_ (hv := by intro wS hSw; have c0 := jaX c5 hSw (Nc5.out); go_simp; (try with_reducible rfl))
     try simp only [Act.put]
     refine tkE 18 ?_ (hv := by intro wS hSw; go_simp; (try with_reducible rfl))
     try simp only [Act.put]
     refine tkE 19 ?_ (hv := by intro wS hSw; go_simp; (try with_reducible rfl))
     try simp only [Act.put]
     refine tkE 20 ?_ (hv := by intro wS hSw; have c0 := jaX y5 hSw (Ny5.out); go_simp; (try with_reducible rfl))
     try simp only [Act.put]
     refine tkE 21 ?_ (hv := by intro wS hSw; go_simp; (try with_reducible rfl))
     try simp only [Act.put]
     clear c1 c2 c3 c4 c5 y1 y2 y3 y4 y5 j1 j2 j3 j4 j6 Nc1 Nc2 Nc3 Nc4 Nc5 Ny1 Ny2 Ny3 Ny4 Ny5
     have kk0 : w0.cell? ⟨w.heap.size, 0, none⟩ = some (.int .i64 0) := (cell_of_row _ _ 0 _ _ (0, 0) HB0.out).trans rfl
     have kk1 : w0.cell? ⟨w.heap.size, 1, none⟩ = some (.int .i64 0) := (cell_of_row _ _ 1 _ _ (0, 0) HB0.out).trans rfl
     have kk2 : w0.cell? ⟨w.heap.size, 2, none⟩ = some (.int .i64 0) := (cell_of_row _ _ 2 _ _ (0, 0) HB0.out).trans rfl
     have kk3 : w0.cell? ⟨w.heap.size, 3, none⟩ = some (.int .i64 0) := (cell_of_row _ _ 3 _ _ (0, 0) HB0.out).trans rfl
     have kk4 : w0.cell? ⟨w.heap.size, 4, none⟩ = some (.int .i64 0) := (cell_of_row _ _ 4 _ _ (0, 0) HB0.out).trans rfl
     have fk0 := jbd HB0.out 0
     have fk1 := jbd HB0.out 1
     have fk2 := jbd HB0.out 2
     have fk3 := jbd HB0.out 3
     have fk4 := jbd HB0.out 4
     refine rdA 22 fun K hK => ?_
     go_simp
     obtain ⟨st, sg⟩ := jps (.int .i64 z1) (.int .i64 z2) (.int .i64 z3) (.int .i64 z4) (.int .i64 z5) HB0.out
     refine hK.out _ _ (⟨sg.os, sg.tape, sg.output, sg.size, sg.block⟩) (fun hHeld => ?_)
     clear hK K
     try simp only [Act.put]
     refine wpAnyH_done (by kernel_rfl) ?_ _
     go_simp
     go_wp2
     refine bodyPost_ret (jnL rfl _ _ w.heap.size rfl st) rfl ?_
     exact ⟨rfl, jah G0.out ⟨sg.os, sg.tape, sg.output, sg.size, sg.block⟩ (fun r e => by cases e; exact Nat.le_refl _)⟩
end Go.Proofs.YtkefdkboejimeaaGreatDoor
namespace Go.Proofs.YtkefdkboejimeaaGreatDoor
open Go.RowKit Go.Shelf
attribute [local go_sem] Oper.semAt_some
structure MInv (w : World) (Bi Bg Bs Bc q1 q2 q3 q4 : Nat) (u : Sl) (m : Int) (c : Int) (W : World) : Prop where
 gr : w.grownBy W none
 img : W.heap[Bi]? = some (.cells #[.slice u.a u.n u.c] 23 (0, 0))
 stp : W.heap[Bg]? = some (.cells #[jeb q1 q2] 101 (0, 0))
 two : jhW ⟨#[65, 100, 100]⟩ 1 W q1 q2
 div : jhW ⟨#[68, 105, 118]⟩ 1 W q3 q4
 sum : Boxed W Bs 2 (.int .i64 m)
 cnt : Boxed W Bc 2 (.int .i64 c)
theorem MInv.turn {w W W' : World} {Bi Bg Bs Bc q1 q2 q3 q4 B0 : Nat} {u : Sl} {m c : Int} (h : MInv w Bi Bg Bs Bc q1 q2 q3 q4 u m c W) {row : Option Nat} (hg : W.grownBy W' row) (hr : ∀ r, row = some r → B0 ≤ r ∧ ∃ o : Obj, W.heap[r]? = some o ∧ o.isCells = false) (hB : w.heap.size ≤ B0) : MInv w Bi Bg Bs Bc q1 q2 q3 q4 u m c W' := by
 have hr' : ∀ r, row = some r → ∃ o : Obj, W.heap[r]? = some o ∧ o.isCells = false := fun r e => (hr r e).2
 exact ⟨jah h.gr hg (fun r e => by have := (hr r e).1; omega), jaW h.img rfl hg hr', jaW h.stp rfl hg hr', ⟨jaW h.two.1 rfl hg hr', jaW h.two.2 rfl hg hr'⟩, ⟨jaW h.div.1 rfl hg hr', jaW h.div.2 rfl hg hr'⟩, jaW h.sum rfl hg hr', jaW h.cnt rfl hg hr'⟩
theorem MInv.more {w W W' : World} {Bi Bg Bs Bc q1 q2 q3 q4 : Nat} {u : Sl} {m c : Int} (h : MInv w Bi Bg Bs Bc q1 q2 q3 q4 u m c W) (hg : W.grownBy W' none) : MInv w Bi Bg Bs Bc q1 q2 q3 q4 u m c W' := h.turn (B0 := w.heap.size) hg (fun r e => by cases e) (Nat.le_refl _)
theorem MInv.put {w W : World} {Bi Bg Bs Bc q1 q2 q3 q4 : Nat} {u : Sl} {m c : Int} (h : MInv w Bi Bg Bs Bc q1 q2 q3 q4 u m c W) (m' c' : Int) (h0 : w.heap.size ≤ Bs) (h1 : Bi < Bs) (h2 : Bg < Bs) (h3 : q1 < Bs ∧ q2 < Bs) (h4 : q3 < Bs ∧ q4 < Bs) (h5 : Bs < Bc) : MInv w Bi Bg Bs Bc q1 q2 q3 q4 u m' c' ((W.setCell ⟨Bs, 0, none⟩ (.int .i64 m')).setCell ⟨Bc, 0, none⟩ (.int .i64 c')) :=
 ⟨jah (jah h.gr (grownBy_setCell' W Bs _) (fun r e => by cases e; exact h0)) (grownBy_setCell' _ Bc _) (fun r e => by cases e; omega), jau (jau h.img (by omega) _) (by omega) _, jau (jau h.stp (by omega) _) (by omega) _, ⟨jau (jau h.two.1 (by omega) _) (by omega) _, jau (jau h.two.2 (by omega) _) (by omega) _⟩, ⟨jau (jau h.div.1 (by omega) _) (by omega) _, jau (jau h.div.2 (by omega) _) (by omega) _⟩, jau (h.sum.set _) (by omega) _, Boxed.set (v := .int .i64 c) _ (jau h.cnt (by omega) _)⟩
end Go.Proofs.YtkefdkboejimeaaGreatDoor
namespace Go.Proofs.YtkefdkboejimeaaGreatDoor
open Go.RowKit
theorem jlI (H kh W kw h v p1 p2 p3 c1 c2 : Nat) (u : Sl) (img : List Int) (w : World) (b1 : w.heap[c1]? = some (.cells #[.func (.func 27) #[] #[]] 99 (0, 0))) (b2 : w.heap[c2]? = some (.cells #[.slice u.a u.n u.c] 23 (0, 0))) (hp : PlB H kh W kw h v w p1 p2 p3) (hh : h + kh ≤ H) (hv : v + kw ≤ W) (hW : W ≤ 65536) (hH : H ≤ 65536) (hL : H * W ≤ 65536) (hK : kh * kw ≤ 65536) (hx : IsInts w u.v img) (hl : img.length = H * W) (h0 : 0 < H * W) :
    Calls Tryz.prog 62 #[plV p1 p2 p3, .pointer (some ⟨c1, 0, none⟩), .pointer (some ⟨c2, 0, none⟩)] w fun e w' => e = .returned (.int .i64 (jbE 1 (jhv img W kh kw h v))) ∧ w.grownBy w' none := by
     have k1 := jaA b1
     have k2 := jaA b2
     have GW := jae (jg4 H kh W kw h v p1 p2 p3 u img w hp hh hv hW hH hL hK hx hl h0)
     generalize jbE 1 (jhv img W kh kw h v) = z at GW ⊢
     clear b1 b2 hp hh hv hW hH hL hK hx hl h0
     unfold plV at GW ⊢
     go_enter Tryz.func62, Tryz.ntmps62
     go_wp2_with fail
     refine GW.out.mono ?_
     rintro e w1 ⟨rfl, hg1⟩
     go_wp2
     go_ret
     exact ⟨rfl, hg1⟩
end Go.Proofs.YtkefdkboejimeaaGreatDoor
