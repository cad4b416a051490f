/- A part. -/
import Derived.Test.YtbgbpfbjeleooaaGreatPartBP
import Derived.Test.YtbgbpfbjeleooaaGreatPartAH
import Derived.Test.YtbgbpfbjeleooaaGreatPartBQ
set_option maxHeartbeats 12800000
set_option maxRecDepth 100000
namespace Go.Proofs.YtbgbpfbjeleooaaGreat.Pd
open Go.RowKit
open Wr (Fld)
theorem litW {w : World} {B : Nat} (zs : List Int) (hb : w.heap[B]? = some (.cells (zs.map (Value.int .i64)).toArray 3 (0, 0))) (hl : zs.length ≤ 1024) (hz : ∀ z ∈ zs, -1024 ≤ z ∧ z ≤ 1024) : jap w (.slice (some ⟨B, 0, none⟩) zs.length zs.length) zs := by
 refine jdY.ints (base := 0) ⟨⟨by simp, Or.inr ⟨B, zs.length, _, rfl, Nat.zero_le _, hb, Nat.le_refl _, by simp only [maxLen]; omega, by simp, ?_⟩⟩, by omega, fun z hz' => by have := hz z hz'; constructor <;> omega⟩
 rw [List.take_of_length_le (by simp)]
theorem seven (w : World) (z a b c d e f : Obj) : ∀ W, W = ((((((w.alloc z).alloc a).alloc b).alloc c).alloc d).alloc e).alloc f →
    W.heap[w.heap.size]? = some z ∧ W.heap[w.heap.size + 1]? = some a ∧ W.heap[w.heap.size + 1 + 1]? = some b ∧ W.heap[w.heap.size + 1 + 1 + 1]? = some c ∧ W.heap[w.heap.size + 1 + 1 + 1 + 1]? = some d ∧ W.heap[w.heap.size + 1 + 1 + 1 + 1 + 1]? = some e ∧ W.heap[w.heap.size + 1 + 1 + 1 + 1 + 1 + 1]? = some f ∧ w.grownBy W none := by
     intro W hW
     obtain ⟨h0, h1, h2, h3, h4, h5, hg⟩ := six (w.alloc z) a b c d e f W hW
     have s : (w.alloc z).heap.size = w.heap.size + 1 := by simp
     rw [s] at h0 h1 h2 h3 h4 h5
     exact ⟨(hg.block w.heap.size (by omega) (by simp)).trans (heap_alloc_new w z), h0, h1, h2, h3, h4, h5, jaa (jab _ _) hg⟩
theorem RdG.inG {w : World} {g : Gra} {ns : List (Nod × Ni)} {is os : List (Val × List Int)} {ts : List (Nam × List Int × List Int)} (h : RdG w g ns is os ts) : GraphIn0 w g (ns.map jjq) is os ts := by
 refine ⟨?_, h.ins, h.outs, h.inits, fun c hc => ?_, h.din, h.dout, h.dten⟩
 ·rw [List.map_map]
  exact h.nodes
 ·obtain ⟨p, hp, rfl⟩ := List.mem_map.1 hc
  exact h.node p hp
def jlh (w : World) (e : Ending) (w' : World) : Prop := ∃ (g : Gra) (s1 s2 s3 : Sl), e = .returned (jdG g) ∧ g.name = ⟨#[103]⟩ ∧ RdG w' g (jcO s1) (jcP s2) (jcQ s3) [] ∧ w.grownBy w' none
theorem jjX (w : World) (W : World) (hW : W = (((((((w.alloc (.cells #[.string ⟨#[103]⟩, .slice (some ⟨w.heap.size + 1 + 1 + 1 + 1 + 1 + 1, 0, none⟩) 1 1, .slice (some ⟨w.heap.size + 1 + 1, 0, none⟩) 1 1, .slice (some ⟨w.heap.size + 1 + 1 + 1 + 1, 0, none⟩) 1 1, .slice none 0 0] 27)).alloc (.cells #[.int .i64 2] 3)).alloc (.cells #[.string ⟨#[120]⟩, .int .i64 1, .slice (some ⟨w.heap.size + 1, 0, none⟩) 1 1] 82)).alloc (.cells #[.int .i64 2] 3)).alloc (.cells #[.string ⟨#[121]⟩, .int .i64 1, .slice (some ⟨w.heap.size + 1 + 1 + 1, 0, none⟩) 1 1] 82)).alloc (.cells #[.string ⟨#[120]⟩] 9)).alloc (.cells #[.string ⟨#[82, 101, 108, 117]⟩, .string ⟨#[]⟩, .slice (some ⟨w.heap.size + 1 + 1 + 1 + 1 + 1, 0, none⟩) 1 1, .string ⟨#[121]⟩, .slice none 0 0] 35))) :
    W.heap[w.heap.size]? = some (.cells #[.string ⟨#[103]⟩, .slice (some ⟨w.heap.size + 1 + 1 + 1 + 1 + 1 + 1, 0, none⟩) 1 1, .slice (some ⟨w.heap.size + 1 + 1, 0, none⟩) 1 1, .slice (some ⟨w.heap.size + 1 + 1 + 1 + 1, 0, none⟩) 1 1, .slice none 0 0] 27 (0, 0)) ∧ w.grownBy W none ∧ RdG W ⟨⟨#[103]⟩, ⟨some ⟨w.heap.size + 1 + 1 + 1 + 1 + 1 + 1, 0, none⟩, 1, 1⟩, ⟨some ⟨w.heap.size + 1 + 1, 0, none⟩, 1, 1⟩, ⟨some ⟨w.heap.size + 1 + 1 + 1 + 1, 0, none⟩, 1, 1⟩, jkO⟩ (jcO ⟨some ⟨w.heap.size + 1 + 1 + 1 + 1 + 1, 0, none⟩, 1, 1⟩) (jcP ⟨some ⟨w.heap.size + 1, 0, none⟩, 1, 1⟩) (jcQ ⟨some ⟨w.heap.size + 1 + 1 + 1, 0, none⟩, 1, 1⟩) [] := by
     obtain ⟨h0, h1, h2, h3, h4, h5, h6, hg⟩ := seven w _ _ _ _ _ _ _ W hW
     have nilA : jgK W jkO.v [] := OwnsL.isL (te := 78) (base := 0) jfo (OwnsL.nil ..) (by simp)
     refine ⟨h0, hg, ⟨?_, ?_, ?_, ?_, fun p hp => ?_, fun p hp => ?_, fun p hp => ?_, (fun p hp => by cases hp)⟩⟩
     ·exact jeG (te := 35) (bytes := 96) (xs := (jcO ⟨some ⟨w.heap.size + 1 + 1 + 1 + 1 + 1, 0, none⟩, 1, 1⟩).map (·.1)) jeo h6 rfl rfl (Nat.le_of_ble_eq_true rfl) (Nat.le_of_ble_eq_true rfl)
     ·exact jeG (te := 82) (bytes := 48) (xs := (jcP ⟨some ⟨w.heap.size + 1, 0, none⟩, 1, 1⟩).map (·.1)) jcr h2 rfl rfl (Nat.le_of_ble_eq_true rfl) (Nat.le_of_ble_eq_true rfl)
     ·exact jeG (te := 82) (bytes := 48) (xs := (jcQ ⟨some ⟨w.heap.size + 1 + 1 + 1, 0, none⟩, 1, 1⟩).map (·.1)) jcr h4 rfl rfl (Nat.le_of_ble_eq_true rfl) (Nat.le_of_ble_eq_true rfl)
     ·exact OwnsL.isL (te := 67) (base := 0) jen (OwnsL.nil ..) (by simp)
     ·simp only [jcO, List.mem_cons, List.not_mem_nil, or_false] at hp
      subst hp
      exact ⟨jeG (te := 9) (bytes := 16) (xs := [⟨#[120]⟩]) jii h5 rfl rfl (Nat.le_of_ble_eq_true rfl) (Nat.le_of_ble_eq_true rfl), nilA, (fun j a h => by simp at h)⟩
     ·simp only [jcP, List.mem_cons, List.not_mem_nil, or_false] at hp
      subst hp
      exact litW [2] h1 (by simp) (by simp)
     ·simp only [jcQ, List.mem_cons, List.not_mem_nil, or_false] at hp
      subst hp
      exact litW [2] h3 (by simp) (by simp)
theorem jgF (w : World) : Calls Tryz.prog 20 #[] w fun e w' => jlh w e w' := by
 go_enter Tryz.func20, Tryz.ntmps20
 go_wp2_with fail
 obtain ⟨hb, hg, hok⟩ := jjX w _ rfl
 refine bodyPost_ret (jeV rfl _ _ w.heap.size rfl hb) rfl ?_
 exact ⟨_, _, _, _, rfl, rfl, hok, hg⟩
end Go.Proofs.YtbgbpfbjeleooaaGreat.Pd
namespace Go.Proofs.YtbgbpfbjeleooaaGreat.Pd
open Go.RowKit
open Wr (Fld)
def jfe (p : Nod × Ni) : Nod × Ni := (p.1, ⟨p.2.ins, p.2.xs, p.2.cs.take p.2.xs.length⟩)
theorem ji9 {w : World} {n : Nod} {q : Ni} (h : NodeIn0 w n q.ins q.xs q.cs) : q.xs.length ≤ q.cs.length := by
 refine Nat.le_of_not_lt fun hlt => ?_
 obtain ⟨c, e, -⟩ := h.has q.cs.length q.xs[q.cs.length] (List.getElem?_eq_getElem hlt)
 rw [List.getElem?_eq_none (Nat.le_refl _)] at e
 cases e
theorem jja {w : World} {n : Nod} {q : Ni} (h : NodeIn0 w n q.ins q.xs q.cs) : NodeIn0 w n (jfe (n, q)).2.ins (jfe (n, q)).2.xs (jfe (n, q)).2.cs := by
 refine ⟨h.ins, h.av, fun j a e => ?_⟩
 obtain ⟨c, e1, e2⟩ := h.has j a e
 refine ⟨c, ?_, e2⟩
 have hj : j < q.xs.length := (List.getElem?_eq_some_iff.1 e).1
 show (q.cs.take q.xs.length)[j]? = some c
 rw [List.getElem?_take, if_pos hj]
 exact e1
theorem jhy : ∀ (xs : List Atr) (cs : List Cont) (ys : List Atr) (ds : List Cont), xs.length ≤ cs.length → ys.length ≤ ds.length → List.zipWith jbJ xs cs = List.zipWith jbJ ys ds → xs.map jcU = ys.map jcU ∧ cs.take xs.length = ds.take ys.length
 | [], cs, [], ds, _, _, _ => ⟨rfl, by simp⟩
 | [], cs, y :: ys, [], _, h, _ => by simp at h
 | [], cs, y :: ys, d :: ds, _, _, h => by simp at h
 | x :: xs, [], _, _, h, _, _ => by simp at h
 | x :: xs, c :: cs, [], ds, _, _, h => by simp at h
 | x :: xs, c :: cs, y :: ys, [], _, h, _ => by simp at h
 | x :: xs, c :: cs, y :: ys, d :: ds, h1, h2, h => by
  rw [List.zipWith_cons_cons, List.zipWith_cons_cons, List.cons.injEq] at h
  obtain ⟨i1, i2⟩ := jhy xs cs ys ds (by simpa using h1) (by simpa using h2) h.2
  obtain ⟨e1, e2, e3, e4, e5, e6, e7, e8, e9⟩ := NAtr.mk.inj h.1
  obtain ⟨d1, d2, d3⟩ := d
  obtain ⟨c1, c2, c3⟩ := c
  simp only at e7 e8 e9
  subst e7 e8 e9
  refine ⟨?_, ?_⟩
  ·rw [List.map_cons, List.map_cons, i1]
   simp only [jcU, e1, e2, e3, e4, e5, e6]
  ·rw [List.length_cons, List.length_cons, List.take_succ_cons, List.take_succ_cons, i2]
theorem jkM {w w' : World} {p q : Nod × Ni} (hp : NodeIn0 w p.1 p.2.ins p.2.xs p.2.cs) (hq : NodeIn0 w' q.1 q.2.ins q.2.xs q.2.cs) (h : jc7 p = jc7 q) : jjg (jjq (jfe p)) = jjg (jjq (jfe q)) := by
 obtain ⟨e1, e2, e3, e4, e5⟩ := NNod.mk.inj h
 obtain ⟨k1, k2⟩ := jhy _ _ _ _ (ji9 hp) (ji9 hq) e5
 simp only [jjg, jjq, jfe, e1, e2, e3, e4, k1, k2]
theorem jhz {w w' : World} : ∀ {ps qs : List (Nod × Ni)}, (∀ p ∈ ps, NodeIn0 w p.1 p.2.ins p.2.xs p.2.cs) → (∀ p ∈ qs, NodeIn0 w' p.1 p.2.ins p.2.xs p.2.cs) → ps.map jc7 = qs.map jc7 → ((ps.map jfe).map jjq).map jjg = ((qs.map jfe).map jjq).map jjg
 | [], [], _, _, _ => rfl
 | [], q :: qs, _, _, h => by simp at h
 | p :: ps, [], _, _, h => by simp at h
 | p :: ps, q :: qs, hp, hq, h => by
  rw [List.map_cons, List.map_cons, List.cons.injEq] at h
  simp only [List.map_cons]
  rw [jkM (hp p (List.mem_cons_self ..)) (hq q (List.mem_cons_self ..)) h.1]
  exact congrArg _ (jhz (fun x hx => hp x (List.mem_cons_of_mem _ hx)) (fun x hx => hq x (List.mem_cons_of_mem _ hx)) h.2)
theorem RdG.trim {w : World} {g : Gra} {ns : List (Nod × Ni)} {is os : List (Val × List Int)} {ts : List (Nam × List Int × List Int)} (h : RdG w g ns is os ts) : RdG w g (ns.map jfe) is os ts := by
 refine ⟨?_, h.ins, h.outs, h.inits, fun p hp => ?_, h.din, h.dout, h.dten⟩
 ·rw [List.map_map]
  exact h.nodes
 ·obtain ⟨q, hq, rfl⟩ := List.mem_map.1 hp
  exact jja (h.node q hq)
theorem Quad.rd {w : World} {base : Nat} {g : Gra} {ns : List (Nod × Ni)} {is os : List (Val × List Int)} {ts : List (Nam × List Int × List Int)} (h : Quad w base g.nv.v g.iv.v g.ov.v g.tv.v ns is os ts)
    (hn : ns.length ≤ 1048576) (hi : is.length ≤ 1048576) (ho : os.length ≤ 1048576) (ht : ts.length ≤ 1048576) : RdG w g ns is os ts :=
     ⟨h.on.own.isL jeo (by rw [List.length_map]; omega), h.oi.own.isL jcr (by rw [List.length_map]; omega), h.oo.own.isL jcr (by rw [List.length_map]; omega), h.ot.own.isL jen (by rw [List.length_map]; omega), fun p hp => have k := h.on.has p hp; ⟨k.ins, k.av, k.has⟩, h.oi.has, h.oo.has, h.ot.has⟩
theorem jfC (h g : Gra) (ns ns' : List (Nod × Ni)) (is os is' os' : List (Val × List Int)) (ts ts' : List (Nam × List Int × List Int)) (w : World) (hh : RdG w h ns is os ts) (hg : RdG w g ns' is' os' ts') (e : jci h ns is os ts = jci g ns' is' os' ts') :
    Calls Tryz.prog 12 #[jdG h, jdG g] w fun e w' => e = .returned (.bool true) ∧ w.grownBy w' none := by
     obtain ⟨e1, e2, e3, e4, e5⟩ := NGra.mk.inj e
     have kv : ∀ a b : Val × List Int, jbe a = jbe b → jjf a = jjf b := fun a b k => by
      obtain ⟨k1, k2, k3⟩ := NVal.mk.inj k
      simp only [jjf, k1, k2, k3]
     have km : ∀ a b : Nam × List Int × List Int, jcI a = jcI b → jjp a = jjp b := fun a b k => by
      obtain ⟨k1, k2, k3, k4⟩ := NTen.mk.inj k
      simp only [jjp, k1, k2]
      rw [Prod.ext k3 k4]
     exact jf2 h g ((ns'.map jfe).map jjq) ((ns.map jfe).map jjq) is' os' is os ts' ts w hg.trim.inG hh.trim.inG e1 ⟨jhz hh.node hg.node e2, jfE kv e3, jfE kv e4, jfE km e5⟩
end Go.Proofs.YtbgbpfbjeleooaaGreat.Pd
namespace Go.Proofs.YtbgbpfbjeleooaaGreat.Pd
open Go.RowKit
open Wr (Fld)
theorem jjY (nv iv ov tv s1 s2 s3 : Sl) : SmallG ⟨⟨#[103]⟩, nv, iv, ov, tv⟩ (jcO s1) (jcP s2) (jcQ s3) [] := by
 refine ⟨Nat.le_of_ble_eq_true rfl, fun p hp => ?_, fun p hp => ?_, fun p hp => ?_, (fun p hp => by cases hp), Nat.le_of_ble_eq_true rfl, Nat.le_of_ble_eq_true rfl, Nat.le_of_ble_eq_true rfl, Nat.le_of_ble_eq_true rfl⟩
 ·simp only [jcO, List.mem_cons, List.not_mem_nil, or_false] at hp
  subst hp
  refine ⟨fun s hs => ?_, Nat.le_of_ble_eq_true rfl, Nat.le_of_ble_eq_true rfl, Nat.le_of_ble_eq_true rfl, (fun a ha => by cases ha), (fun a ha => by cases ha), Nat.le_of_ble_eq_true rfl, Nat.le_of_ble_eq_true rfl⟩
  simp only [List.mem_cons, List.not_mem_nil, or_false] at hs
  subst hs
  exact Nat.le_of_ble_eq_true rfl
 ·simp only [jcP, List.mem_cons, List.not_mem_nil, or_false] at hp
  subst hp
  exact ⟨Nat.le_of_ble_eq_true rfl, Nat.le_of_ble_eq_true rfl⟩
 ·simp only [jcQ, List.mem_cons, List.not_mem_nil, or_false] at hp
  subst hp
  exact ⟨Nat.le_of_ble_eq_true rfl, Nat.le_of_ble_eq_true rfl⟩
theorem jjb (nv iv ov tv s1 s2 s3 : Sl) : jf1 ⟨⟨#[103]⟩, nv, iv, ov, tv⟩ (jcO s1) (jcP s2) (jcQ s3) [] = .ok jdF := by
 unfold jf1
 rw [jh1, if_pos rfl]
 exact ji6
theorem jli (w : World) : RdG w ⟨⟨#[]⟩, jkO, jkO, jkO, jkO⟩ [] [] [] [] :=
 ⟨OwnsL.isL (te := 35) (base := 0) jeo (OwnsL.nil ..) (by simp), OwnsL.isL (te := 82) (base := 0) jcr (OwnsL.nil ..) (by simp), OwnsL.isL (te := 82) (base := 0) jcr (OwnsL.nil ..) (by simp), OwnsL.isL (te := 67) (base := 0) jen (OwnsL.nil ..) (by simp), (fun p hp => by cases hp), (fun p hp => by cases hp), (fun p hp => by cases hp), (fun p hp => by cases hp)⟩
theorem jjc (w : World) : Calls Tryz.prog 9 #[] w fun e w' => e = .returned (.bool true) ∧ w.grownBy w' none := by
 go_enter Tryz.func9, Tryz.ntmps9
 go_wp2_with fail
 refine (jgF w).mono ?_
 rintro e w1 ⟨⟨nm, nv, iv, ov, tv⟩, s1, s2, s3, rfl, hnm, hrd, hg1⟩
 simp only at hnm
 subst hnm
 have G1 := jac hg1
 have EN := jac (jh0 ⟨⟨#[103]⟩, nv, iv, ov, tv⟩ (jcO s1) (jcP s2) (jcQ s3) [] w1 hrd (fun _ => jjY nv iv ov tv s1 s2 s3))
 rw [jjb] at EN
 clear hrd hg1
 go_wp2_with fail
 refine EN.out.mono ?_
 rintro e w2 ⟨hg2, rfl⟩
 have G2 := jac (jaa G1.out hg2)
 clear hg2 EN G1
 have DA := jac (jdD jdF w2 (by decide))
 rw [jh2] at DA
 go_wp2_with fail
 refine DA.out.mono ?_
 rintro e w3 ⟨hg3, v, rfl, ⟨⟨an, ⟨a0, a1, a2⟩, ⟨a3, a4, a5⟩, ⟨a6, a7, a8⟩, ⟨a9, a10, a11⟩⟩, ans, ais, aos, ats, loa, rfl, ha, hloa, hqa⟩⟩
 unfold jdG
 simp only [Sl.v] at hqa ⊢
 have G3 := jac (jaa G2.out hg3)
 clear hg3 DA G2
 obtain ⟨q1, q2, q3, q4, q5⟩ := NGra.mk.inj ha
 have l2 := congrArg List.length q2
 have l3 := congrArg List.length q3
 have l4 := congrArg List.length q4
 have l5 := congrArg List.length q5
 simp only [List.length_map, List.length_cons, List.length_nil] at l2 l3 l4 l5
 have RDa := jac (hqa.rd (g := ⟨an, ⟨a0, a1, a2⟩, ⟨a3, a4, a5⟩, ⟨a6, a7, a8⟩, ⟨a9, a10, a11⟩⟩) (by omega) (by omega) (by omega) (by omega))
 have LNa : Hid (ans.length ≤ 1048576 ∧ ais.length ≤ 1048576 ∧ aos.length ≤ 1048576 ∧ ats.length ≤ 1048576) := by refine ⟨?_, ?_, ?_, ?_⟩ <;> omega
 have EQa : Hid (jci ⟨an, ⟨a0, a1, a2⟩, ⟨a3, a4, a5⟩, ⟨a6, a7, a8⟩, ⟨a9, a10, a11⟩⟩ ans ais aos ats = ji5) := by show _ = _; exact ha.symm
 clear q1 q2 q3 q4 q5 l2 l3 l4 l5 hqa ha hloa
 obtain ⟨wa, hwa⟩ : ∃ y9, y9 = w3.alloc (.cells #[.string an, .slice a0 a1 a2, .slice a3 a4 a5, .slice a6 a7 a8, .slice a9 a10 a11] 27) := ⟨_, rfl⟩
 have G3a : Hid (w.grownBy wa none) := by show w.grownBy wa none; rw [hwa]; exact jaa G3.out (jab _ _)
 have RDA : Hid (RdG wa ⟨an, ⟨a0, a1, a2⟩, ⟨a3, a4, a5⟩, ⟨a6, a7, a8⟩, ⟨a9, a10, a11⟩⟩ ans ais aos ats) := by show RdG _ _ _ _ _ _; rw [hwa]; exact RDa.out.more (jab _ _)
 have hba : wa.heap[w3.heap.size]? = some (.cells #[.string an, .slice a0 a1 a2, .slice a3 a4 a5, .slice a6 a7 a8, .slice a9 a10 a11] 27 (0, 0)) := by rw [hwa]; exact heap_alloc_new _ _
 have BA := jac (fun wx (hg : wa.grownBy wx none) => jag hba hg)
 have DB := jac (jdD ⟨#[58, 0]⟩ wa (by decide))
 rw [ji7] at DB
 clear G3 RDa hba
 go_wp2_with fail
 rw [← hwa]
 clear hwa
 refine DB.out.mono ?_
 rintro e w4 ⟨hg4, v, rfl, ⟨⟨bn, ⟨b0, b1, b2⟩, ⟨b3, b4, b5⟩, ⟨b6, b7, b8⟩, ⟨b9, b10, b11⟩⟩, bns, bis, bos, bts, lob, rfl, hb, hlob, hqb⟩⟩
 unfold jdG
 simp only [Sl.v] at hqb ⊢
 have G4 := jac (jaa G3a.out hg4)
 have GA := jac hg4
 clear hg4 DB G3a
 obtain ⟨q1, q2, q3, q4, q5⟩ := NGra.mk.inj hb
 have l2 := congrArg List.length q2
 have l3 := congrArg List.length q3
 have l4 := congrArg List.length q4
 have l5 := congrArg List.length q5
 simp only [List.length_map, List.length_nil] at l2 l3 l4 l5
 have RDb := jac (hqb.rd (g := ⟨bn, ⟨b0, b1, b2⟩, ⟨b3, b4, b5⟩, ⟨b6, b7, b8⟩, ⟨b9, b10, b11⟩⟩) (by omega) (by omega) (by omega) (by omega))
 have LNb : Hid (bns.length ≤ 1048576 ∧ bis.length ≤ 1048576 ∧ bos.length ≤ 1048576 ∧ bts.length ≤ 1048576) := by refine ⟨?_, ?_, ?_, ?_⟩ <;> omega
 have EQb : Hid (jci ⟨bn, ⟨b0, b1, b2⟩, ⟨b3, b4, b5⟩, ⟨b6, b7, b8⟩, ⟨b9, b10, b11⟩⟩ bns bis bos bts = ⟨⟨#[]⟩, [], [], [], []⟩) := by show _ = _; exact hb.symm
 clear q1 q2 q3 q4 q5 l2 l3 l4 l5 hqb hb hlob
 obtain ⟨wb, hwb⟩ : ∃ y9, y9 = w4.alloc (.cells #[.string bn, .slice b0 b1 b2, .slice b3 b4 b5, .slice b6 b7 b8, .slice b9 b10 b11] 27) := ⟨_, rfl⟩
 have G4b : Hid (w.grownBy wb none) := by show w.grownBy wb none; rw [hwb]; exact jaa G4.out (jab _ _)
 have GAb : Hid (wa.grownBy wb none) := by show wa.grownBy wb none; rw [hwb]; exact jaa GA.out (jab _ _)
 have RDB : Hid (RdG wb ⟨bn, ⟨b0, b1, b2⟩, ⟨b3, b4, b5⟩, ⟨b6, b7, b8⟩, ⟨b9, b10, b11⟩⟩ bns bis bos bts) := by show RdG _ _ _ _ _ _; rw [hwb]; exact RDb.out.more (jab _ _)
 have hbb : wb.heap[w4.heap.size]? = some (.cells #[.string bn, .slice b0 b1 b2, .slice b3 b4 b5, .slice b6 b7 b8, .slice b9 b10 b11] 27 (0, 0)) := by rw [hwb]; exact heap_alloc_new _ _
 have BB := jac (fun wx (hg : wb.grownBy wx none) => jag hbb hg)
 have DC := jac (jdD ⟨#[56, 1]⟩ wb (by decide))
 rw [ji8] at DC
 clear G4 GA RDb hbb
 go_wp2_with fail
 rw [← hwb]
 clear hwb
 refine DC.out.mono ?_
 rintro e w5 ⟨hg5, rfl⟩
 obtain ⟨wc, hwc⟩ : ∃ y9, y9 = w5.alloc (.cells #[.string ⟨#[]⟩, .slice none 0 0, .slice none 0 0, .slice none 0 0, .slice none 0 0] 27) := ⟨_, rfl⟩
 have Gbc : Hid (wb.grownBy wc none) := by show wb.grownBy wc none; rw [hwc]; exact jaa hg5 (jab _ _)
 have DD := jac (jdD ⟨#[]⟩ wc (by decide))
 rw [jh3] at DD
 clear hg5 DC
 go_wp2_with fail
 rw [← hwc]
 clear hwc
 refine DD.out.mono ?_
 rintro e w6 ⟨hg6, rfl⟩
 obtain ⟨wd, hwd⟩ : ∃ y9, y9 = w6.alloc (.cells #[.string ⟨#[]⟩, .slice none 0 0, .slice none 0 0, .slice none 0 0, .slice none 0 0] 27) := ⟨_, rfl⟩
 have Gbd : Hid (wb.grownBy wd none) := by show wb.grownBy wd none; rw [hwd]; exact jaa (jaa Gbc.out hg6) (jab _ _)
 have Gd6 : wb.grownBy w6 none := jaa Gbc.out hg6
 obtain ⟨⟨a0c, a1c, a2c, a3c, a4c⟩, -⟩ := jay (BA.out wd (jaa GAb.out Gbd.out))
 obtain ⟨⟨b0c, b1c, b2c, b3c, b4c⟩, -⟩ := jay (BB.out wd Gbd.out)
 clear hg6 DD Gbc Gd6
 rw [hwd] at a0c a1c a2c a3c a4c b0c b1c b2c b3c b4c
 go_wp2_with fail
 rw [← hwd]
 clear a0c a1c a2c a3c a4c b0c b1c b2c b3c b4c hwd
 have SBL := jac (fun wx (hg : wb.grownBy wx none) => jfC ⟨bn, ⟨b0, b1, b2⟩, ⟨b3, b4, b5⟩, ⟨b6, b7, b8⟩, ⟨b9, b10, b11⟩⟩ ⟨⟨#[]⟩, ⟨none, 0, 0⟩, ⟨none, 0, 0⟩, ⟨none, 0, 0⟩, ⟨none, 0, 0⟩⟩ bns [] bis bos [] [] bts [] wx (RDB.out.more hg) (jli wx) EQb.out)
 unfold jdG at SBL
 simp only at SBL
 have CX : Hid (∀ wx, wb.grownBy wx none → (wx.cell? ⟨w3.heap.size, 0, none⟩ = some (.string an) ∧ wx.cell? ⟨w3.heap.size, 1, none⟩ = some (.slice a0 a1 a2) ∧ wx.cell? ⟨w3.heap.size, 2, none⟩ = some (.slice a3 a4 a5) ∧ wx.cell? ⟨w3.heap.size, 3, none⟩ = some (.slice a6 a7 a8) ∧ wx.cell? ⟨w3.heap.size, 4, none⟩ = some (.slice a9 a10 a11)) ∧ (wx.cell? ⟨w4.heap.size, 0, none⟩ = some (.string bn) ∧ wx.cell? ⟨w4.heap.size, 1, none⟩ = some (.slice b0 b1 b2) ∧ wx.cell? ⟨w4.heap.size, 2, none⟩ = some (.slice b3 b4 b5) ∧ wx.cell? ⟨w4.heap.size, 3, none⟩ = some (.slice b6 b7 b8) ∧ wx.cell? ⟨w4.heap.size, 4, none⟩ = some (.slice b9 b10 b11))) := fun wx hg => ⟨(jay (BA.out wx (jaa GAb.out hg))).1, (jay (BB.out wx hg)).1⟩
 obtain ⟨⟨a0c, a1c, a2c, a3c, a4c⟩, b0c, b1c, b2c, b3c, b4c⟩ := CX.out wd Gbd.out
 go_region_held3 (fun w' => w'.cell? ⟨w3.heap.size, 0, none⟩ = some (.string an) ∧ w'.cell? ⟨w3.heap.size, 1, none⟩ = some (.slice a0 a1 a2) ∧ w'.cell? ⟨w3.heap.size, 2, none⟩ = some (.slice a3 a4 a5) ∧ w'.cell? ⟨w3.heap.size, 3, none⟩ = some (.slice a6 a7 a8) ∧ w'.cell? ⟨w3.heap.size, 4, none⟩ = some (.slice a9 a10 a11) ∧ w'.cell? ⟨w4.heap.size, 0, none⟩ = some (.string bn) ∧ w'.cell? ⟨w4.heap.size, 1, none⟩ = some (.slice b0 b1 b2) ∧ w'.cell? ⟨w4.heap.size, 2, none⟩ = some (.slice b3 b4 b5) ∧ w'.cell? ⟨w4.heap.size, 3, none⟩ = some (.slice b6 b7 b8) ∧ w'.cell? ⟨w4.heap.size, 4, none⟩ = some (.slice b9 b10 b11)) (go_keep) (first | (go_at_call 20; refine (jgF _).mono ?_; rintro e w7 ⟨⟨nm', nv', iv', ov', tv'⟩, t1, t2, t3, rfl, hnm', hrd', hg7⟩; have k7 : wd.grownBy w7 none := (by first | exact hg7 | exact jaa (jav (jae wd)) hg7 | exact jaa (jav (jav (jae wd))) hg7); have h7 := jaa Gbd.out k7; simp only at hnm'; subst hnm'; obtain ⟨⟨a0d, a1d, a2d, a3d, a4d⟩, b0d, b1d, b2d, b3d, b4d⟩ := CX.out w7 h7; have SA : Hid (Calls Tryz.prog 12 #[.agg #[.string an, .slice a0 a1 a2, .slice a3 a4 a5, .slice a6 a7 a8, .slice a9 a10 a11], jdG ⟨⟨#[103]⟩, nv', iv', ov', tv'⟩] w7 fun e w' => e = .returned (.bool true) ∧ w7.grownBy w' none) := jac (jfC ⟨an, ⟨a0, a1, a2⟩, ⟨a3, a4, a5⟩, ⟨a6, a7, a8⟩, ⟨a9, a10, a11⟩⟩ ⟨⟨#[103]⟩, nv', iv', ov', tv'⟩ ans (jcO t1) ais aos (jcP t2) (jcQ t3) ats [] w7 (RDA.out.more (jaa GAb.out h7)) hrd' EQa.out)) | (go_at_call 12; with_reducible refine SB.out.mono ?_; rintro e w9 ⟨rfl, hg9⟩; have h9 := jaa h8 hg9; obtain ⟨⟨a0f, a1f, a2f, a3f, a4f⟩, b0f, b1f, b2f, b3f, b4f⟩ := CX.out w9 h9) | (go_at_call 12; with_reducible refine SA.out.mono ?_; rintro e w8 ⟨rfl, hg8⟩; have h8 := jaa h7 hg8; obtain ⟨⟨a0e, a1e, a2e, a3e, a4e⟩, b0e, b1e, b2e, b3e, b4e⟩ := CX.out w8 h8; have SB := jac (SBL.out w8 h8)) | fail)
 go_wp2
 go_ret
 exact ⟨rfl, jaa G4b.out h9⟩
end Go.Proofs.YtbgbpfbjeleooaaGreat.Pd
