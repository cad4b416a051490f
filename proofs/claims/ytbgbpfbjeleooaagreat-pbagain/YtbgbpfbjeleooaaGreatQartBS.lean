/- A part. -/
import Derived.Test.YtbgbpfbjeleooaaGreatQartBQ
import Derived.Test.YtbgbpfbjeleooaaGreatQartAH
import Derived.Test.YtbgbpfbjeleooaaGreatQartBR
set_option maxHeartbeats 12800000
set_option maxRecDepth 100000
namespace Go.Proofs.YtbgbpfbjeleooaaGreat.Pd
open Go.RowKit
open Wr (Fld)
theorem litW {w : World} {B : Nat} (zs : List Int) (hb : w.heap[B]? = some (.cells (zs.map (Value.int .i64)).toArray 3 (0, 0))) (hl : zs.length ≤ 1024) (hz : ∀ z ∈ zs, -1024 ≤ z ∧ z ≤ 1024) : jax w (.slice (some ⟨B, 0, none⟩) zs.length zs.length) zs := by
 refine jen.ints (base := 0) ⟨⟨by simp, Or.inr ⟨B, zs.length, _, rfl, Nat.zero_le _, hb, Nat.le_refl _, by simp only [maxLen]; omega, by simp, ?_⟩⟩, by omega, fun z hz' => by have := hz z hz'; constructor <;> omega⟩
 rw [List.take_of_length_le (by simp)]
theorem seven (w : World) (z a b c d e f : Obj) : ∀ W, W = ((((((w.alloc z).alloc a).alloc b).alloc c).alloc d).alloc e).alloc f →
    W.heap[w.heap.size]? = some z ∧ W.heap[w.heap.size + 1]? = some a ∧ W.heap[w.heap.size + 1 + 1]? = some b ∧ W.heap[w.heap.size + 1 + 1 + 1]? = some c ∧ W.heap[w.heap.size + 1 + 1 + 1 + 1]? = some d ∧ W.heap[w.heap.size + 1 + 1 + 1 + 1 + 1]? = some e ∧ W.heap[w.heap.size + 1 + 1 + 1 + 1 + 1 + 1]? = some f ∧ w.grownBy W none := by
     intro W hW
     obtain ⟨h0, h1, h2, h3, h4, h5, hg⟩ := six (w.alloc z) a b c d e f W hW
     have s : (w.alloc z).heap.size = w.heap.size + 1 := by simp
     rw [s] at h0 h1 h2 h3 h4 h5
     exact ⟨(hg.block w.heap.size (by omega) (by simp)).trans (heap_alloc_new w z), h0, h1, h2, h3, h4, h5, jaa (jab _ _) hg⟩
theorem RdG.inG {w : World} {g : Gra} {ns : List (Nod × Ni)} {is os : List (Val × List Int)} {ts : List (Nam × List Int × List Int)} (h : RdG w g ns is os ts) : GraphIn0 w g (ns.map jkw) is os ts := by
 refine ⟨?_, h.ins, h.outs, h.inits, fun c hc => ?_, h.din, h.dout, h.dten⟩
 ·rw [List.map_map]
  exact h.nodes
 ·obtain ⟨p, hp, rfl⟩ := List.mem_map.1 hc
  exact h.node p hp
def jmU (w : World) (e : Ending) (w' : World) : Prop := ∃ (g : Gra) (s1 s2 s3 : Sl), e = .returned (jdb g) ∧ g.name = ⟨#[103]⟩ ∧ RdG w' g (jc3 s1) (jc4 s2) (jc5 s3) [] ∧ w.grownBy w' none
theorem jlh (w : World) (W : World) (hW : W = (((((((w.alloc (.cells #[.string ⟨#[103]⟩, .slice (some ⟨w.heap.size + 1 + 1 + 1 + 1 + 1 + 1, 0, none⟩) 1 1, .slice (some ⟨w.heap.size + 1 + 1, 0, none⟩) 1 1, .slice (some ⟨w.heap.size + 1 + 1 + 1 + 1, 0, none⟩) 1 1, .slice none 0 0] 27)).alloc (.cells #[.int .i64 2] 3)).alloc (.cells #[.string ⟨#[120]⟩, .int .i64 1, .slice (some ⟨w.heap.size + 1, 0, none⟩) 1 1] 82)).alloc (.cells #[.int .i64 2] 3)).alloc (.cells #[.string ⟨#[121]⟩, .int .i64 1, .slice (some ⟨w.heap.size + 1 + 1 + 1, 0, none⟩) 1 1] 82)).alloc (.cells #[.string ⟨#[120]⟩] 9)).alloc (.cells #[.string ⟨#[82, 101, 108, 117]⟩, .string ⟨#[]⟩, .slice (some ⟨w.heap.size + 1 + 1 + 1 + 1 + 1, 0, none⟩) 1 1, .string ⟨#[121]⟩, .slice none 0 0] 35))) :
    W.heap[w.heap.size]? = some (.cells #[.string ⟨#[103]⟩, .slice (some ⟨w.heap.size + 1 + 1 + 1 + 1 + 1 + 1, 0, none⟩) 1 1, .slice (some ⟨w.heap.size + 1 + 1, 0, none⟩) 1 1, .slice (some ⟨w.heap.size + 1 + 1 + 1 + 1, 0, none⟩) 1 1, .slice none 0 0] 27 (0, 0)) ∧ w.grownBy W none ∧ RdG W ⟨⟨#[103]⟩, ⟨some ⟨w.heap.size + 1 + 1 + 1 + 1 + 1 + 1, 0, none⟩, 1, 1⟩, ⟨some ⟨w.heap.size + 1 + 1, 0, none⟩, 1, 1⟩, ⟨some ⟨w.heap.size + 1 + 1 + 1 + 1, 0, none⟩, 1, 1⟩, jmj⟩ (jc3 ⟨some ⟨w.heap.size + 1 + 1 + 1 + 1 + 1, 0, none⟩, 1, 1⟩) (jc4 ⟨some ⟨w.heap.size + 1, 0, none⟩, 1, 1⟩) (jc5 ⟨some ⟨w.heap.size + 1 + 1 + 1, 0, none⟩, 1, 1⟩) [] := by
     obtain ⟨h0, h1, h2, h3, h4, h5, h6, hg⟩ := seven w _ _ _ _ _ _ _ W hW
     have nilA : jhq W jmj.v [] := OwnsL.isL (te := 78) (base := 0) jfW (OwnsL.nil ..) (by simp)
     refine ⟨h0, hg, ⟨?_, ?_, ?_, ?_, fun p hp => ?_, fun p hp => ?_, fun p hp => ?_, (fun p hp => by cases hp)⟩⟩
     ·exact jfd (te := 35) (bytes := 96) (xs := (jc3 ⟨some ⟨w.heap.size + 1 + 1 + 1 + 1 + 1, 0, none⟩, 1, 1⟩).map (·.1)) jeT h6 rfl rfl (Nat.le_of_ble_eq_true rfl) (Nat.le_of_ble_eq_true rfl)
     ·exact jfd (te := 82) (bytes := 48) (xs := (jc4 ⟨some ⟨w.heap.size + 1, 0, none⟩, 1, 1⟩).map (·.1)) jcF h2 rfl rfl (Nat.le_of_ble_eq_true rfl) (Nat.le_of_ble_eq_true rfl)
     ·exact jfd (te := 82) (bytes := 48) (xs := (jc5 ⟨some ⟨w.heap.size + 1 + 1 + 1, 0, none⟩, 1, 1⟩).map (·.1)) jcF h4 rfl rfl (Nat.le_of_ble_eq_true rfl) (Nat.le_of_ble_eq_true rfl)
     ·exact OwnsL.isL (te := 67) (base := 0) jeS (OwnsL.nil ..) (by simp)
     ·simp only [jc3, List.mem_cons, List.not_mem_nil, or_false] at hp
      subst hp
      exact ⟨jfd (te := 9) (bytes := 16) (xs := [⟨#[120]⟩]) jjb h5 rfl rfl (Nat.le_of_ble_eq_true rfl) (Nat.le_of_ble_eq_true rfl), nilA, (fun j a h => by simp at h)⟩
     ·simp only [jc4, List.mem_cons, List.not_mem_nil, or_false] at hp
      subst hp
      exact litW [2] h1 (by simp) (by simp)
     ·simp only [jc5, List.mem_cons, List.not_mem_nil, or_false] at hp
      subst hp
      exact litW [2] h3 (by simp) (by simp)
theorem jhg (w : World) : Calls Tryz.prog 20 #[] w fun e w' => jmU w e w' := by
 go_enter Tryz.func20, Tryz.ntmps20
 go_wp2_with fail
 obtain ⟨hb, hg, hok⟩ := jlh w _ rfl
 refine bodyPost_ret (jfs rfl _ _ w.heap.size rfl hb) rfl ?_
 exact ⟨_, _, _, _, rfl, rfl, hok, hg⟩
end Go.Proofs.YtbgbpfbjeleooaaGreat.Pd
namespace Go.Proofs.YtbgbpfbjeleooaaGreat.Pd
open Go.RowKit
open Wr (Fld)
def jdv (p : Nod × Ni) : Nod × Ni := (p.1, ⟨p.2.ins, p.2.xs, p.2.cs.take p.2.xs.length⟩)
theorem jgI {w : World} {n : Nod} {q : Ni} (h : NodeIn0 w n q.ins q.xs q.cs) : q.xs.length ≤ q.cs.length := by
 refine Nat.le_of_not_lt fun hlt => ?_
 obtain ⟨c, e, -⟩ := h.has q.cs.length q.xs[q.cs.length] (List.getElem?_eq_getElem hlt)
 rw [List.getElem?_eq_none (Nat.le_refl _)] at e
 cases e
theorem jj5 {w : World} {n : Nod} {q : Ni} (h : NodeIn0 w n q.ins q.xs q.cs) : NodeIn0 w n (jdv (n, q)).2.ins (jdv (n, q)).2.xs (jdv (n, q)).2.cs := by
 refine ⟨h.ins, h.av, fun j a e => ?_⟩
 obtain ⟨c, e1, e2⟩ := h.has j a e
 refine ⟨c, ?_, e2⟩
 have hj : j < q.xs.length := (List.getElem?_eq_some_iff.1 e).1
 show (q.cs.take q.xs.length)[j]? = some c
 rw [List.getElem?_take, if_pos hj]
 exact e1
theorem jir : ∀ (xs : List Atr) (cs : List Cont) (ys : List Atr) (ds : List Cont), xs.length ≤ cs.length → ys.length ≤ ds.length → List.zipWith jbE xs cs = List.zipWith jbE ys ds → xs.map jda = ys.map jda ∧ cs.take xs.length = ds.take ys.length
 | [], cs, [], ds, _, _, _ => ⟨rfl, by simp⟩
 | [], cs, y :: ys, [], _, h, _ => by simp at h
 | [], cs, y :: ys, d :: ds, _, _, h => by simp at h
 | x :: xs, [], _, _, h, _, _ => by simp at h
 | x :: xs, c :: cs, [], ds, _, _, h => by simp at h
 | x :: xs, c :: cs, y :: ys, [], _, h, _ => by simp at h
 | x :: xs, c :: cs, y :: ys, d :: ds, h1, h2, h => by
  rw [List.zipWith_cons_cons, List.zipWith_cons_cons, List.cons.injEq] at h
  obtain ⟨i1, i2⟩ := jir xs cs ys ds (by simpa using h1) (by simpa using h2) h.2
  obtain ⟨e1, e2, e3, e4, e5, e6, e7, e8, e9⟩ := NAtr.mk.inj h.1
  obtain ⟨d1, d2, d3⟩ := d
  obtain ⟨c1, c2, c3⟩ := c
  simp only at e7 e8 e9
  subst e7 e8 e9
  refine ⟨?_, ?_⟩
  ·rw [List.map_cons, List.map_cons, i1]
   simp only [jda, e1, e2, e3, e4, e5, e6]
  ·rw [List.length_cons, List.length_cons, List.take_succ_cons, List.take_succ_cons, i2]
theorem jmb {w w' : World} {p q : Nod × Ni} (hp : NodeIn0 w p.1 p.2.ins p.2.xs p.2.cs) (hq : NodeIn0 w' q.1 q.2.ins q.2.xs q.2.cs) (h : jc7 p = jc7 q) : jki (jkw (jdv p)) = jki (jkw (jdv q)) := by
 obtain ⟨e1, e2, e3, e4, e5⟩ := NNod.mk.inj h
 obtain ⟨k1, k2⟩ := jir _ _ _ _ (jgI hp) (jgI hq) e5
 simp only [jki, jkw, jdv, e1, e2, e3, e4, k1, k2]
theorem jis {w w' : World} : ∀ {ps qs : List (Nod × Ni)}, (∀ p ∈ ps, NodeIn0 w p.1 p.2.ins p.2.xs p.2.cs) → (∀ p ∈ qs, NodeIn0 w' p.1 p.2.ins p.2.xs p.2.cs) → ps.map jc7 = qs.map jc7 → ((ps.map jdv).map jkw).map jki = ((qs.map jdv).map jkw).map jki
 | [], [], _, _, _ => rfl
 | [], q :: qs, _, _, h => by simp at h
 | p :: ps, [], _, _, h => by simp at h
 | p :: ps, q :: qs, hp, hq, h => by
  rw [List.map_cons, List.map_cons, List.cons.injEq] at h
  simp only [List.map_cons]
  rw [jmb (hp p (List.mem_cons_self ..)) (hq q (List.mem_cons_self ..)) h.1]
  exact congrArg _ (jis (fun x hx => hp x (List.mem_cons_of_mem _ hx)) (fun x hx => hq x (List.mem_cons_of_mem _ hx)) h.2)
theorem RdG.trim {w : World} {g : Gra} {ns : List (Nod × Ni)} {is os : List (Val × List Int)} {ts : List (Nam × List Int × List Int)} (h : RdG w g ns is os ts) : RdG w g (ns.map jdv) is os ts := by
 refine ⟨?_, h.ins, h.outs, h.inits, fun p hp => ?_, h.din, h.dout, h.dten⟩
 ·rw [List.map_map]
  exact h.nodes
 ·obtain ⟨q, hq, rfl⟩ := List.mem_map.1 hp
  exact jj5 (h.node q hq)
theorem Quad.rd {w : World} {base : Nat} {g : Gra} {ns : List (Nod × Ni)} {is os : List (Val × List Int)} {ts : List (Nam × List Int × List Int)} (h : Quad w base g.nv.v g.iv.v g.ov.v g.tv.v ns is os ts)
    (hn : ns.length ≤ 1048576) (hi : is.length ≤ 1048576) (ho : os.length ≤ 1048576) (ht : ts.length ≤ 1048576) : RdG w g ns is os ts :=
     ⟨h.on.own.isL jeT (by rw [List.length_map]; omega), h.oi.own.isL jcF (by rw [List.length_map]; omega), h.oo.own.isL jcF (by rw [List.length_map]; omega), h.ot.own.isL jeS (by rw [List.length_map]; omega), fun p hp => have k := h.on.has p hp; ⟨k.ins, k.av, k.has⟩, h.oi.has, h.oo.has, h.ot.has⟩
theorem jfo (h g : Gra) (ns ns' : List (Nod × Ni)) (is os is' os' : List (Val × List Int)) (ts ts' : List (Nam × List Int × List Int)) (w : World) (hh : RdG w h ns is os ts) (hg : RdG w g ns' is' os' ts') (e : jb0 h ns is os ts = jb0 g ns' is' os' ts') :
    Calls Tryz.prog 12 #[jdb h, jdb g] w fun e w' => e = .returned (.bool true) ∧ w.grownBy w' none := by
     obtain ⟨e1, e2, e3, e4, e5⟩ := NGra.mk.inj e
     have kv : ∀ a b : Val × List Int, jbh a = jbh b → jkh a = jkh b := fun a b k => by
      obtain ⟨k1, k2, k3⟩ := NVal.mk.inj k
      simp only [jkh, k1, k2, k3]
     have km : ∀ a b : Nam × List Int × List Int, jcZ a = jcZ b → jkv a = jkv b := fun a b k => by
      obtain ⟨k1, k2, k3, k4⟩ := NTen.mk.inj k
      simp only [jkv, k1, k2]
      rw [Prod.ext k3 k4]
     exact jgH h g ((ns'.map jdv).map jkw) ((ns.map jdv).map jkw) is' os' is os ts' ts w hg.trim.inG hh.trim.inG e1 ⟨jis hh.node hg.node e2, jgk kv e3, jgk kv e4, jgk km e5⟩
end Go.Proofs.YtbgbpfbjeleooaaGreat.Pd
namespace Go.Proofs.YtbgbpfbjeleooaaGreat.Pd
open Go.RowKit
open Wr (Fld)
theorem jj6 {w : World} {s : Sl} {zs : List Int} (h : jax w s.v zs) : s.n = zs.length := by
 obtain ⟨a, c, e, -⟩ := h
 exact (Value.slice.inj e).2.1
theorem jli (x y : ByteArray) : jaL [x, y] = (jaL [x] || jaL [y]) := by simp [jaL]
theorem jmm (x y z : ByteArray) : jaL [x, y, z] = (jaL [x] || (jaL [y] || jaL [z])) := by simp [jaL]
theorem jdi {xs : List ByteArray} (h : jaL xs = false) : ∀ s ∈ xs, s.size ≤ 100 := by
 intro s hs
 have h1 := List.any_eq_false.1 h s hs
 simpa using h1
theorem jmV {w : World} {a : Atr} {c : Cont} (hs : Has w a c) (h : TA (jbE a c)) : jb1 a c = true := by
 obtain ⟨k, l, few, flt, ten, -, -, -⟩ := h
 have nd := jj6 hs.d
 have nt := jj6 hs.t
 have ni := jj6 hs.i
 obtain ⟨nm, kd, f, i, s, ty, dv, tv, iv⟩ := a
 obtain ⟨d, t, l7⟩ := c
 unfold jck jbE at k
 simp only [jbE] at *
 rw [jli, Bool.or_eq_false_iff] at l
 unfold jb1 jdQ jfJ jdP
 simp only at *
 split at k
 ·rename_i e
  simp only [Except.ok.injEq, NAtr.mk.injEq] at k
  obtain ⟨-, -, -, k4, k5, k6, k7, k8, k9⟩ := k
  subst k4 k5 k6 k7 k8 k9
  rw [if_pos e, if_pos e, flt e, l.1]
  simp only [List.length_nil] at nd nt ni
  simp [nd, nt, ni]
  rfl
 split at k
 ·rename_i e1 e
  simp only [Except.ok.injEq, NAtr.mk.injEq] at k
  obtain ⟨-, -, k3, -, k5, k6, k7, k8, k9⟩ := k
  subst k3 k5 k6 k7 k8 k9
  rw [if_neg e1, if_neg e1, if_pos e, if_pos e, l.1]
  simp only [List.length_nil] at nd nt ni
  simp [nd, nt, ni]
  rfl
 split at k
 ·rename_i e1 e2 e
  simp only [Except.ok.injEq, NAtr.mk.injEq] at k
  obtain ⟨-, -, k3, k4, -, k6, k7, k8, k9⟩ := k
  subst k3 k4 k6 k7 k8 k9
  rw [if_neg e1, if_neg e1, if_neg e2, if_neg e2, if_pos e, if_pos e, l.1, l.2]
  simp only [List.length_nil] at nd nt ni
  simp [nd, nt, ni]
  rfl
 split at k
 ·rename_i e1 e2 e3 e
  simp only [Except.ok.injEq, NAtr.mk.injEq] at k
  obtain ⟨-, -, k3, k4, k5, -, -, -, k9⟩ := k
  subst k3 k4 k5 k9
  rw [if_neg e1, if_neg e1, if_neg e2, if_neg e2, if_neg e3, if_neg e3, if_pos e, if_pos e, l.1, ten e]
  simp only [List.length_nil] at ni
  simp [ni]
  rfl
 split at k
 ·rename_i e1 e2 e3 e4 e
  simp only [Except.ok.injEq, NAtr.mk.injEq] at k
  obtain ⟨-, -, k3, k4, k5, k6, k7, k8, -⟩ := k
  subst k3 k4 k5 k6 k7 k8
  rw [if_neg e1, if_neg e1, if_neg e2, if_neg e2, if_neg e3, if_neg e3, if_neg e4, if_neg e4, if_pos e, l.1, ni, decide_eq_true few]
  simp only [List.length_nil] at nd nt
  simp [nd, nt]
  rfl
 ·cases k
theorem jmc {xs : List Atr} {cs : List Cont} {p : Atr × Cont} (h : p ∈ xs.zip cs) : jbE p.1 p.2 ∈ List.zipWith jbE xs cs := by
 have e : List.zipWith jbE xs cs = (xs.zip cs).map fun p => jbE p.1 p.2 := by unfold List.zip; rw [List.map_zipWith]
 rw [e]
 exact List.mem_map_of_mem (f := fun p : Atr × Cont => jbE p.1 p.2) h
theorem jmd {w : World} {n : Nod} {q : Ni} (h : NodeIn0 w n q.ins q.xs q.cs) {p : Atr × Cont} (hp : p ∈ q.xs.zip q.cs) : Has w p.1 p.2 := by
 obtain ⟨k, hk, e⟩ := List.getElem_of_mem hp
 rw [List.getElem_zip] at e
 subst e
 rw [List.length_zip] at hk
 obtain ⟨c, h1, h2⟩ := h.has k q.xs[k] (List.getElem?_eq_getElem (by omega))
 rw [List.getElem?_eq_getElem (by omega)] at h1
 cases h1
 exact h2
theorem jmW {w : World} {n : Nod} {q : Ni} (hs : NodeIn0 w n q.ins q.xs q.cs) (h : TN (jdI n q)) : jhO n q = true := by
 obtain ⟨h1, h2, h3, h4, h5⟩ := h
 have lc := jgI hs
 unfold jdI at h1 h2 h3 h4 h5
 simp only at h1 h2 h3 h4 h5
 rw [List.length_zipWith] at h4
 unfold jhO
 rw [decide_eq_true h3, decide_eq_true (by omega), h1, h2]
 refine List.all_eq_true.2 fun p hp => ?_
 exact jmV (jmd hs hp) (h5 _ (jmc hp))
theorem jmX {w : World} {g : Gra} {ns : List (Nod × Ni)} {is os : List (Val × List Int)} {ts : List (Nam × List Int × List Int)} (hr : RdG w g ns is os ts) (h : TG (jb0 g ns is os ts)) : jhd g ns is os ts = true := by
 obtain ⟨h1, h2, h3, h4, h5, h6⟩ := h
 unfold jb0 at h1 h2 h3 h4 h5 h6
 simp only [List.length_map] at h1 h2 h3 h4 h5 h6
 unfold jhd
 rw [h1, h2]
 have e3 : ns.all je7 = true := List.all_eq_true.2 fun p hp => jmW (hr.node p hp) (h3 _ (List.mem_map_of_mem hp))
 have e4 : ts.all jdR = true := List.all_eq_true.2 fun p hp => by
  have k := h4 _ (List.mem_map_of_mem hp)
  unfold jdR
  rw [show jaL [p.1.name] = false from k.long, decide_eq_true (show pbE p.1.ty p.2.1 p.2.2 = 0 from k.ok)]
  rfl
 have ev : ∀ vs : List (Val × List Int), (∀ V ∈ vs.map jbh, TV V) → jbw vs = true := fun vs hv => List.all_eq_true.2 fun p hp => by
  have k := hv _ (List.mem_map_of_mem hp)
  unfold jfK
  rw [show jaL [p.1.name] = false from k.long, show chk p.1.ty 0 = true from k.ty, decide_eq_true (show jcW p.2 = 0 from k.ok)]
  rfl
 rw [e3, e4, ev is h5, ev os h6]
 rfl
theorem jmY {A : NAtr} (h : TA A) : A.dims.length ≤ 10000000 ∧ A.data.length ≤ 10000000 ∧ A.ints.length ≤ 10000000 := by
 have h1 := h.few
 by_cases e : A.kind = 4
 ·obtain ⟨-, h2, h3, -⟩ := jfL (h.ten e)
  have F := jeQ h2
  have := F.few
  have := F.le
  omega
 ·obtain ⟨-, h2, -⟩ := jgb h.kind
  obtain ⟨-, e2, e3⟩ := h2 e
  rw [e2, e3]
  simp only [List.length_nil]
  omega
theorem jme {w : World} {n : Nod} {q : Ni} (hs : NodeIn0 w n q.ins q.xs q.cs) (h : TN (jdI n q)) : SmallN n (jdv (n, q)).2 := by
 obtain ⟨h1, h2, h3, h4, h5⟩ := h
 have lc := jgI hs
 unfold jdI at h1 h2 h3 h4 h5
 simp only at h1 h2 h3 h4 h5
 rw [List.length_zipWith] at h4
 have l1 := jdi h1
 have l2 := jdi h2
 have at1 : ∀ k (hk : k < q.xs.length), TA (jbE q.xs[k] (q.cs[k]'(by omega))) := fun k hk => by
  refine h5 _ ?_
  have e := List.getElem_zipWith (f := jbE) (l := q.xs) (l' := q.cs) (i := k) (h := by rw [List.length_zipWith]; omega)
  rw [← e]
  exact List.getElem_mem _
 refine ⟨fun s hs => by have := l1 s hs; omega, ?_, ?_, ?_, fun a ha => ?_, fun c hc => ?_, by show q.ins.length ≤ _; omega, by show q.xs.length ≤ _; omega⟩
 ·have := l2 n.out (by simp); omega
 ·have := l2 n.name (by simp); omega
 ·have := l2 n.op (by simp); omega
 ·obtain ⟨k, hk, rfl⟩ := List.getElem_of_mem ha
  have l3 := jdi (at1 k hk).long
  have k1 : q.xs[k].name.size ≤ 100 := l3 _ (by simp [jbE])
  have k2 : q.xs[k].s.size ≤ 100 := l3 _ (by simp [jbE])
  exact ⟨Nat.le_trans k1 (by decide), Nat.le_trans k2 (by decide)⟩
 ·obtain ⟨k, hk, rfl⟩ := List.getElem_of_mem (show c ∈ q.cs.take q.xs.length from hc)
  rw [List.length_take] at hk
  rw [List.getElem_take]
  exact jmY (at1 k (by omega))
theorem jmf {w : World} {g : Gra} {ns : List (Nod × Ni)} {is os : List (Val × List Int)} {ts : List (Nam × List Int × List Int)} (hr : RdG w g ns is os ts) (h : TG (jb0 g ns is os ts)) : SmallG g (ns.map jdv) is os ts := by
 obtain ⟨h1, h2, h3, h4, h5, h6⟩ := h
 unfold jb0 at h1 h2 h3 h4 h5 h6
 simp only [List.length_map] at h1 h2 h3 h4 h5 h6
 unfold jeG at h2
 simp only [Bool.or_eq_false_iff, decide_eq_false_iff_not] at h2
 have hv : ∀ vs : List (Val × List Int), (∀ V ∈ vs.map jbh, TV V) → ∀ p ∈ vs, p.1.name.size ≤ 1000000000 ∧ p.2.length ≤ 10000000 := fun vs hv p hp => by
  have k := hv _ (List.mem_map_of_mem hp)
  have k1 : p.1.name.size ≤ 100 := jdi k.long _ (by simp [jbh])
  have k2 : p.2.length ≤ 6 := (jeQ k.ok).few
  omega
 refine ⟨?_, fun p hp => ?_, hv is h5, hv os h6, fun p hp => ?_, by rw [List.length_map]; omega, by omega, by omega, by omega⟩
 ·have := jdi h1 g.name (by simp); omega
 ·obtain ⟨q, hq, rfl⟩ := List.mem_map.1 hp
  exact jme (hr.node q hq) (h3 _ (List.mem_map_of_mem hq))
 ·have k := h4 _ (List.mem_map_of_mem hp)
  obtain ⟨-, k2, k3, -⟩ := jfL k.ok
  have F := jeQ k2
  have f1 : p.2.1.length ≤ 6 := F.few
  have f2 : (p.2.2.length : Int) = jdm p.2.1 := k3
  have f3 : jdm p.2.1 ≤ 65536 := F.le
  have k1 : p.1.name.size ≤ 100 := jdi k.long _ (by simp [jcZ])
  omega
theorem jit {α β γ : Type} (f : α → β → γ) : ∀ (xs : List α) (cs : List β), List.zipWith f xs (cs.take xs.length) = List.zipWith f xs cs
 | [], cs => by simp
 | x :: xs, [] => by simp
 | x :: xs, c :: cs => by simp [jit f xs cs]
theorem jj7 (p : Nod × Ni) : jc7 (jdv p) = jc7 p := by
 unfold jc7 jdv jdI
 simp only
 rw [jit]
theorem jhh (g : Gra) (ns : List (Nod × Ni)) (is os : List (Val × List Int)) (ts : List (Nam × List Int × List Int)) : jb0 g (ns.map jdv) is os ts = jb0 g ns is os ts := by
 unfold jb0
 rw [List.map_map]
 congr 1
 exact List.map_congr_left fun p _ => jj7 p
theorem jlj {w : World} {g : Gra} {ns : List (Nod × Ni)} {is os : List (Val × List Int)} {ts : List (Nam × List Int × List Int)} (hr : RdG w g ns is os ts) (h : TG (jb0 g ns is os ts)) :
    Calls Tryz.prog 14 #[jdb g] w (EncQ w (jaH (jb0 g ns is os ts))) := by
     have ht : TG (jb0 g (ns.map jdv) is os ts) := by rw [jhh]; exact h
     have k := jf8 g (ns.map jdv) is os ts w hr.trim (fun _ => jmf hr h)
     have e : je1 g (ns.map jdv) is os ts = jaH (jb0 g ns is os ts) := by
      unfold je1
      rw [jmX hr.trim ht, if_pos rfl, jhh]
     rw [e] at k
     exact k
end Go.Proofs.YtbgbpfbjeleooaaGreat.Pd
namespace Go.Proofs.YtbgbpfbjeleooaaGreat.Pd
open Go.RowKit
open Wr (Fld)
def NZ {α : Type} (r : R α) : Prop := ∀ c, r = .error c → c ≠ 0
theorem NZ.bind {α β : Type} {r : R α} {f : α → R β} (h : NZ r) (k : ∀ a, NZ (f a)) : NZ (r.bind f) := by
 intro c e
 cases r with
 | ok a => exact k a c e
 | error d =>
  cases e
  exact h c rfl
theorem ja6 {α : Type} (a : α) : NZ (.ok a : R α) := fun c e => by cases e
theorem jdj {b : Bool} {e : Int} (h : e ≠ 0) : NZ (jai b e) := fun c k => by
 unfold jai at k
 split at k
 ·cases k; exact h
 ·cases k
theorem jj8 (e : Int) : NZ (jdy e) := fun c k => by
 unfold jdy at k
 split at k
 ·cases k
 ·rename_i h; cases k; exact h
theorem jb6 (s : ByteArray) : NZ (ja1 s) := fun c k => by
 unfold ja1 at k
 split at k
 ·cases k; decide
 split at k
 ·cases k; decide
 ·cases k
theorem jcS {σ : Type} {f : σ → Fld → R σ} (h : ∀ a x, NZ (f a x)) : ∀ (l : List Fld) (a : σ), NZ (jaA f a l)
 | [], a => ja6 a
 | x :: l, a => (h a x).bind fun b => jcS h l b
theorem jbr (x : Fld) : NZ (jbH x) := (jdj (by decide)).bind fun _ => ja6 _
theorem jdk (x : Fld) : NZ (jbx x) := (jdj (by decide)).bind fun _ => ja6 _
theorem jiu (x : Fld) : NZ (jcm x) := (jdj (by decide)).bind fun _ => ja6 _
theorem jj9 (s : ByteArray) : NZ (jcK s) := fun c k => by
 unfold jcK at k
 split at k
 ·cases k; decide
 ·cases k
theorem jd8 (l : List Int) (x : Fld) : NZ (jaX l x) := by
 unfold jaX
 split
 ·exact (jdk x).bind fun _ => ja6 _
 ·exact (jj9 _).bind fun _ => ja6 _
theorem jka (l : List Int) (x : Fld) : NZ (jbA l x) := by
 unfold jbA
 split
 ·exact (jiu x).bind fun _ => ja6 _
 ·exact (jdj (by decide)).bind fun _ => ja6 _
theorem jlG (s : ByteArray) : NZ (jau s) := (jb6 s).bind fun l => (jcS (fun a x => by
 unfold jaN
 split
 ·exact (jd8 _ _).bind fun _ => ja6 _
 split
 ·exact (jdk _).bind fun _ => ja6 _
 split
 ·exact (jka _ _).bind fun _ => ja6 _
 split
 ·exact (jd8 _ _).bind fun _ => ja6 _
 split
 ·exact (jd8 _ _).bind fun _ => ja6 _
 split
 ·exact (jbr _).bind fun _ => ja6 _
 split
 ·exact (jbr _).bind fun _ => ja6 _
 ·exact ja6 _) l _).bind fun t => (jj8 _).bind fun _ => (jdj (by decide)).bind fun _ => ja6 _
theorem jmZ (s : ByteArray) : NZ (jbf s) := (jb6 s).bind fun l => (jcS (fun a x => by
 unfold jbK
 split
 ·exact (jdk _).bind fun _ => ja6 _
 split
 ·exact (jdj (by decide)).bind fun _ => ja6 _
 ·exact ja6 _) l _).bind fun t => (jdj (by decide)).bind fun _ => ja6 _
theorem jlk (s : ByteArray) : NZ (ja4 s) := (jb6 s).bind fun l => (jcS (fun a x => by
 unfold jbu
 split
 ·exact (jbr _).bind fun _ => (jmZ _).bind fun _ => ja6 _
 ·exact ja6 _) l _).bind fun t => ja6 _
theorem nz_tt (s : ByteArray) : NZ (jao s) := (jb6 s).bind fun l => (jcS (fun a x => by
 unfold jcn
 split
 ·exact (jdk _).bind fun _ => ja6 _
 split
 ·exact (jbr _).bind fun _ => ja6 _
 ·exact ja6 _) l _).bind fun t => (jdj (by decide)).bind fun _ => (jlk _).bind fun _ => (jdj (by decide)).bind fun _ => (jj8 _).bind fun _ => ja6 _
theorem nz_ty (s : ByteArray) : NZ (ja5 s) := (jb6 s).bind fun l => (jcS (fun a x => by
 unfold jdF
 split
 ·exact (jbr _).bind fun _ => ja6 _
 ·exact ja6 _) l _).bind fun t => (jdj (by decide)).bind fun _ => (nz_tt _).bind fun _ => ja6 _
theorem jlH (s : ByteArray) : NZ (jaC s) := (jb6 s).bind fun l => (jcS (fun a x => by
 unfold jbU
 split
 ·exact (jbr _).bind fun _ => ja6 _
 split
 ·exact (jbr _).bind fun _ => ja6 _
 ·exact ja6 _) l _).bind fun t => (jdj (by decide)).bind fun _ => (nz_ty _).bind fun _ => (jdj (by decide)).bind fun _ => ja6 _
theorem jmg (A : NAtr) : NZ (jck A) := fun c k => by
 unfold jck at k
 split at k
 ·cases k
 split at k
 ·cases k
 split at k
 ·cases k
 split at k
 ·cases k
 split at k
 ·cases k
 ·cases k
  decide
theorem jm0 (s : ByteArray) : NZ (jar s) := (jb6 s).bind fun l => (jcS (fun a x => by
 unfold jaO
 split
 ·exact (jbr _).bind fun _ => ja6 _
 split
 ·exact (jiu _).bind fun _ => ja6 _
 split
 ·exact (jdk _).bind fun _ => ja6 _
 split
 ·exact (jbr _).bind fun _ => ja6 _
 split
 ·exact (jbr _).bind fun _ => ja6 _
 split
 ·exact (jd8 _ _).bind fun _ => ja6 _
 split
 ·exact (jdk _).bind fun _ => ja6 _
 ·exact ja6 _) l _).bind fun t => by
 have ht : NZ (jgZ t.ts) := by
  unfold jgZ
  split
  ·exact ja6 _
  ·exact jlG _
 exact ht.bind fun _ => (jmg _).bind fun _ => (jdj (by decide)).bind fun _ => (jdj (by decide)).bind fun _ => ja6 _
theorem jm1 (s : ByteArray) : NZ (jaw s) := (jb6 s).bind fun l => (jcS (fun a x => by
 unfold jaM
 split
 ·exact (jbr _).bind fun _ => ja6 _
 split
 ·exact (jbr _).bind fun _ => ja6 _
 split
 ·exact (jbr _).bind fun _ => ja6 _
 split
 ·exact (jbr _).bind fun _ => ja6 _
 split
 ·exact (jbr _).bind fun _ => (jm0 _).bind fun _ => ja6 _
 split
 ·exact (jbr _).bind fun _ => ja6 _
 ·exact ja6 _) l _).bind fun t => (jdj (by decide)).bind fun _ => (jdj (by decide)).bind fun _ => (jdj (by decide)).bind fun _ => (jdj (by decide)).bind fun _ => ja6 _
theorem jm2 (s : ByteArray) : NZ (jaG s) := (jb6 s).bind fun l => (jcS (fun a x => by
 unfold jat
 split
 ·exact (jbr _).bind fun _ => (jm1 _).bind fun _ => ja6 _
 split
 ·exact (jbr _).bind fun _ => ja6 _
 split
 ·exact (jbr _).bind fun _ => (jlG _).bind fun _ => ja6 _
 split
 ·exact (jbr _).bind fun _ => (jlH _).bind fun _ => ja6 _
 split
 ·exact (jbr _).bind fun _ => (jlH _).bind fun _ => ja6 _
 ·exact ja6 _) l _).bind fun t => (jdj (by decide)).bind fun _ => ja6 _
theorem jm3 (s : ByteArray) : NZ (jaK s) := (jb6 s).bind fun l => (jcS (fun a x => by
 unfold jcO
 split
 ·exact (jbr _).bind fun _ => ja6 _
 ·exact ja6 _) l _).bind fun t => (jdj (by decide)).bind fun _ => jm2 _
theorem jmh {G : NGra} (h : TG G) {c : Int} (e : jaH G = .error c) : c = 6 := by
 have k := jim h
 rw [e] at k
 exact k
theorem jll {G : NGra} (h : TG G) {s : ByteArray} (e : jaH G = .ok s) : jaK s = .ok G := by
 have k := jim h
 rw [e] at k
 exact k
end Go.Proofs.YtbgbpfbjeleooaaGreat.Pd
namespace Go.Proofs.YtbgbpfbjeleooaaGreat.Pd
open Go.RowKit
open Wr (Fld)
theorem jlm (nv iv ov tv s1 s2 s3 : Sl) : SmallG ⟨⟨#[103]⟩, nv, iv, ov, tv⟩ (jc3 s1) (jc4 s2) (jc5 s3) [] := by
 refine ⟨Nat.le_of_ble_eq_true rfl, fun p hp => ?_, fun p hp => ?_, fun p hp => ?_, (fun p hp => by cases hp), Nat.le_of_ble_eq_true rfl, Nat.le_of_ble_eq_true rfl, Nat.le_of_ble_eq_true rfl, Nat.le_of_ble_eq_true rfl⟩
 ·simp only [jc3, List.mem_cons, List.not_mem_nil, or_false] at hp
  subst hp
  refine ⟨fun s hs => ?_, Nat.le_of_ble_eq_true rfl, Nat.le_of_ble_eq_true rfl, Nat.le_of_ble_eq_true rfl, (fun a ha => by cases ha), (fun a ha => by cases ha), Nat.le_of_ble_eq_true rfl, Nat.le_of_ble_eq_true rfl⟩
  simp only [List.mem_cons, List.not_mem_nil, or_false] at hs
  subst hs
  exact Nat.le_of_ble_eq_true rfl
 ·simp only [jc4, List.mem_cons, List.not_mem_nil, or_false] at hp
  subst hp
  exact ⟨Nat.le_of_ble_eq_true rfl, Nat.le_of_ble_eq_true rfl⟩
 ·simp only [jc5, List.mem_cons, List.not_mem_nil, or_false] at hp
  subst hp
  exact ⟨Nat.le_of_ble_eq_true rfl, Nat.le_of_ble_eq_true rfl⟩
theorem jkb (nv iv ov tv s1 s2 s3 : Sl) : je1 ⟨⟨#[103]⟩, nv, iv, ov, tv⟩ (jc3 s1) (jc4 s2) (jc5 s3) [] = .ok jd7 := by
 unfold je1
 rw [jiU, if_pos rfl]
 exact jj2
theorem jkc (w : World) : RdG w ⟨⟨#[]⟩, jmj, jmj, jmj, jmj⟩ [] [] [] [] :=
 ⟨OwnsL.isL (te := 35) (base := 0) jeT (OwnsL.nil ..) (by simp), OwnsL.isL (te := 82) (base := 0) jcF (OwnsL.nil ..) (by simp), OwnsL.isL (te := 82) (base := 0) jcF (OwnsL.nil ..) (by simp), OwnsL.isL (te := 67) (base := 0) jeS (OwnsL.nil ..) (by simp), (fun p hp => by cases hp), (fun p hp => by cases hp), (fun p hp => by cases hp), (fun p hp => by cases hp)⟩
theorem jkd (w : World) : Calls Tryz.prog 9 #[] w fun e w' => e = .returned (.bool true) ∧ w.grownBy w' none := by
 go_enter Tryz.func9, Tryz.ntmps9
 go_wp2_with fail
 refine (jhg w).mono ?_
 rintro e w1 ⟨⟨nm, nv, iv, ov, tv⟩, s1, s2, s3, rfl, hnm, hrd, hg1⟩
 simp only at hnm
 subst hnm
 have G1 := jac hg1
 have EN := jac (jf8 ⟨⟨#[103]⟩, nv, iv, ov, tv⟩ (jc3 s1) (jc4 s2) (jc5 s3) [] w1 hrd (fun _ => jlm nv iv ov tv s1 s2 s3))
 rw [jkb] at EN
 clear hrd hg1
 go_wp2_with fail
 refine EN.out.mono ?_
 rintro e w2 ⟨hg2, rfl⟩
 have G2 := jac (jaa G1.out hg2)
 clear hg2 EN G1
 have DA := jac (jcI jd7 w2 (by decide))
 rw [jiV] at DA
 go_wp2_with fail
 refine DA.out.mono ?_
 rintro e w3 ⟨hg3, v, rfl, ⟨⟨an, ⟨a0, a1, a2⟩, ⟨a3, a4, a5⟩, ⟨a6, a7, a8⟩, ⟨a9, a10, a11⟩⟩, ans, ais, aos, ats, loa, rfl, ha, hloa, hqa⟩⟩
 unfold jdb
 simp only [Sl.v] at hqa ⊢
 have G3 := jac (jaa G2.out hg3)
 clear hg3 DA G2
 obtain ⟨q1, q2, q3, q4, q5⟩ := NGra.mk.inj ha
 have l2 := congrArg List.length q2
 have l3 := congrArg List.length q3
 have l4 := congrArg List.length q4
 have l5 := congrArg List.length q5
 simp only [List.length_map, List.length_cons, List.length_nil] at l2 l3 l4 l5
 have RDa := jac (hqa.rd (g := ⟨an, ⟨a0, a1, a2⟩, ⟨a3, a4, a5⟩, ⟨a6, a7, a8⟩, ⟨a9, a10, a11⟩⟩) (by omega) (by omega) (by omega) (by omega))
 have LNa : Hid (ans.length ≤ 1048576 ∧ ais.length ≤ 1048576 ∧ aos.length ≤ 1048576 ∧ ats.length ≤ 1048576) := by refine ⟨?_, ?_, ?_, ?_⟩ <;> omega
 have EQa : Hid (jb0 ⟨an, ⟨a0, a1, a2⟩, ⟨a3, a4, a5⟩, ⟨a6, a7, a8⟩, ⟨a9, a10, a11⟩⟩ ans ais aos ats = jj1) := by show _ = _; exact ha.symm
 clear q1 q2 q3 q4 q5 l2 l3 l4 l5 hqa ha hloa
 obtain ⟨wa, hwa⟩ : ∃ y9, y9 = w3.alloc (.cells #[.string an, .slice a0 a1 a2, .slice a3 a4 a5, .slice a6 a7 a8, .slice a9 a10 a11] 27) := ⟨_, rfl⟩
 have G3a : Hid (w.grownBy wa none) := by show w.grownBy wa none; rw [hwa]; exact jaa G3.out (jab _ _)
 have RDA : Hid (RdG wa ⟨an, ⟨a0, a1, a2⟩, ⟨a3, a4, a5⟩, ⟨a6, a7, a8⟩, ⟨a9, a10, a11⟩⟩ ans ais aos ats) := by show RdG _ _ _ _ _ _; rw [hwa]; exact RDa.out.more (jab _ _)
 have hba : wa.heap[w3.heap.size]? = some (.cells #[.string an, .slice a0 a1 a2, .slice a3 a4 a5, .slice a6 a7 a8, .slice a9 a10 a11] 27 (0, 0)) := by rw [hwa]; exact heap_alloc_new _ _
 have BA := jac (fun wx (hg : wa.grownBy wx none) => jag hba hg)
 have DB := jac (jcI ⟨#[58, 0]⟩ wa (by decide))
 rw [jj3] at DB
 clear G3 RDa hba
 go_wp2_with fail
 rw [← hwa]
 clear hwa
 refine DB.out.mono ?_
 rintro e w4 ⟨hg4, v, rfl, ⟨⟨bn, ⟨b0, b1, b2⟩, ⟨b3, b4, b5⟩, ⟨b6, b7, b8⟩, ⟨b9, b10, b11⟩⟩, bns, bis, bos, bts, lob, rfl, hb, hlob, hqb⟩⟩
 unfold jdb
 simp only [Sl.v] at hqb ⊢
 have G4 := jac (jaa G3a.out hg4)
 have GA := jac hg4
 clear hg4 DB G3a
 obtain ⟨q1, q2, q3, q4, q5⟩ := NGra.mk.inj hb
 have l2 := congrArg List.length q2
 have l3 := congrArg List.length q3
 have l4 := congrArg List.length q4
 have l5 := congrArg List.length q5
 simp only [List.length_map, List.length_nil] at l2 l3 l4 l5
 have RDb := jac (hqb.rd (g := ⟨bn, ⟨b0, b1, b2⟩, ⟨b3, b4, b5⟩, ⟨b6, b7, b8⟩, ⟨b9, b10, b11⟩⟩) (by omega) (by omega) (by omega) (by omega))
 have LNb : Hid (bns.length ≤ 1048576 ∧ bis.length ≤ 1048576 ∧ bos.length ≤ 1048576 ∧ bts.length ≤ 1048576) := by refine ⟨?_, ?_, ?_, ?_⟩ <;> omega
 have EQb : Hid (jb0 ⟨bn, ⟨b0, b1, b2⟩, ⟨b3, b4, b5⟩, ⟨b6, b7, b8⟩, ⟨b9, b10, b11⟩⟩ bns bis bos bts = ⟨⟨#[]⟩, [], [], [], []⟩) := by show _ = _; exact hb.symm
 clear q1 q2 q3 q4 q5 l2 l3 l4 l5 hqb hb hlob
 obtain ⟨wb, hwb⟩ : ∃ y9, y9 = w4.alloc (.cells #[.string bn, .slice b0 b1 b2, .slice b3 b4 b5, .slice b6 b7 b8, .slice b9 b10 b11] 27) := ⟨_, rfl⟩
 have G4b : Hid (w.grownBy wb none) := by show w.grownBy wb none; rw [hwb]; exact jaa G4.out (jab _ _)
 have GAb : Hid (wa.grownBy wb none) := by show wa.grownBy wb none; rw [hwb]; exact jaa GA.out (jab _ _)
 have RDB : Hid (RdG wb ⟨bn, ⟨b0, b1, b2⟩, ⟨b3, b4, b5⟩, ⟨b6, b7, b8⟩, ⟨b9, b10, b11⟩⟩ bns bis bos bts) := by show RdG _ _ _ _ _ _; rw [hwb]; exact RDb.out.more (jab _ _)
 have hbb : wb.heap[w4.heap.size]? = some (.cells #[.string bn, .slice b0 b1 b2, .slice b3 b4 b5, .slice b6 b7 b8, .slice b9 b10 b11] 27 (0, 0)) := by rw [hwb]; exact heap_alloc_new _ _
 have BB := jac (fun wx (hg : wb.grownBy wx none) => jag hbb hg)
 have DC := jac (jcI ⟨#[56, 1]⟩ wb (by decide))
 rw [jj4] at DC
 clear G4 GA RDb hbb
 go_wp2_with fail
 rw [← hwb]
 clear hwb
 refine DC.out.mono ?_
 rintro e w5 ⟨hg5, rfl⟩
 obtain ⟨wc, hwc⟩ : ∃ y9, y9 = w5.alloc (.cells #[.string ⟨#[]⟩, .slice none 0 0, .slice none 0 0, .slice none 0 0, .slice none 0 0] 27) := ⟨_, rfl⟩
 have Gbc : Hid (wb.grownBy wc none) := by show wb.grownBy wc none; rw [hwc]; exact jaa hg5 (jab _ _)
 have DD := jac (jcI ⟨#[]⟩ wc (by decide))
 rw [jiW] at DD
 clear hg5 DC
 go_wp2_with fail
 rw [← hwc]
 clear hwc
 refine DD.out.mono ?_
 rintro e w6 ⟨hg6, rfl⟩
 obtain ⟨wd, hwd⟩ : ∃ y9, y9 = w6.alloc (.cells #[.string ⟨#[]⟩, .slice none 0 0, .slice none 0 0, .slice none 0 0, .slice none 0 0] 27) := ⟨_, rfl⟩
 have Gbd : Hid (wb.grownBy wd none) := by show wb.grownBy wd none; rw [hwd]; exact jaa (jaa Gbc.out hg6) (jab _ _)
 have Gd6 : wb.grownBy w6 none := jaa Gbc.out hg6
 obtain ⟨⟨a0c, a1c, a2c, a3c, a4c⟩, -⟩ := jaz (BA.out wd (jaa GAb.out Gbd.out))
 obtain ⟨⟨b0c, b1c, b2c, b3c, b4c⟩, -⟩ := jaz (BB.out wd Gbd.out)
 clear hg6 DD Gbc Gd6
 rw [hwd] at a0c a1c a2c a3c a4c b0c b1c b2c b3c b4c
 go_wp2_with fail
 rw [← hwd]
 clear a0c a1c a2c a3c a4c b0c b1c b2c b3c b4c hwd
 have SBL := jac (fun wx (hg : wb.grownBy wx none) => jfo ⟨bn, ⟨b0, b1, b2⟩, ⟨b3, b4, b5⟩, ⟨b6, b7, b8⟩, ⟨b9, b10, b11⟩⟩ ⟨⟨#[]⟩, ⟨none, 0, 0⟩, ⟨none, 0, 0⟩, ⟨none, 0, 0⟩, ⟨none, 0, 0⟩⟩ bns [] bis bos [] [] bts [] wx (RDB.out.more hg) (jkc wx) EQb.out)
 unfold jdb at SBL
 simp only at SBL
 have CX : Hid (∀ wx, wb.grownBy wx none → (wx.cell? ⟨w3.heap.size, 0, none⟩ = some (.string an) ∧ wx.cell? ⟨w3.heap.size, 1, none⟩ = some (.slice a0 a1 a2) ∧ wx.cell? ⟨w3.heap.size, 2, none⟩ = some (.slice a3 a4 a5) ∧ wx.cell? ⟨w3.heap.size, 3, none⟩ = some (.slice a6 a7 a8) ∧ wx.cell? ⟨w3.heap.size, 4, none⟩ = some (.slice a9 a10 a11)) ∧ (wx.cell? ⟨w4.heap.size, 0, none⟩ = some (.string bn) ∧ wx.cell? ⟨w4.heap.size, 1, none⟩ = some (.slice b0 b1 b2) ∧ wx.cell? ⟨w4.heap.size, 2, none⟩ = some (.slice b3 b4 b5) ∧ wx.cell? ⟨w4.heap.size, 3, none⟩ = some (.slice b6 b7 b8) ∧ wx.cell? ⟨w4.heap.size, 4, none⟩ = some (.slice b9 b10 b11))) := fun wx hg => ⟨(jaz (BA.out wx (jaa GAb.out hg))).1, (jaz (BB.out wx hg)).1⟩
 obtain ⟨⟨a0c, a1c, a2c, a3c, a4c⟩, b0c, b1c, b2c, b3c, b4c⟩ := CX.out wd Gbd.out
 go_region_held3 (fun w' => w'.cell? ⟨w3.heap.size, 0, none⟩ = some (.string an) ∧ w'.cell? ⟨w3.heap.size, 1, none⟩ = some (.slice a0 a1 a2) ∧ w'.cell? ⟨w3.heap.size, 2, none⟩ = some (.slice a3 a4 a5) ∧ w'.cell? ⟨w3.heap.size, 3, none⟩ = some (.slice a6 a7 a8) ∧ w'.cell? ⟨w3.heap.size, 4, none⟩ = some (.slice a9 a10 a11) ∧ w'.cell? ⟨w4.heap.size, 0, none⟩ = some (.string bn) ∧ w'.cell? ⟨w4.heap.size, 1, none⟩ = some (.slice b0 b1 b2) ∧ w'.cell? ⟨w4.heap.size, 2, none⟩ = some (.slice b3 b4 b5) ∧ w'.cell? ⟨w4.heap.size, 3, none⟩ = some (.slice b6 b7 b8) ∧ w'.cell? ⟨w4.heap.size, 4, none⟩ = some (.slice b9 b10 b11)) (go_keep) (first | (go_at_call 20; refine (jhg _).mono ?_; rintro e w7 ⟨⟨nm', nv', iv', ov', tv'⟩, t1, t2, t3, rfl, hnm', hrd', hg7⟩; have k7 : wd.grownBy w7 none := (by first | exact hg7 | exact jaa (jaU (jae wd)) hg7 | exact jaa (jaU (jaU (jae wd))) hg7); have h7 := jaa Gbd.out k7; simp only at hnm'; subst hnm'; obtain ⟨⟨a0d, a1d, a2d, a3d, a4d⟩, b0d, b1d, b2d, b3d, b4d⟩ := CX.out w7 h7; have SA : Hid (Calls Tryz.prog 12 #[.agg #[.string an, .slice a0 a1 a2, .slice a3 a4 a5, .slice a6 a7 a8, .slice a9 a10 a11], jdb ⟨⟨#[103]⟩, nv', iv', ov', tv'⟩] w7 fun e w' => e = .returned (.bool true) ∧ w7.grownBy w' none) := jac (jfo ⟨an, ⟨a0, a1, a2⟩, ⟨a3, a4, a5⟩, ⟨a6, a7, a8⟩, ⟨a9, a10, a11⟩⟩ ⟨⟨#[103]⟩, nv', iv', ov', tv'⟩ ans (jc3 t1) ais aos (jc4 t2) (jc5 t3) ats [] w7 (RDA.out.more (jaa GAb.out h7)) hrd' EQa.out)) | (go_at_call 12; with_reducible refine SB.out.mono ?_; rintro e w9 ⟨rfl, hg9⟩; have h9 := jaa h8 hg9; obtain ⟨⟨a0f, a1f, a2f, a3f, a4f⟩, b0f, b1f, b2f, b3f, b4f⟩ := CX.out w9 h9) | (go_at_call 12; with_reducible refine SA.out.mono ?_; rintro e w8 ⟨rfl, hg8⟩; have h8 := jaa h7 hg8; obtain ⟨⟨a0e, a1e, a2e, a3e, a4e⟩, b0e, b1e, b2e, b3e, b4e⟩ := CX.out w8 h8; have SB := jac (SBL.out w8 h8)) | fail)
 go_wp2
 go_ret
 exact ⟨rfl, jaa G4b.out h9⟩
end Go.Proofs.YtbgbpfbjeleooaaGreat.Pd
namespace Go.Proofs.YtbgbpfbjeleooaaGreat.Pd
open Go.RowKit
open Wr (Fld)
theorem jlI {G : NGra} (h : TG G) : G.nodes.length ≤ 1000 ∧ G.ins.length ≤ 3000 ∧ G.outs.length ≤ 3000 ∧ G.inits.length ≤ 3000 := by
 have h2 := h.few
 unfold jeG at h2
 simp only [Bool.or_eq_false_iff, decide_eq_false_iff_not] at h2
 omega
theorem jke (h g : Gra) (ns ns' : List (Nod × Ni)) (is os is' os' : List (Val × List Int)) (ts ts' : List (Nam × List Int × List Int)) (w : World) (hh : RdG w h ns is os ts) (hg : RdG w g ns' is' os' ts') (G : NGra) (e : jb0 h ns is os ts = G) (e' : jb0 g ns' is' os' ts' = G) :
    Calls Tryz.prog 12 #[jdb h, jdb g] w fun e w' => e = .returned (.bool true) ∧ w.grownBy w' none := by
     exact jfo h g ns ns' is os is' os' ts ts' w hh hg (e.trans e'.symm)
theorem jkf (wx : World) : Calls Tryz.prog 12 #[.agg #[.string ⟨#[]⟩, .slice none 0 0, .slice none 0 0, .slice none 0 0, .slice none 0 0], .agg #[.string ⟨#[]⟩, .slice none 0 0, .slice none 0 0, .slice none 0 0, .slice none 0 0]] wx fun e w' => e = .returned (.bool true) ∧ wx.grownBy w' none := by
 have k := jfo ⟨⟨#[]⟩, ⟨none, 0, 0⟩, ⟨none, 0, 0⟩, ⟨none, 0, 0⟩, ⟨none, 0, 0⟩⟩ ⟨⟨#[]⟩, ⟨none, 0, 0⟩, ⟨none, 0, 0⟩, ⟨none, 0, 0⟩, ⟨none, 0, 0⟩⟩ [] [] [] [] [] [] [] [] wx (jkc wx) (jkc wx) rfl
 unfold jdb at k
 simp only at k
 exact k
theorem jln {G : NGra} {s : ByteArray} (h : jaH G = .ok s) : s.size ≤ 16777216 := by
 unfold jaH at h
 obtain ⟨_, -, h⟩ := jaj h
 obtain ⟨_, -, h⟩ := jaj h
 exact jd5 h
theorem pbAgain_walk (s : ByteArray) (hs : s.size ≤ 140737488351232) (w : World) :
    Calls Tryz.prog 6 #[.string s] w fun e w' => e = .returned (.bool true) ∧ w.grownBy w' none := by
     have LV := jac jkd
     by_cases h20 : 20000 < s.size
     ·have d : decide ((20000 : Int) < (s.size : Int)) = true := decide_eq_true (by omega)
      clear h20
      go_enter Tryz.func6, Tryz.ntmps6
      go_wp2_with (first | (go_at_call 9; refine (LV.out _).mono ?_; rintro e w1 ⟨rfl, hg1⟩) | fail)
      go_ret
      exact ⟨rfl, hg1⟩
     have d : decide ((20000 : Int) < (s.size : Int)) = false := decide_eq_false (by omega)
     have DA := jac (jcI s w (by omega))
     obtain ⟨r, hr⟩ : ∃ r, r = jaK s := ⟨_, rfl⟩
     rw [← hr] at DA
     have HR := jac hr
     clear hr h20
     cases r with
     | error c =>
      have c0 : (c == 0) = false := beq_eq_false_iff_ne.2 (jm3 s c HR.out.symm)
      have c1 : (c != 0) = true := by unfold bne; rw [c0]; rfl
      have SZ := jac jkf
      clear HR
      go_enter Tryz.func6, Tryz.ntmps6
      go_wp2_with fail
      refine DA.out.mono ?_
      rintro e w1 ⟨hg1, rfl⟩
      have G1 := jac hg1
      clear hg1 DA
      obtain ⟨w2, hw2⟩ : ∃ y9, y9 = w1.alloc (.cells #[.string ⟨#[]⟩, .slice none 0 0, .slice none 0 0, .slice none 0 0, .slice none 0 0] 27) := ⟨_, rfl⟩
      have G2 : Hid (w.grownBy w2 none) := by show w.grownBy w2 none; rw [hw2]; exact jaa G1.out (jab _ _)
      have hb : w2.heap[w1.heap.size]? = some (.cells #[.string ⟨#[]⟩, .slice none 0 0, .slice none 0 0, .slice none 0 0, .slice none 0 0] 27 (0, 0)) := by rw [hw2]; exact heap_alloc_new _ _
      obtain ⟨⟨x0, x1, x2, x3, x4⟩, -⟩ := jaz hb
      clear hb
      rw [hw2] at x0 x1 x2 x3 x4
      go_wp2_with fail
      rw [← hw2]
      clear hw2 x0 x1 x2 x3 x4
      refine (SZ.out _).mono ?_
      rintro e w3 ⟨rfl, hg3⟩
      have G3 := jac (jaa G2.out hg3)
      clear hg3
      go_wp2_with (first | (go_at_call 9; refine (LV.out _).mono ?_; rintro e w4 ⟨rfl, hg4⟩) | fail)
      go_ret
      exact ⟨rfl, jaa G3.out hg4⟩
     | ok G =>
      have TG0 := jac (jlg HR.out.symm)
      clear HR
      go_enter Tryz.func6, Tryz.ntmps6
      go_wp2_with fail
      refine DA.out.mono ?_
      rintro e w1 ⟨hg1, v, rfl, ⟨⟨an, ⟨a0, a1, a2⟩, ⟨a3, a4, a5⟩, ⟨a6, a7, a8⟩, ⟨a9, a10, a11⟩⟩, ans, ais, aos, ats, lo, rfl, hG, hlo, hq⟩⟩
      unfold jdb
      simp only [Sl.v] at hq ⊢
      have La := jac (jlI TG0.out)
      rw [hG] at La
      have RDa := jac (hq.rd (g := ⟨an, ⟨a0, a1, a2⟩, ⟨a3, a4, a5⟩, ⟨a6, a7, a8⟩, ⟨a9, a10, a11⟩⟩) (by have := La.out.1; simp at this; omega) (by have := La.out.2.1; simp at this; omega) (by have := La.out.2.2.1; simp at this; omega) (by have := La.out.2.2.2; simp at this; omega))
      have EQa : Hid (jb0 ⟨an, ⟨a0, a1, a2⟩, ⟨a3, a4, a5⟩, ⟨a6, a7, a8⟩, ⟨a9, a10, a11⟩⟩ ans ais aos ats = G) := by show _ = _; exact hG.symm
      clear hq hG hlo La
      have G1 := jac hg1
      clear hg1 DA
      obtain ⟨wa, hwa⟩ : ∃ y9, y9 = w1.alloc (.cells #[.string an, .slice a0 a1 a2, .slice a3 a4 a5, .slice a6 a7 a8, .slice a9 a10 a11] 27) := ⟨_, rfl⟩
      have G2 : Hid (w.grownBy wa none) := by show w.grownBy wa none; rw [hwa]; exact jaa G1.out (jab _ _)
      have RDA : Hid (RdG wa ⟨an, ⟨a0, a1, a2⟩, ⟨a3, a4, a5⟩, ⟨a6, a7, a8⟩, ⟨a9, a10, a11⟩⟩ ans ais aos ats) := by show RdG _ _ _ _ _ _; rw [hwa]; exact RDa.out.more (jab _ _)
      have hba : wa.heap[w1.heap.size]? = some (.cells #[.string an, .slice a0 a1 a2, .slice a3 a4 a5, .slice a6 a7 a8, .slice a9 a10 a11] 27 (0, 0)) := by rw [hwa]; exact heap_alloc_new _ _
      have BA := jac (fun wx (hg : wa.grownBy wx none) => jag hba hg)
      obtain ⟨⟨x0, x1, x2, x3, x4⟩, -⟩ := jaz hba
      rw [hwa] at x0 x1 x2 x3 x4
      have EN := jac (jlj RDA.out (by rw [EQa.out]; exact TG0.out))
      rw [EQa.out] at EN
      unfold jdb at EN
      simp only at EN
      clear hba G1 RDa
      go_wp2_with fail
      rw [← hwa]
      clear hwa x0 x1 x2 x3 x4
      obtain ⟨rz, hrw⟩ : ∃ r, r = jaH G := ⟨_, rfl⟩
      rw [← hrw] at EN
      have HW := jac hrw
      clear hrw
      refine EN.out.mono ?_
      clear EN
      cases rz with
      | error c =>
       obtain rfl : c = 6 := jmh TG0.out HW.out.symm
       rintro e w3 ⟨hg3, rfl⟩
       have G3 := jac (jaa G2.out hg3)
       clear hg3
       go_wp2_with (first | (go_at_call 9; refine (LV.out _).mono ?_; rintro e w4 ⟨rfl, hg4⟩) | fail)
       go_ret
       exact ⟨rfl, jaa G3.out hg4⟩
      | ok t =>
       have RB : Hid (jaK t = .ok G) := jll TG0.out HW.out.symm
       have TZ : Hid (t.size ≤ 16777216) := jln HW.out.symm
       rintro e w3 ⟨hg3, rfl⟩
       have G3 := jac (jaa G2.out hg3)
       have A3 := jac hg3
       clear hg3 HW
       have DB := jac (jcI t w3 (by have := TZ.out; omega))
       rw [RB.out] at DB
       clear RB TZ
       go_wp2_with fail
       refine DB.out.mono ?_
       rintro e w5 ⟨hg5, v, rfl, ⟨⟨bn, ⟨b0, b1, b2⟩, ⟨b3, b4, b5⟩, ⟨b6, b7, b8⟩, ⟨b9, b10, b11⟩⟩, bns, bis, bos, bts, lo, rfl, hG, hlo, hq⟩⟩
       unfold jdb
       simp only [Sl.v] at hq ⊢
       have Lb := jac (jlI TG0.out)
       rw [hG] at Lb
       have RDb := jac (hq.rd (g := ⟨bn, ⟨b0, b1, b2⟩, ⟨b3, b4, b5⟩, ⟨b6, b7, b8⟩, ⟨b9, b10, b11⟩⟩) (by have := Lb.out.1; simp at this; omega) (by have := Lb.out.2.1; simp at this; omega) (by have := Lb.out.2.2.1; simp at this; omega) (by have := Lb.out.2.2.2; simp at this; omega))
       have EQb : Hid (jb0 ⟨bn, ⟨b0, b1, b2⟩, ⟨b3, b4, b5⟩, ⟨b6, b7, b8⟩, ⟨b9, b10, b11⟩⟩ bns bis bos bts = G) := by show _ = _; exact hG.symm
       clear hq hG hlo Lb
       have G5 := jac (jaa G3.out hg5)
       have A5 := jac (jaa A3.out hg5)
       clear hg5 DB G3 A3
       obtain ⟨wb, hwb⟩ : ∃ y9, y9 = w5.alloc (.cells #[.string bn, .slice b0 b1 b2, .slice b3 b4 b5, .slice b6 b7 b8, .slice b9 b10 b11] 27) := ⟨_, rfl⟩
       have G6 : Hid (w.grownBy wb none) := by show w.grownBy wb none; rw [hwb]; exact jaa G5.out (jab _ _)
       have A6 : Hid (wa.grownBy wb none) := by show wa.grownBy wb none; rw [hwb]; exact jaa A5.out (jab _ _)
       have RDB : Hid (RdG wb ⟨bn, ⟨b0, b1, b2⟩, ⟨b3, b4, b5⟩, ⟨b6, b7, b8⟩, ⟨b9, b10, b11⟩⟩ bns bis bos bts) := by show RdG _ _ _ _ _ _; rw [hwb]; exact RDb.out.more (jab _ _)
       have hbb : wb.heap[w5.heap.size]? = some (.cells #[.string bn, .slice b0 b1 b2, .slice b3 b4 b5, .slice b6 b7 b8, .slice b9 b10 b11] 27 (0, 0)) := by rw [hwb]; exact heap_alloc_new _ _
       have SA := jac (jke ⟨an, ⟨a0, a1, a2⟩, ⟨a3, a4, a5⟩, ⟨a6, a7, a8⟩, ⟨a9, a10, a11⟩⟩ ⟨bn, ⟨b0, b1, b2⟩, ⟨b3, b4, b5⟩, ⟨b6, b7, b8⟩, ⟨b9, b10, b11⟩⟩ ans bns ais aos bis bos ats bts wb (RDA.out.more A6.out) RDB.out G EQa.out EQb.out)
       unfold jdb at SA
       simp only at SA
       obtain ⟨⟨x0, x1, x2, x3, x4⟩, -⟩ := jaz (BA.out wb A6.out)
       obtain ⟨⟨y0, y1, y2, y3, y4⟩, -⟩ := jaz hbb
       rw [hwb] at x0 x1 x2 x3 x4 y0 y1 y2 y3 y4
       clear hbb G5 A5 RDb RDA RDB EQa EQb BA A6 G2
       go_wp2_with fail
       rw [← hwb]
       clear hwb x0 x1 x2 x3 x4 y0 y1 y2 y3 y4
       refine SA.out.mono ?_
       rintro e w7 ⟨rfl, hg7⟩
       have G7 := jac (jaa G6.out hg7)
       clear hg7 SA G6
       go_wp2_with (first | (go_at_call 9; refine (LV.out _).mono ?_; rintro e w4 ⟨rfl, hg4⟩) | fail)
       go_ret
       exact ⟨rfl, jaa G7.out hg4⟩
end Go.Proofs.YtbgbpfbjeleooaaGreat.Pd
