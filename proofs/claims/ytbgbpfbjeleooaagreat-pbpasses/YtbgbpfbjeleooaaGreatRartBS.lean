/- A part. -/
import Derived.Test.YtbgbpfbjeleooaaGreatRartBQ
import Derived.Test.YtbgbpfbjeleooaaGreatRartAH
import Derived.Test.YtbgbpfbjeleooaaGreatRartBR
import Derived.Test.YtbgbpfbjeleooaaGreatRartBJ
set_option maxHeartbeats 12800000
set_option maxRecDepth 100000
namespace Go.Proofs.YtbgbpfbjeleooaaGreat.Pd
open Go.RowKit
open Wr (Fld)
theorem litW {w : World} {B : Nat} (zs : List Int) (hb : w.heap[B]? = some (.cells (zs.map (Value.int .i64)).toArray 3 (0, 0))) (hl : zs.length ≤ 1024) (hz : ∀ z ∈ zs, -1024 ≤ z ∧ z ≤ 1024) : jaw w (.slice (some ⟨B, 0, none⟩) zs.length zs.length) zs := by
 refine jdZ.ints (base := 0) ⟨⟨by simp, Or.inr ⟨B, zs.length, _, rfl, Nat.zero_le _, hb, Nat.le_refl _, by simp only [maxLen]; omega, by simp, ?_⟩⟩, by omega, fun z hz' => by have := hz z hz'; constructor <;> omega⟩
 rw [List.take_of_length_le (by simp)]
theorem seven (w : World) (z a b c d e f : Obj) : ∀ W, W = ((((((w.alloc z).alloc a).alloc b).alloc c).alloc d).alloc e).alloc f →
    W.heap[w.heap.size]? = some z ∧ W.heap[w.heap.size + 1]? = some a ∧ W.heap[w.heap.size + 1 + 1]? = some b ∧ W.heap[w.heap.size + 1 + 1 + 1]? = some c ∧ W.heap[w.heap.size + 1 + 1 + 1 + 1]? = some d ∧ W.heap[w.heap.size + 1 + 1 + 1 + 1 + 1]? = some e ∧ W.heap[w.heap.size + 1 + 1 + 1 + 1 + 1 + 1]? = some f ∧ w.grownBy W none := by
     intro W hW
     obtain ⟨h0, h1, h2, h3, h4, h5, hg⟩ := six (w.alloc z) a b c d e f W hW
     have s : (w.alloc z).heap.size = w.heap.size + 1 := by simp
     rw [s] at h0 h1 h2 h3 h4 h5
     exact ⟨(hg.block w.heap.size (by omega) (by simp)).trans (heap_alloc_new w z), h0, h1, h2, h3, h4, h5, jaa (jab _ _) hg⟩
theorem RdG.inG {w : World} {g : Gra} {ns : List (Nod × Ni)} {is os : List (Val × List Int)} {ts : List (Nam × List Int × List Int)} (h : RdG w g ns is os ts) : GraphIn0 w g (ns.map jj8) is os ts := by
 refine ⟨?_, h.ins, h.outs, h.inits, fun c hc => ?_, h.din, h.dout, h.dten⟩
 ·rw [List.map_map]
  exact h.nodes
 ·obtain ⟨p, hp, rfl⟩ := List.mem_map.1 hc
  exact h.node p hp
def jl8 (w : World) (e : Ending) (w' : World) : Prop := ∃ (g : Gra) (s1 s2 s3 : Sl), e = .returned (jc3 g) ∧ g.name = ⟨#[103]⟩ ∧ RdG w' g (jcS s1) (jcT s2) (jcU s3) [] ∧ w.grownBy w' none
theorem jkT (w : World) (W : World) (hW : W = (((((((w.alloc (.cells #[.string ⟨#[103]⟩, .slice (some ⟨w.heap.size + 1 + 1 + 1 + 1 + 1 + 1, 0, none⟩) 1 1, .slice (some ⟨w.heap.size + 1 + 1, 0, none⟩) 1 1, .slice (some ⟨w.heap.size + 1 + 1 + 1 + 1, 0, none⟩) 1 1, .slice none 0 0] 27)).alloc (.cells #[.int .i64 2] 3)).alloc (.cells #[.string ⟨#[120]⟩, .int .i64 1, .slice (some ⟨w.heap.size + 1, 0, none⟩) 1 1] 82)).alloc (.cells #[.int .i64 2] 3)).alloc (.cells #[.string ⟨#[121]⟩, .int .i64 1, .slice (some ⟨w.heap.size + 1 + 1 + 1, 0, none⟩) 1 1] 82)).alloc (.cells #[.string ⟨#[120]⟩] 9)).alloc (.cells #[.string ⟨#[82, 101, 108, 117]⟩, .string ⟨#[]⟩, .slice (some ⟨w.heap.size + 1 + 1 + 1 + 1 + 1, 0, none⟩) 1 1, .string ⟨#[121]⟩, .slice none 0 0] 35))) :
    W.heap[w.heap.size]? = some (.cells #[.string ⟨#[103]⟩, .slice (some ⟨w.heap.size + 1 + 1 + 1 + 1 + 1 + 1, 0, none⟩) 1 1, .slice (some ⟨w.heap.size + 1 + 1, 0, none⟩) 1 1, .slice (some ⟨w.heap.size + 1 + 1 + 1 + 1, 0, none⟩) 1 1, .slice none 0 0] 27 (0, 0)) ∧ w.grownBy W none ∧ RdG W ⟨⟨#[103]⟩, ⟨some ⟨w.heap.size + 1 + 1 + 1 + 1 + 1 + 1, 0, none⟩, 1, 1⟩, ⟨some ⟨w.heap.size + 1 + 1, 0, none⟩, 1, 1⟩, ⟨some ⟨w.heap.size + 1 + 1 + 1 + 1, 0, none⟩, 1, 1⟩, jlG⟩ (jcS ⟨some ⟨w.heap.size + 1 + 1 + 1 + 1 + 1, 0, none⟩, 1, 1⟩) (jcT ⟨some ⟨w.heap.size + 1, 0, none⟩, 1, 1⟩) (jcU ⟨some ⟨w.heap.size + 1 + 1 + 1, 0, none⟩, 1, 1⟩) [] := by
     obtain ⟨h0, h1, h2, h3, h4, h5, h6, hg⟩ := seven w _ _ _ _ _ _ _ W hW
     have nilA : jg5 W jlG.v [] := OwnsL.isL (te := 78) (base := 0) jfB (OwnsL.nil ..) (by simp)
     refine ⟨h0, hg, ⟨?_, ?_, ?_, ?_, fun p hp => ?_, fun p hp => ?_, fun p hp => ?_, (fun p hp => by cases hp)⟩⟩
     ·exact jeQ (te := 35) (bytes := 96) (xs := (jcS ⟨some ⟨w.heap.size + 1 + 1 + 1 + 1 + 1, 0, none⟩, 1, 1⟩).map (·.1)) jew h6 rfl rfl (Nat.le_of_ble_eq_true rfl) (Nat.le_of_ble_eq_true rfl)
     ·exact jeQ (te := 82) (bytes := 48) (xs := (jcT ⟨some ⟨w.heap.size + 1, 0, none⟩, 1, 1⟩).map (·.1)) jcy h2 rfl rfl (Nat.le_of_ble_eq_true rfl) (Nat.le_of_ble_eq_true rfl)
     ·exact jeQ (te := 82) (bytes := 48) (xs := (jcU ⟨some ⟨w.heap.size + 1 + 1 + 1, 0, none⟩, 1, 1⟩).map (·.1)) jcy h4 rfl rfl (Nat.le_of_ble_eq_true rfl) (Nat.le_of_ble_eq_true rfl)
     ·exact OwnsL.isL (te := 67) (base := 0) jev (OwnsL.nil ..) (by simp)
     ·simp only [jcS, List.mem_cons, List.not_mem_nil, or_false] at hp
      subst hp
      exact ⟨jeQ (te := 9) (bytes := 16) (xs := [⟨#[120]⟩]) jiO h5 rfl rfl (Nat.le_of_ble_eq_true rfl) (Nat.le_of_ble_eq_true rfl), nilA, (fun j a h => by simp at h)⟩
     ·simp only [jcT, List.mem_cons, List.not_mem_nil, or_false] at hp
      subst hp
      exact litW [2] h1 (by simp) (by simp)
     ·simp only [jcU, List.mem_cons, List.not_mem_nil, or_false] at hp
      subst hp
      exact litW [2] h3 (by simp) (by simp)
theorem jgW (w : World) : Calls Tryz.prog 20 #[] w fun e w' => jl8 w e w' := by
 go_enter Tryz.func20, Tryz.ntmps20
 go_wp2_with fail
 obtain ⟨hb, hg, hok⟩ := jkT w _ rfl
 refine bodyPost_ret (je5 rfl _ _ w.heap.size rfl hb) rfl ?_
 exact ⟨_, _, _, _, rfl, rfl, hok, hg⟩
end Go.Proofs.YtbgbpfbjeleooaaGreat.Pd
namespace Go.Proofs.YtbgbpfbjeleooaaGreat.Pd
open Go.RowKit
open Wr (Fld)
def jfs (p : Nod × Ni) : Nod × Ni := (p.1, ⟨p.2.ins, p.2.xs, p.2.cs.take p.2.xs.length⟩)
theorem jjM {w : World} {n : Nod} {q : Ni} (h : NodeIn0 w n q.ins q.xs q.cs) : q.xs.length ≤ q.cs.length := by
 refine Nat.le_of_not_lt fun hlt => ?_
 obtain ⟨c, e, -⟩ := h.has q.cs.length q.xs[q.cs.length] (List.getElem?_eq_getElem hlt)
 rw [List.getElem?_eq_none (Nat.le_refl _)] at e
 cases e
theorem jjN {w : World} {n : Nod} {q : Ni} (h : NodeIn0 w n q.ins q.xs q.cs) : NodeIn0 w n (jfs (n, q)).2.ins (jfs (n, q)).2.xs (jfs (n, q)).2.cs := by
 refine ⟨h.ins, h.av, fun j a e => ?_⟩
 obtain ⟨c, e1, e2⟩ := h.has j a e
 refine ⟨c, ?_, e2⟩
 have hj : j < q.xs.length := (List.getElem?_eq_some_iff.1 e).1
 show (q.cs.take q.xs.length)[j]? = some c
 rw [List.getElem?_take, if_pos hj]
 exact e1
theorem jhX : ∀ (xs : List Atr) (cs : List Cont) (ys : List Atr) (ds : List Cont), xs.length ≤ cs.length → ys.length ≤ ds.length → List.zipWith jbT xs cs = List.zipWith jbT ys ds → xs.map jcX = ys.map jcX ∧ cs.take xs.length = ds.take ys.length
 | [], cs, [], ds, _, _, _ => ⟨rfl, by simp⟩
 | [], cs, y :: ys, [], _, h, _ => by simp at h
 | [], cs, y :: ys, d :: ds, _, _, h => by simp at h
 | x :: xs, [], _, _, h, _, _ => by simp at h
 | x :: xs, c :: cs, [], ds, _, _, h => by simp at h
 | x :: xs, c :: cs, y :: ys, [], _, h, _ => by simp at h
 | x :: xs, c :: cs, y :: ys, d :: ds, h1, h2, h => by
  rw [List.zipWith_cons_cons, List.zipWith_cons_cons, List.cons.injEq] at h
  obtain ⟨i1, i2⟩ := jhX xs cs ys ds (by simpa using h1) (by simpa using h2) h.2
  obtain ⟨e1, e2, e3, e4, e5, e6, e7, e8, e9⟩ := NAtr.mk.inj h.1
  obtain ⟨d1, d2, d3⟩ := d
  obtain ⟨c1, c2, c3⟩ := c
  simp only at e7 e8 e9
  subst e7 e8 e9
  refine ⟨?_, ?_⟩
  ·rw [List.map_cons, List.map_cons, i1]
   simp only [jcX, e1, e2, e3, e4, e5, e6]
  ·rw [List.length_cons, List.length_cons, List.take_succ_cons, List.take_succ_cons, i2]
theorem jlE {w w' : World} {p q : Nod × Ni} (hp : NodeIn0 w p.1 p.2.ins p.2.xs p.2.cs) (hq : NodeIn0 w' q.1 q.2.ins q.2.xs q.2.cs) (h : jda p = jda q) : jjT (jj8 (jfs p)) = jjT (jj8 (jfs q)) := by
 obtain ⟨e1, e2, e3, e4, e5⟩ := NNod.mk.inj h
 obtain ⟨k1, k2⟩ := jhX _ _ _ _ (jjM hp) (jjM hq) e5
 simp only [jjT, jj8, jfs, e1, e2, e3, e4, k1, k2]
theorem jhY {w w' : World} : ∀ {ps qs : List (Nod × Ni)}, (∀ p ∈ ps, NodeIn0 w p.1 p.2.ins p.2.xs p.2.cs) → (∀ p ∈ qs, NodeIn0 w' p.1 p.2.ins p.2.xs p.2.cs) → ps.map jda = qs.map jda → ((ps.map jfs).map jj8).map jjT = ((qs.map jfs).map jj8).map jjT
 | [], [], _, _, _ => rfl
 | [], q :: qs, _, _, h => by simp at h
 | p :: ps, [], _, _, h => by simp at h
 | p :: ps, q :: qs, hp, hq, h => by
  rw [List.map_cons, List.map_cons, List.cons.injEq] at h
  simp only [List.map_cons]
  rw [jlE (hp p (List.mem_cons_self ..)) (hq q (List.mem_cons_self ..)) h.1]
  exact congrArg _ (jhY (fun x hx => hp x (List.mem_cons_of_mem _ hx)) (fun x hx => hq x (List.mem_cons_of_mem _ hx)) h.2)
theorem RdG.trim {w : World} {g : Gra} {ns : List (Nod × Ni)} {is os : List (Val × List Int)} {ts : List (Nam × List Int × List Int)} (h : RdG w g ns is os ts) : RdG w g (ns.map jfs) is os ts := by
 refine ⟨?_, h.ins, h.outs, h.inits, fun p hp => ?_, h.din, h.dout, h.dten⟩
 ·rw [List.map_map]
  exact h.nodes
 ·obtain ⟨q, hq, rfl⟩ := List.mem_map.1 hp
  exact jjN (h.node q hq)
theorem Quad.rd {w : World} {base : Nat} {g : Gra} {ns : List (Nod × Ni)} {is os : List (Val × List Int)} {ts : List (Nam × List Int × List Int)} (h : Quad w base g.nv.v g.iv.v g.ov.v g.tv.v ns is os ts)
    (hn : ns.length ≤ 1048576) (hi : is.length ≤ 1048576) (ho : os.length ≤ 1048576) (ht : ts.length ≤ 1048576) : RdG w g ns is os ts :=
     ⟨h.on.own.isL jew (by rw [List.length_map]; omega), h.oi.own.isL jcy (by rw [List.length_map]; omega), h.oo.own.isL jcy (by rw [List.length_map]; omega), h.ot.own.isL jev (by rw [List.length_map]; omega), fun p hp => have k := h.on.has p hp; ⟨k.ins, k.av, k.has⟩, h.oi.has, h.oo.has, h.ot.has⟩
theorem jgn (h g : Gra) (ns ns' : List (Nod × Ni)) (is os is' os' : List (Val × List Int)) (ts ts' : List (Nam × List Int × List Int)) (w : World) (hh : RdG w h ns is os ts) (hg : RdG w g ns' is' os' ts') (e : jcg h ns is os ts = jcg g ns' is' os' ts') :
    Calls Tryz.prog 12 #[jc3 h, jc3 g] w fun e w' => e = .returned (.bool true) ∧ w.grownBy w' none := by
     obtain ⟨e1, e2, e3, e4, e5⟩ := NGra.mk.inj e
     have kv : ∀ a b : Val × List Int, jbg a = jbg b → jjS a = jjS b := fun a b k => by
      obtain ⟨k1, k2, k3⟩ := NVal.mk.inj k
      simp only [jjS, k1, k2, k3]
     have km : ∀ a b : Nam × List Int × List Int, jcP a = jcP b → jj7 a = jj7 b := fun a b k => by
      obtain ⟨k1, k2, k3, k4⟩ := NTen.mk.inj k
      simp only [jj7, k1, k2]
      rw [Prod.ext k3 k4]
     exact jgm h g ((ns'.map jfs).map jj8) ((ns.map jfs).map jj8) is' os' is os ts' ts w hg.trim.inG hh.trim.inG e1 ⟨jhY hh.node hg.node e2, jfW kv e3, jfW kv e4, jfW km e5⟩
end Go.Proofs.YtbgbpfbjeleooaaGreat.Pd
namespace Go.Proofs.YtbgbpfbjeleooaaGreat.Pd
open Go.RowKit
open Wr (Fld)
def NZ {α : Type} (r : R α) : Prop := ∀ c, r = .error c → c ≠ 0
theorem NZ.bind {α β : Type} {r : R α} {f : α → R β} (h : NZ r) (k : ∀ a, NZ (f a)) : NZ (r.bind f) := by
 intro c e
 cases r with
 | ok a => exact k a c e
 | error d =>
  cases e
  exact h c rfl
theorem jft {s t : ByteArray} {l r : List Fld} (hs : jaM s = .ok l) (ht : jaM t = .ok r) (hz : s.size + t.size ≤ 16777216) : jaM (s ++ t) = .ok (l ++ r) := by
 have k : ∀ {s : ByteArray} {l : List Fld}, s.size ≤ 16777216 → jaM s = .ok l → Wr.all (Wr.fd s) s.size = some l := by
  intro s l h h2
  unfold jaM at h2
  rw [if_neg (by omega)] at h2
  split at h2
  ·cases h2
  ·rename_i h3; cases h2; exact h3
 unfold jaM
 rw [if_neg (by rw [ByteArray.size_append]; omega), Wr.all_join (k (by omega) hs) (k (by omega) ht)]
theorem jix {s x : ByteArray} {l : List Fld} {f : Fld} (hs : jaM s = .ok l) (hx : jaM x = .ok [f]) (hf : f.num ≠ 7) (hz : x.size + s.size ≤ 16777216) : jal (x ++ s) = jal s := by
 unfold jal
 rw [jft hx hs hz, hs]
 show (jaH jbC [] ([f] ++ l)).bind _ = _
 rw [jlC (b := []) (jhS (by unfold jbC; rw [if_neg hf]))]
 rfl
theorem jhv {s x : ByteArray} {l : List Fld} {f : Fld} (hs : jaM s = .ok l) (hx : jaM x = .ok [f]) (hf : f.num ≠ 7) (hz : s.size + x.size ≤ 16777216) : jal (s ++ x) = jal s := by
 unfold jal
 rw [jft hs hx hz, hs]
 show (jaH jbC [] (l ++ [f])).bind _ = (jaH jbC [] l).bind _
 rw [jgk]
 cases jaH jbC [] l with
 | error c => rfl
 | ok t =>
  show (jaH jbC t [f]).bind _ = _
  rw [jhS (f := jbC) (a := t) (b := t) (by unfold jbC; rw [if_neg hf])]
end Go.Proofs.YtbgbpfbjeleooaaGreat.Pd
namespace Go.Proofs.YtbgbpfbjeleooaaGreat.Pd
open Go.RowKit
open Wr (Fld)
theorem jkU (nv iv ov tv s1 s2 s3 : Sl) : SmallG ⟨⟨#[103]⟩, nv, iv, ov, tv⟩ (jcS s1) (jcT s2) (jcU s3) [] := by
 refine ⟨Nat.le_of_ble_eq_true rfl, fun p hp => ?_, fun p hp => ?_, fun p hp => ?_, (fun p hp => by cases hp), Nat.le_of_ble_eq_true rfl, Nat.le_of_ble_eq_true rfl, Nat.le_of_ble_eq_true rfl, Nat.le_of_ble_eq_true rfl⟩
 ·simp only [jcS, List.mem_cons, List.not_mem_nil, or_false] at hp
  subst hp
  refine ⟨fun s hs => ?_, Nat.le_of_ble_eq_true rfl, Nat.le_of_ble_eq_true rfl, Nat.le_of_ble_eq_true rfl, (fun a ha => by cases ha), (fun a ha => by cases ha), Nat.le_of_ble_eq_true rfl, Nat.le_of_ble_eq_true rfl⟩
  simp only [List.mem_cons, List.not_mem_nil, or_false] at hs
  subst hs
  exact Nat.le_of_ble_eq_true rfl
 ·simp only [jcT, List.mem_cons, List.not_mem_nil, or_false] at hp
  subst hp
  exact ⟨Nat.le_of_ble_eq_true rfl, Nat.le_of_ble_eq_true rfl⟩
 ·simp only [jcU, List.mem_cons, List.not_mem_nil, or_false] at hp
  subst hp
  exact ⟨Nat.le_of_ble_eq_true rfl, Nat.le_of_ble_eq_true rfl⟩
theorem jjO (nv iv ov tv s1 s2 s3 : Sl) : jgj ⟨⟨#[103]⟩, nv, iv, ov, tv⟩ (jcS s1) (jcT s2) (jcU s3) [] = .ok jdJ := by
 unfold jgj
 rw [jiu, if_pos rfl]
 exact jjJ
theorem jld (w : World) : RdG w ⟨⟨#[]⟩, jlG, jlG, jlG, jlG⟩ [] [] [] [] :=
 ⟨OwnsL.isL (te := 35) (base := 0) jew (OwnsL.nil ..) (by simp), OwnsL.isL (te := 82) (base := 0) jcy (OwnsL.nil ..) (by simp), OwnsL.isL (te := 82) (base := 0) jcy (OwnsL.nil ..) (by simp), OwnsL.isL (te := 67) (base := 0) jev (OwnsL.nil ..) (by simp), (fun p hp => by cases hp), (fun p hp => by cases hp), (fun p hp => by cases hp), (fun p hp => by cases hp)⟩
theorem jjP (w : World) : Calls Tryz.prog 9 #[] w fun e w' => e = .returned (.bool true) ∧ w.grownBy w' none := by
 go_enter Tryz.func9, Tryz.ntmps9
 go_wp2_with fail
 refine (jgW w).mono ?_
 rintro e w1 ⟨⟨nm, nv, iv, ov, tv⟩, s1, s2, s3, rfl, hnm, hrd, hg1⟩
 simp only at hnm
 subst hnm
 have G1 := jac hg1
 have EN := jac (jis ⟨⟨#[103]⟩, nv, iv, ov, tv⟩ (jcS s1) (jcT s2) (jcU s3) [] w1 hrd (fun _ => jkU nv iv ov tv s1 s2 s3))
 rw [jjO] at EN
 clear hrd hg1
 go_wp2_with fail
 refine EN.out.mono ?_
 rintro e w2 ⟨hg2, rfl⟩
 have G2 := jac (jaa G1.out hg2)
 clear hg2 EN G1
 have DA := jac (jc0 jdJ w2 (by decide))
 rw [jiv] at DA
 go_wp2_with fail
 refine DA.out.mono ?_
 rintro e w3 ⟨hg3, v, rfl, ⟨⟨an, ⟨a0, a1, a2⟩, ⟨a3, a4, a5⟩, ⟨a6, a7, a8⟩, ⟨a9, a10, a11⟩⟩, ans, ais, aos, ats, loa, rfl, ha, hloa, hqa⟩⟩
 unfold jc3
 simp only [Sl.v] at hqa ⊢
 have G3 := jac (jaa G2.out hg3)
 clear hg3 DA G2
 obtain ⟨q1, q2, q3, q4, q5⟩ := NGra.mk.inj ha
 have l2 := congrArg List.length q2
 have l3 := congrArg List.length q3
 have l4 := congrArg List.length q4
 have l5 := congrArg List.length q5
 simp only [List.length_map, List.length_cons, List.length_nil] at l2 l3 l4 l5
 have RDa := jac (hqa.rd (g := ⟨an, ⟨a0, a1, a2⟩, ⟨a3, a4, a5⟩, ⟨a6, a7, a8⟩, ⟨a9, a10, a11⟩⟩) (by omega) (by omega) (by omega) (by omega))
 have LNa : Hid (ans.length ≤ 1048576 ∧ ais.length ≤ 1048576 ∧ aos.length ≤ 1048576 ∧ ats.length ≤ 1048576) := by refine ⟨?_, ?_, ?_, ?_⟩ <;> omega
 have EQa : Hid (jcg ⟨an, ⟨a0, a1, a2⟩, ⟨a3, a4, a5⟩, ⟨a6, a7, a8⟩, ⟨a9, a10, a11⟩⟩ ans ais aos ats = jjI) := by show _ = _; exact ha.symm
 clear q1 q2 q3 q4 q5 l2 l3 l4 l5 hqa ha hloa
 obtain ⟨wa, hwa⟩ : ∃ y9, y9 = w3.alloc (.cells #[.string an, .slice a0 a1 a2, .slice a3 a4 a5, .slice a6 a7 a8, .slice a9 a10 a11] 27) := ⟨_, rfl⟩
 have G3a : Hid (w.grownBy wa none) := by show w.grownBy wa none; rw [hwa]; exact jaa G3.out (jab _ _)
 have RDA : Hid (RdG wa ⟨an, ⟨a0, a1, a2⟩, ⟨a3, a4, a5⟩, ⟨a6, a7, a8⟩, ⟨a9, a10, a11⟩⟩ ans ais aos ats) := by show RdG _ _ _ _ _ _; rw [hwa]; exact RDa.out.more (jab _ _)
 have hba : wa.heap[w3.heap.size]? = some (.cells #[.string an, .slice a0 a1 a2, .slice a3 a4 a5, .slice a6 a7 a8, .slice a9 a10 a11] 27 (0, 0)) := by rw [hwa]; exact heap_alloc_new _ _
 have BA := jac (fun wx (hg : wa.grownBy wx none) => jag hba hg)
 have DB := jac (jc0 ⟨#[58, 0]⟩ wa (by decide))
 rw [jjK] at DB
 clear G3 RDa hba
 go_wp2_with fail
 rw [← hwa]
 clear hwa
 refine DB.out.mono ?_
 rintro e w4 ⟨hg4, v, rfl, ⟨⟨bn, ⟨b0, b1, b2⟩, ⟨b3, b4, b5⟩, ⟨b6, b7, b8⟩, ⟨b9, b10, b11⟩⟩, bns, bis, bos, bts, lob, rfl, hb, hlob, hqb⟩⟩
 unfold jc3
 simp only [Sl.v] at hqb ⊢
 have G4 := jac (jaa G3a.out hg4)
 have GA := jac hg4
 clear hg4 DB G3a
 obtain ⟨q1, q2, q3, q4, q5⟩ := NGra.mk.inj hb
 have l2 := congrArg List.length q2
 have l3 := congrArg List.length q3
 have l4 := congrArg List.length q4
 have l5 := congrArg List.length q5
 simp only [List.length_map, List.length_nil] at l2 l3 l4 l5
 have RDb := jac (hqb.rd (g := ⟨bn, ⟨b0, b1, b2⟩, ⟨b3, b4, b5⟩, ⟨b6, b7, b8⟩, ⟨b9, b10, b11⟩⟩) (by omega) (by omega) (by omega) (by omega))
 have LNb : Hid (bns.length ≤ 1048576 ∧ bis.length ≤ 1048576 ∧ bos.length ≤ 1048576 ∧ bts.length ≤ 1048576) := by refine ⟨?_, ?_, ?_, ?_⟩ <;> omega
 have EQb : Hid (jcg ⟨bn, ⟨b0, b1, b2⟩, ⟨b3, b4, b5⟩, ⟨b6, b7, b8⟩, ⟨b9, b10, b11⟩⟩ bns bis bos bts = ⟨⟨#[]⟩, [], [], [], []⟩) := by show _ = _; exact hb.symm
 clear q1 q2 q3 q4 q5 l2 l3 l4 l5 hqb hb hlob
 obtain ⟨wb, hwb⟩ : ∃ y9, y9 = w4.alloc (.cells #[.string bn, .slice b0 b1 b2, .slice b3 b4 b5, .slice b6 b7 b8, .slice b9 b10 b11] 27) := ⟨_, rfl⟩
 have G4b : Hid (w.grownBy wb none) := by show w.grownBy wb none; rw [hwb]; exact jaa G4.out (jab _ _)
 have GAb : Hid (wa.grownBy wb none) := by show wa.grownBy wb none; rw [hwb]; exact jaa GA.out (jab _ _)
 have RDB : Hid (RdG wb ⟨bn, ⟨b0, b1, b2⟩, ⟨b3, b4, b5⟩, ⟨b6, b7, b8⟩, ⟨b9, b10, b11⟩⟩ bns bis bos bts) := by show RdG _ _ _ _ _ _; rw [hwb]; exact RDb.out.more (jab _ _)
 have hbb : wb.heap[w4.heap.size]? = some (.cells #[.string bn, .slice b0 b1 b2, .slice b3 b4 b5, .slice b6 b7 b8, .slice b9 b10 b11] 27 (0, 0)) := by rw [hwb]; exact heap_alloc_new _ _
 have BB := jac (fun wx (hg : wb.grownBy wx none) => jag hbb hg)
 have DC := jac (jc0 ⟨#[56, 1]⟩ wb (by decide))
 rw [jjL] at DC
 clear G4 GA RDb hbb
 go_wp2_with fail
 rw [← hwb]
 clear hwb
 refine DC.out.mono ?_
 rintro e w5 ⟨hg5, rfl⟩
 obtain ⟨wc, hwc⟩ : ∃ y9, y9 = w5.alloc (.cells #[.string ⟨#[]⟩, .slice none 0 0, .slice none 0 0, .slice none 0 0, .slice none 0 0] 27) := ⟨_, rfl⟩
 have Gbc : Hid (wb.grownBy wc none) := by show wb.grownBy wc none; rw [hwc]; exact jaa hg5 (jab _ _)
 have DD := jac (jc0 ⟨#[]⟩ wc (by decide))
 rw [jiw] at DD
 clear hg5 DC
 go_wp2_with fail
 rw [← hwc]
 clear hwc
 refine DD.out.mono ?_
 rintro e w6 ⟨hg6, rfl⟩
 obtain ⟨wd, hwd⟩ : ∃ y9, y9 = w6.alloc (.cells #[.string ⟨#[]⟩, .slice none 0 0, .slice none 0 0, .slice none 0 0, .slice none 0 0] 27) := ⟨_, rfl⟩
 have Gbd : Hid (wb.grownBy wd none) := by show wb.grownBy wd none; rw [hwd]; exact jaa (jaa Gbc.out hg6) (jab _ _)
 have Gd6 : wb.grownBy w6 none := jaa Gbc.out hg6
 obtain ⟨⟨a0c, a1c, a2c, a3c, a4c⟩, -⟩ := jay (BA.out wd (jaa GAb.out Gbd.out))
 obtain ⟨⟨b0c, b1c, b2c, b3c, b4c⟩, -⟩ := jay (BB.out wd Gbd.out)
 clear hg6 DD Gbc Gd6
 rw [hwd] at a0c a1c a2c a3c a4c b0c b1c b2c b3c b4c
 go_wp2_with fail
 rw [← hwd]
 clear a0c a1c a2c a3c a4c b0c b1c b2c b3c b4c hwd
 have SBL := jac (fun wx (hg : wb.grownBy wx none) => jgn ⟨bn, ⟨b0, b1, b2⟩, ⟨b3, b4, b5⟩, ⟨b6, b7, b8⟩, ⟨b9, b10, b11⟩⟩ ⟨⟨#[]⟩, ⟨none, 0, 0⟩, ⟨none, 0, 0⟩, ⟨none, 0, 0⟩, ⟨none, 0, 0⟩⟩ bns [] bis bos [] [] bts [] wx (RDB.out.more hg) (jld wx) EQb.out)
 unfold jc3 at SBL
 simp only at SBL
 have CX : Hid (∀ wx, wb.grownBy wx none → (wx.cell? ⟨w3.heap.size, 0, none⟩ = some (.string an) ∧ wx.cell? ⟨w3.heap.size, 1, none⟩ = some (.slice a0 a1 a2) ∧ wx.cell? ⟨w3.heap.size, 2, none⟩ = some (.slice a3 a4 a5) ∧ wx.cell? ⟨w3.heap.size, 3, none⟩ = some (.slice a6 a7 a8) ∧ wx.cell? ⟨w3.heap.size, 4, none⟩ = some (.slice a9 a10 a11)) ∧ (wx.cell? ⟨w4.heap.size, 0, none⟩ = some (.string bn) ∧ wx.cell? ⟨w4.heap.size, 1, none⟩ = some (.slice b0 b1 b2) ∧ wx.cell? ⟨w4.heap.size, 2, none⟩ = some (.slice b3 b4 b5) ∧ wx.cell? ⟨w4.heap.size, 3, none⟩ = some (.slice b6 b7 b8) ∧ wx.cell? ⟨w4.heap.size, 4, none⟩ = some (.slice b9 b10 b11))) := fun wx hg => ⟨(jay (BA.out wx (jaa GAb.out hg))).1, (jay (BB.out wx hg)).1⟩
 obtain ⟨⟨a0c, a1c, a2c, a3c, a4c⟩, b0c, b1c, b2c, b3c, b4c⟩ := CX.out wd Gbd.out
 go_region_held3 (fun w' => w'.cell? ⟨w3.heap.size, 0, none⟩ = some (.string an) ∧ w'.cell? ⟨w3.heap.size, 1, none⟩ = some (.slice a0 a1 a2) ∧ w'.cell? ⟨w3.heap.size, 2, none⟩ = some (.slice a3 a4 a5) ∧ w'.cell? ⟨w3.heap.size, 3, none⟩ = some (.slice a6 a7 a8) ∧ w'.cell? ⟨w3.heap.size, 4, none⟩ = some (.slice a9 a10 a11) ∧ w'.cell? ⟨w4.heap.size, 0, none⟩ = some (.string bn) ∧ w'.cell? ⟨w4.heap.size, 1, none⟩ = some (.slice b0 b1 b2) ∧ w'.cell? ⟨w4.heap.size, 2, none⟩ = some (.slice b3 b4 b5) ∧ w'.cell? ⟨w4.heap.size, 3, none⟩ = some (.slice b6 b7 b8) ∧ w'.cell? ⟨w4.heap.size, 4, none⟩ = some (.slice b9 b10 b11)) (go_keep) (first | (go_at_call 20; refine (jgW _).mono ?_; rintro e w7 ⟨⟨nm', nv', iv', ov', tv'⟩, t1, t2, t3, rfl, hnm', hrd', hg7⟩; have k7 : wd.grownBy w7 none := (by first | exact hg7 | exact jaa (jaV (jae wd)) hg7 | exact jaa (jaV (jaV (jae wd))) hg7); have h7 := jaa Gbd.out k7; simp only at hnm'; subst hnm'; obtain ⟨⟨a0d, a1d, a2d, a3d, a4d⟩, b0d, b1d, b2d, b3d, b4d⟩ := CX.out w7 h7; have SA : Hid (Calls Tryz.prog 12 #[.agg #[.string an, .slice a0 a1 a2, .slice a3 a4 a5, .slice a6 a7 a8, .slice a9 a10 a11], jc3 ⟨⟨#[103]⟩, nv', iv', ov', tv'⟩] w7 fun e w' => e = .returned (.bool true) ∧ w7.grownBy w' none) := jac (jgn ⟨an, ⟨a0, a1, a2⟩, ⟨a3, a4, a5⟩, ⟨a6, a7, a8⟩, ⟨a9, a10, a11⟩⟩ ⟨⟨#[103]⟩, nv', iv', ov', tv'⟩ ans (jcS t1) ais aos (jcT t2) (jcU t3) ats [] w7 (RDA.out.more (jaa GAb.out h7)) hrd' EQa.out)) | (go_at_call 12; with_reducible refine SB.out.mono ?_; rintro e w9 ⟨rfl, hg9⟩; have h9 := jaa h8 hg9; obtain ⟨⟨a0f, a1f, a2f, a3f, a4f⟩, b0f, b1f, b2f, b3f, b4f⟩ := CX.out w9 h9) | (go_at_call 12; with_reducible refine SA.out.mono ?_; rintro e w8 ⟨rfl, hg8⟩; have h8 := jaa h7 hg8; obtain ⟨⟨a0e, a1e, a2e, a3e, a4e⟩, b0e, b1e, b2e, b3e, b4e⟩ := CX.out w8 h8; have SB := jac (SBL.out w8 h8)) | fail)
 go_wp2
 go_ret
 exact ⟨rfl, jaa G4b.out h9⟩
end Go.Proofs.YtbgbpfbjeleooaaGreat.Pd
namespace Go.Proofs.YtbgbpfbjeleooaaGreat.Pd
open Go.RowKit
open Wr (Fld)
theorem jl9 {G : NGra} (h : TG G) : G.nodes.length ≤ 1000 ∧ G.ins.length ≤ 3000 ∧ G.outs.length ≤ 3000 ∧ G.inits.length ≤ 3000 := by
 have h2 := h.few
 unfold jeD at h2
 simp only [Bool.or_eq_false_iff, decide_eq_false_iff_not] at h2
 omega
theorem jjQ (h g : Gra) (ns ns' : List (Nod × Ni)) (is os is' os' : List (Val × List Int)) (ts ts' : List (Nam × List Int × List Int)) (w : World) (hh : RdG w h ns is os ts) (hg : RdG w g ns' is' os' ts') (G : NGra) (e : jcg h ns is os ts = G) (e' : jcg g ns' is' os' ts' = G) :
    Calls Tryz.prog 12 #[jc3 h, jc3 g] w fun e w' => e = .returned (.bool true) ∧ w.grownBy w' none := by
     exact jgn h g ns ns' is os is' os' ts ts' w hh hg (e.trans e'.symm)
end Go.Proofs.YtbgbpfbjeleooaaGreat.Pd
namespace Go.Proofs.YtbgbpfbjeleooaaGreat.Pd
open Go.RowKit
open Wr (Fld)
theorem jiy {f : Fld} (hin : Wr.FldIn f) (h : (Wr.wrote [f]).2 = 0) : jaM (Wr.wrote [f]).1 = .ok [f] ∧ (Wr.wrote [f]).1.size ≤ f.b.size + 40 := by
 unfold Wr.wrote at h ⊢
 by_cases ha : [f].all Wr.fok = true
 ·rw [if_pos ha] at h ⊢
  by_cases hl : (Wr.outOf [f]).length ≤ 16777216
  ·rw [if_pos hl]
   have hall := List.all_eq_true.1 ha
   have hf := hall f (List.mem_singleton.2 rfl)
   have hz : (Wr.sof (Wr.outOf [f])).size = (Wr.outOf [f]).length := Wr.sof_size _
   refine ⟨?_, ?_⟩
   ·unfold jaM
    simp only
    rw [if_neg (by omega), show Wr.all (Wr.fd (Wr.sof (Wr.outOf [f]))) (Wr.sof (Wr.outOf [f])).size = some [f] from Wr.all_out [f] (fun x hx => ⟨hall x hx, by rw [List.mem_singleton.1 hx]; exact hin, Wr.size_in hall hl x hx⟩)]
   ·simp only
    rw [hz]
    unfold Wr.outOf
    rw [List.flatMap_cons, List.flatMap_nil, List.append_nil]
    unfold Wr.fb
    rw [List.length_append]
    have h1 := jem (Wr.tagOf f)
    rw [Wr.sof_size] at h1
    have h2 : (Wr.tailOf f).length ≤ f.b.size + 22 := by
     have v1 := jem f.u.toNat
     have v2 := jem f.b.size
     rw [Wr.sof_size] at v1 v2
     unfold Wr.tailOf
     split
     ·omega
     split
     ·rw [Wr.lo_len]; omega
     split
     ·rw [Wr.lo_len]; omega
     ·rw [List.length_append, Wr.bytesOf_len]; omega
    omega
  ·rw [if_neg hl] at h; cases h
 ·rw [if_neg ha] at h; cases h
def zeroG : NGra := ⟨⟨#[]⟩, [], [], [], []⟩
def jkV (r : R NGra) : NGra := match r with | .ok G => G | .error _ => zeroG
def jlJ (r : R NGra) : Int := match r with | .ok _ => 0 | .error c => c
def jeP (w : World) (g : Gra) (G : NGra) : Prop := ∃ ns is os ts, RdG w g ns is os ts ∧ jcg g ns is os ts = G
theorem jeP.more {w w' : World} {g : Gra} {G : NGra} (h : jeP w g G) (hg : w.grownBy w' none) : jeP w' g G := by
 obtain ⟨ns, is, os, ts, h1, h2⟩ := h
 exact ⟨ns, is, os, ts, h1.more hg, h2⟩
theorem jkW (s : ByteArray) : TG (jkV (jal s)) := by
 cases h : jal s with
 | ok G => exact jkS h
 | error c => exact ⟨rfl, rfl, fun N hN => (by cases hN), fun N hN => (by cases hN), fun N hN => (by cases hN), fun N hN => (by cases hN)⟩
def DecA (w : World) (s : ByteArray) (e : Ending) (w' : World) : Prop := w.grownBy w' none ∧ ∃ (gn : ByteArray) (a0 : Option Addr) (a1 a2 : Nat) (a3 : Option Addr) (a4 a5 : Nat) (a6 : Option Addr) (a7 a8 : Nat) (a9 : Option Addr) (a10 a11 : Nat), e = .returned (.tuple #[.agg #[.string gn, .slice a0 a1 a2, .slice a3 a4 a5, .slice a6 a7 a8, .slice a9 a10 a11], .int .i64 (jlJ (jal s))]) ∧ jeP w' ⟨gn, ⟨a0, a1, a2⟩, ⟨a3, a4, a5⟩, ⟨a6, a7, a8⟩, ⟨a9, a10, a11⟩⟩ (jkV (jal s))
theorem jeG (s : ByteArray) (w : World) (hs : s.size ≤ 9223372036854775807) : Calls Tryz.prog 10 #[.string s] w (DecA w s) := by
 have ht := jkW s
 have D := jc0 s w hs
 unfold DecA
 cases hr : jal s with
 | error c =>
  rw [hr] at D
  refine D.mono ?_
  rintro e w1 ⟨hg, rfl⟩
  exact ⟨hg, ⟨#[]⟩, none, 0, 0, none, 0, 0, none, 0, 0, none, 0, 0, rfl, [], [], [], [], jld w1, rfl⟩
 | ok G =>
  rw [hr] at D ht
  refine D.mono ?_
  rintro e w1 ⟨hg, v, rfl, ⟨⟨gn, ⟨a0, a1, a2⟩, ⟨a3, a4, a5⟩, ⟨a6, a7, a8⟩, ⟨a9, a10, a11⟩⟩, ns, is, os, ts, lo, rfl, hG, hlo, hq⟩⟩
  have L := jl9 ht
  have L2 : (jkV (.ok G)).nodes.length = ns.length ∧ (jkV (.ok G)).ins.length = is.length ∧ (jkV (.ok G)).outs.length = os.length ∧ (jkV (.ok G)).inits.length = ts.length := by
   show G.nodes.length = _ ∧ G.ins.length = _ ∧ G.outs.length = _ ∧ G.inits.length = _
   rw [hG]
   simp
  exact ⟨hg, gn, a0, a1, a2, a3, a4, a5, a6, a7, a8, a9, a10, a11, rfl, ns, is, os, ts, hq.rd (g := ⟨gn, ⟨a0, a1, a2⟩, ⟨a3, a4, a5⟩, ⟨a6, a7, a8⟩, ⟨a9, a10, a11⟩⟩) (by omega) (by omega) (by omega) (by omega), hG.symm⟩
theorem jfQ (h g : Gra) (w : World) (G : NGra) (hh : jeP w h G) (hg : jeP w g G) :
    Calls Tryz.prog 12 #[jc3 h, jc3 g] w fun e w' => e = .returned (.bool true) ∧ w.grownBy w' none := by
     obtain ⟨ns, is, os, ts, h1, h2⟩ := hh
     obtain ⟨ns', is', os', ts', k1, k2⟩ := hg
     exact jjQ h g ns ns' is os is' os' ts ts' w h1 k1 G h2 k2
theorem pbPasses_walk (s : ByteArray) (hs : s.size ≤ 140737488351232) (num kd u : Int) (b : ByteArray) (hin : Wr.FldIn ⟨num, kd, u, b⟩) (bh : Bool) (w : World) :
    Calls Tryz.prog 7 #[.string s, .agg #[.int .i64 num, .int .i64 kd, .int .u64 u, .string b], .bool bh] w fun e w' => e = .returned (.bool true) ∧ w.grownBy w' none := by
     have LV := jac jjP
     obtain ⟨nn, hnn⟩ : ∃ nn, nn = 100 + num.tmod 1000 := ⟨_, rfl⟩
     have hb1 : -899 ≤ nn ∧ nn ≤ 1099 := by
      have h1 := Int.tmod_lt_of_pos num (show (0 : Int) < 1000 by decide)
      have h2 := Int.lt_tmod_of_pos num (show (0 : Int) < 1000 by decide)
      omega
     have ew : wrap64 (100 + num.tmod 1000) = nn := by rw [← hnn]; unfold wrap64; omega
     have G0 : Hid (w.grownBy (w.alloc (.cells #[.int .i64 nn, .int .i64 kd, .int .u64 u, .string b] 49)) none) := jac (jab _ _)
     have hbx := heap_alloc_new w (.cells #[.int .i64 nn, .int .i64 kd, .int .u64 u, .string b] 49)
     obtain ⟨⟨x0, x1, x2, x3⟩, -⟩ := jaS hbx
     have NN := jac hnn
     have EW := jac ew
     have HI := jac hin
     have HB := jac hb1
     clear hnn hin hbx hb1
     by_cases c1 : nn < 100 ∨ 1000000 < s.size ∨ 1000000 < b.size
     ·rcases (show nn < 100 ∨ (¬ nn < 100 ∧ 1000000 < s.size) ∨ (¬ nn < 100 ∧ ¬ 1000000 < s.size ∧ 1000000 < b.size) by omega) with d | ⟨d, e⟩ | ⟨d, e, f⟩
      ·have d1 : decide (nn < 100) = true := decide_eq_true d
       clear c1 d
       go_enter Tryz.func7, Tryz.ntmps7
       go_wp2_with (first | (go_at_call 9; refine (LV.out _).mono ?_; rintro e w4 ⟨rfl, hg4⟩) | fail)
       go_ret
       exact ⟨rfl, jaa G0.out hg4⟩
      ·have d1 : decide (nn < 100) = false := decide_eq_false d
       have d2 : decide ((1000000 : Int) < (s.size : Int)) = true := decide_eq_true (by omega)
       clear c1 d e
       go_enter Tryz.func7, Tryz.ntmps7
       go_wp2_with (first | (go_at_call 9; refine (LV.out _).mono ?_; rintro e w4 ⟨rfl, hg4⟩) | fail)
       go_ret
       exact ⟨rfl, jaa G0.out hg4⟩
      ·have d1 : decide (nn < 100) = false := decide_eq_false d
       have d2 : decide ((1000000 : Int) < (s.size : Int)) = false := decide_eq_false (by omega)
       have d3 : decide ((1000000 : Int) < (b.size : Int)) = true := decide_eq_true (by omega)
       clear c1 d e f
       go_enter Tryz.func7, Tryz.ntmps7
       go_wp2_with (first | (go_at_call 9; refine (LV.out _).mono ?_; rintro e w4 ⟨rfl, hg4⟩) | fail)
       go_ret
       exact ⟨rfl, jaa G0.out hg4⟩
     ·have d1 : decide (nn < 100) = false := decide_eq_false (by omega)
      have d2 : decide ((1000000 : Int) < (s.size : Int)) = false := decide_eq_false (by omega)
      have d3 : decide ((1000000 : Int) < (b.size : Int)) = false := decide_eq_false (by omega)
      have I2 : Hid (Wr.FldIn ⟨nn, kd, u, b⟩) := by obtain ⟨h1, h2, h3⟩ := HI.out; exact ⟨by have := HB.out; show -9223372036854775808 ≤ nn; omega, by have := HB.out; show nn ≤ 9223372036854775807; omega, h3⟩
      have CB : Hid (s.size ≤ 1000000 ∧ b.size ≤ 1000000 ∧ 100 ≤ nn) := by refine ⟨?_, ?_, ?_⟩ <;> omega
      clear c1 HI HB
      go_enter Tryz.func7, Tryz.ntmps7
      go_wp2_with fail
      obtain ⟨wl, hwl⟩ : ∃ y9, y9 = (w.alloc (.cells #[.int .i64 nn, .int .i64 kd, .int .u64 u, .string b] 49)).alloc (.cells #[.int .i64 nn, .int .i64 kd, .int .u64 u, .string b] 49) := ⟨_, rfl⟩
      have G1 : Hid (w.grownBy wl none) := by show w.grownBy wl none; rw [hwl]; exact jaa G0.out (jab _ _)
      have hbl : wl.heap[w.heap.size + 1]? = some (.cells #[.int .i64 nn, .int .i64 kd, .int .u64 u, .string b] 49 (0, 0)) := by rw [hwl]; exact jct _ _ _ _ _
      have IF : Wr.IsFlds wl (.slice (some ⟨w.heap.size + 1, 0, none⟩) 1 1) [⟨nn, kd, u, b⟩] := by
       obtain ⟨⟨y0, y1, y2, y3⟩, -⟩ := jaS hbl
       refine ⟨some ⟨w.heap.size + 1, 0, none⟩, 1, rfl, by simp, by decide, by simp, (fun h => by cases h), fun _ => ⟨w.heap.size + 1, 0, rfl, fun j hj => ?_⟩⟩
       simp only [List.length_singleton] at hj
       rcases (show j = 0 ∨ j = 1 ∨ j = 2 ∨ j = 3 by omega) with rfl | rfl | rfl | rfl
       ·exact y0
       ·exact y1
       ·exact y2
       ·exact y3
      obtain ⟨f0, hf0⟩ : ∃ f : Fld, f = ⟨nn, kd, u, b⟩ := ⟨_, rfl⟩
      rw [← hf0] at I2 IF
      have F7 : Hid (f0.num ≠ 7 ∧ f0.b.size ≤ 1000000) := by rw [hf0]; exact ⟨by have := CB.out; show nn ≠ 7; omega, CB.out.2.1⟩
      have WR := jac (Wr.refwrite_any _ [f0] wl IF (fun x hx => by rw [List.mem_singleton.1 hx]; exact I2.out))
      have WA := jac (fun h => jiy I2.out h)
      obtain ⟨x, hx⟩ : ∃ x, x = (Wr.wrote [f0]).1 := ⟨_, rfl⟩
      obtain ⟨ex, hex⟩ : ∃ x, x = (Wr.wrote [f0]).2 := ⟨_, rfl⟩
      rw [← hx, ← hex] at WR WA
      rw [← hwl]
      clear hwl hf0 hbl IF x0 x1 x2 x3 hx hex I2 G0 ew
      refine WR.out.mono ?_
      rintro e w1 ⟨rfl, hg1⟩
      have G2 := jac (jaa G1.out hg1)
      clear hg1 G1 WR
      by_cases hz : ex = 0
      ·subst hz
       obtain ⟨FX0, ZX0⟩ := WA.out rfl
       have FX := jac FX0
       have ZX : Hid (x.size ≤ 1000040 ∧ s.size ≤ 1000000) := by have := F7.out.2; have := CB.out.1; refine ⟨?_, ?_⟩ <;> omega
       clear FX0 ZX0 WA
       have DA := jac (jeG s w1 (by omega))
       go_wp2_with fail
       refine DA.out.mono ?_
       rintro e w2 ⟨hg2, an, a0, a1, a2, a3, a4, a5, a6, a7, a8, a9, a10, a11, rfl, sa⟩
       have SH := jac sa
       have G3 := jac (jaa G2.out hg2)
       clear hg2 sa DA G2
       obtain ⟨wa, hwa⟩ : ∃ y9, y9 = w2.alloc (.cells #[.string an, .slice a0 a1 a2, .slice a3 a4 a5, .slice a6 a7 a8, .slice a9 a10 a11] 27) := ⟨_, rfl⟩
       have G4 : Hid (w.grownBy wa none) := by show w.grownBy wa none; rw [hwa]; exact jaa G3.out (jab _ _)
       have SHA : Hid (jeP wa ⟨an, ⟨a0, a1, a2⟩, ⟨a3, a4, a5⟩, ⟨a6, a7, a8⟩, ⟨a9, a10, a11⟩⟩ (jkV (jal s))) := by show jeP _ _ _; rw [hwa]; exact SH.out.more (jab _ _)
       have hba : wa.heap[w2.heap.size]? = some (.cells #[.string an, .slice a0 a1 a2, .slice a3 a4 a5, .slice a6 a7 a8, .slice a9 a10 a11] 27 (0, 0)) := by rw [hwa]; exact heap_alloc_new _ _
       have BA := jac (fun wx (hg : wa.grownBy wx none) => jag hba hg)
       obtain ⟨ca, hca⟩ : ∃ c, c = jlJ (jal s) := ⟨_, rfl⟩
       rw [← hca]
       have HCA := jac hca
       clear hca hba SH G3
       have FD := jac (fun wx => Wr.reffields_any s wx (by omega))
       cases bh with
       | false =>
        have hz0 : x.size + s.size ≤ 16777216 := by have := ZX.out; omega
        have TZ : Hid (ByteArray.size (x ++ s) ≤ 16777216) := by show _ ≤ _; rw [ByteArray.size_append]; omega
        go_wp2_with fail
        rw [← hwa]
        clear hwa
        refine (FD.out _).mono ?_
        rintro e w3 ⟨fv, fe, rfl, hg3, hf⟩
        have HF := jac hf
        have A3 := jac hg3
        clear hf hg3 FD
        have DB := jac (jeG (x ++ s) w3 (by have := TZ.out; omega))
        have PS : Hid (∀ l, jaM s = .ok l → jal (x ++ s) = jal s) := jac (fun l hl => jix hl FX.out F7.out.1 hz0)
        obtain ⟨tt, htt⟩ : ∃ t, t = x ++ s := ⟨_, rfl⟩
        rw [← htt] at DB PS
        go_wp2_with fail
        rw [← htt]
        clear htt TZ
        refine DB.out.mono ?_
        rintro e w5 ⟨hg5, bn, b0, b1, b2, b3, b4, b5, b6, b7, b8, b9, b10, b11, rfl, sb⟩
        have SHb := jac sb
        have A5 := jac (jaa A3.out hg5)
        clear hg5 sb DB A3
        obtain ⟨wb, hwb⟩ : ∃ y9, y9 = w5.alloc (.cells #[.string bn, .slice b0 b1 b2, .slice b3 b4 b5, .slice b6 b7 b8, .slice b9 b10 b11] 27) := ⟨_, rfl⟩
        have A6 : Hid (wa.grownBy wb none) := by show wa.grownBy wb none; rw [hwb]; exact jaa A5.out (jab _ _)
        have SHB : Hid (jeP wb ⟨bn, ⟨b0, b1, b2⟩, ⟨b3, b4, b5⟩, ⟨b6, b7, b8⟩, ⟨b9, b10, b11⟩⟩ (jkV (jal tt))) := by show jeP _ _ _; rw [hwb]; exact SHb.out.more (jab _ _)
        have hbb : wb.heap[w5.heap.size]? = some (.cells #[.string bn, .slice b0 b1 b2, .slice b3 b4 b5, .slice b6 b7 b8, .slice b9 b10 b11] 27 (0, 0)) := by rw [hwb]; exact heap_alloc_new _ _
        obtain ⟨⟨x0, x1, x2, x3, x4⟩, -⟩ := jay (BA.out wb A6.out)
        obtain ⟨⟨y0, y1, y2, y3, y4⟩, -⟩ := jay hbb
        rw [hwb] at x0 x1 x2 x3 x4 y0 y1 y2 y3 y4
        have G6 := jac (jaa G4.out A6.out)
        clear hbb A5 SHb
        rcases HF.out with ⟨hz1, xs, hx, rfl, -⟩ | ⟨hz1, hx, rfl, -⟩ | ⟨hz1, rfl, -⟩
        ·have hfs : jaM s = .ok xs := by unfold jaM; rw [if_neg (by omega), hx]
         have EQ := PS.out xs hfs
         rw [EQ] at SHB
         rw [EQ, ← HCA.out]
         have PE : (ca == ca) = true := by simp
         have SA := jac (jfQ ⟨an, ⟨a0, a1, a2⟩, ⟨a3, a4, a5⟩, ⟨a6, a7, a8⟩, ⟨a9, a10, a11⟩⟩ ⟨bn, ⟨b0, b1, b2⟩, ⟨b3, b4, b5⟩, ⟨b6, b7, b8⟩, ⟨b9, b10, b11⟩⟩ wb _ (SHA.out.more A6.out) SHB.out)
         unfold jc3 at SA
         simp only at SA
         clear hx hz1 hfs EQ HF PS SHA SHB HCA BA A6 G4
         go_wp2_with fail
         rw [← hwb]
         clear hwb x0 x1 x2 x3 x4 y0 y1 y2 y3 y4
         refine SA.out.mono ?_
         rintro e w7 ⟨rfl, hg7⟩
         have G7 := jac (jaa G6.out hg7)
         clear hg7 SA G6
         go_wp2_with (first | (go_at_call 9; refine (LV.out _).mono ?_; rintro e w4 ⟨rfl, hg4⟩) | fail)
         go_ret
         exact ⟨rfl, jaa G7.out hg4⟩
        ·obtain ⟨cb, hcb⟩ : ∃ c, c = jlJ (jal tt) := ⟨_, rfl⟩
         rw [← hcb]
         clear hx hz1 hcb HF PS SHA SHB HCA BA A6 G4
         go_wp2_with (first | (go_at_call 9; refine (LV.out _).mono ?_; rintro e w4 ⟨rfl, hg4⟩) | fail)
         go_ret
         rw [← hwb] at hg4
         exact ⟨rfl, jaa G6.out hg4⟩
        ·obtain ⟨cb, hcb⟩ : ∃ c, c = jlJ (jal tt) := ⟨_, rfl⟩
         rw [← hcb]
         clear hz1 hcb HF PS SHA SHB HCA BA A6 G4
         go_wp2_with (first | (go_at_call 9; refine (LV.out _).mono ?_; rintro e w4 ⟨rfl, hg4⟩) | fail)
         go_ret
         rw [← hwb] at hg4
         exact ⟨rfl, jaa G6.out hg4⟩
       | true =>
        have hz0 : s.size + x.size ≤ 16777216 := by have := ZX.out; omega
        have TZ : Hid (ByteArray.size (s ++ x) ≤ 16777216) := by show _ ≤ _; rw [ByteArray.size_append]; omega
        go_wp2_with fail
        rw [← hwa]
        clear hwa
        refine (FD.out _).mono ?_
        rintro e w3 ⟨fv, fe, rfl, hg3, hf⟩
        have HF := jac hf
        have A3 := jac hg3
        clear hf hg3 FD
        have DB := jac (jeG (s ++ x) w3 (by have := TZ.out; omega))
        have PS : Hid (∀ l, jaM s = .ok l → jal (s ++ x) = jal s) := jac (fun l hl => jhv hl FX.out F7.out.1 hz0)
        obtain ⟨tt, htt⟩ : ∃ t, t = s ++ x := ⟨_, rfl⟩
        rw [← htt] at DB PS
        go_wp2_with fail
        rw [← htt]
        clear htt TZ
        refine DB.out.mono ?_
        rintro e w5 ⟨hg5, bn, b0, b1, b2, b3, b4, b5, b6, b7, b8, b9, b10, b11, rfl, sb⟩
        have SHb := jac sb
        have A5 := jac (jaa A3.out hg5)
        clear hg5 sb DB A3
        obtain ⟨wb, hwb⟩ : ∃ y9, y9 = w5.alloc (.cells #[.string bn, .slice b0 b1 b2, .slice b3 b4 b5, .slice b6 b7 b8, .slice b9 b10 b11] 27) := ⟨_, rfl⟩
        have A6 : Hid (wa.grownBy wb none) := by show wa.grownBy wb none; rw [hwb]; exact jaa A5.out (jab _ _)
        have SHB : Hid (jeP wb ⟨bn, ⟨b0, b1, b2⟩, ⟨b3, b4, b5⟩, ⟨b6, b7, b8⟩, ⟨b9, b10, b11⟩⟩ (jkV (jal tt))) := by show jeP _ _ _; rw [hwb]; exact SHb.out.more (jab _ _)
        have hbb : wb.heap[w5.heap.size]? = some (.cells #[.string bn, .slice b0 b1 b2, .slice b3 b4 b5, .slice b6 b7 b8, .slice b9 b10 b11] 27 (0, 0)) := by rw [hwb]; exact heap_alloc_new _ _
        obtain ⟨⟨x0, x1, x2, x3, x4⟩, -⟩ := jay (BA.out wb A6.out)
        obtain ⟨⟨y0, y1, y2, y3, y4⟩, -⟩ := jay hbb
        rw [hwb] at x0 x1 x2 x3 x4 y0 y1 y2 y3 y4
        have G6 := jac (jaa G4.out A6.out)
        clear hbb A5 SHb
        rcases HF.out with ⟨hz1, xs, hx, rfl, -⟩ | ⟨hz1, hx, rfl, -⟩ | ⟨hz1, rfl, -⟩
        ·have hfs : jaM s = .ok xs := by unfold jaM; rw [if_neg (by omega), hx]
         have EQ := PS.out xs hfs
         rw [EQ] at SHB
         rw [EQ, ← HCA.out]
         have PE : (ca == ca) = true := by simp
         have SA := jac (jfQ ⟨an, ⟨a0, a1, a2⟩, ⟨a3, a4, a5⟩, ⟨a6, a7, a8⟩, ⟨a9, a10, a11⟩⟩ ⟨bn, ⟨b0, b1, b2⟩, ⟨b3, b4, b5⟩, ⟨b6, b7, b8⟩, ⟨b9, b10, b11⟩⟩ wb _ (SHA.out.more A6.out) SHB.out)
         unfold jc3 at SA
         simp only at SA
         clear hx hz1 hfs EQ HF PS SHA SHB HCA BA A6 G4
         go_wp2_with fail
         rw [← hwb]
         clear hwb x0 x1 x2 x3 x4 y0 y1 y2 y3 y4
         refine SA.out.mono ?_
         rintro e w7 ⟨rfl, hg7⟩
         have G7 := jac (jaa G6.out hg7)
         clear hg7 SA G6
         go_wp2_with (first | (go_at_call 9; refine (LV.out _).mono ?_; rintro e w4 ⟨rfl, hg4⟩) | fail)
         go_ret
         exact ⟨rfl, jaa G7.out hg4⟩
        ·obtain ⟨cb, hcb⟩ : ∃ c, c = jlJ (jal tt) := ⟨_, rfl⟩
         rw [← hcb]
         clear hx hz1 hcb HF PS SHA SHB HCA BA A6 G4
         go_wp2_with (first | (go_at_call 9; refine (LV.out _).mono ?_; rintro e w4 ⟨rfl, hg4⟩) | fail)
         go_ret
         rw [← hwb] at hg4
         exact ⟨rfl, jaa G6.out hg4⟩
        ·obtain ⟨cb, hcb⟩ : ∃ c, c = jlJ (jal tt) := ⟨_, rfl⟩
         rw [← hcb]
         clear hz1 hcb HF PS SHA SHB HCA BA A6 G4
         go_wp2_with (first | (go_at_call 9; refine (LV.out _).mono ?_; rintro e w4 ⟨rfl, hg4⟩) | fail)
         go_ret
         rw [← hwb] at hg4
         exact ⟨rfl, jaa G6.out hg4⟩
      ·have z0 : (ex == 0) = false := beq_eq_false_iff_ne.2 hz
       have z1 : (ex != 0) = true := by unfold bne; rw [z0]; rfl
       clear WA hz
       go_wp2_with (first | (go_at_call 9; refine (LV.out _).mono ?_; rintro e w4 ⟨rfl, hg4⟩) | fail)
       go_ret
       exact ⟨rfl, jaa G2.out hg4⟩
end Go.Proofs.YtbgbpfbjeleooaaGreat.Pd
