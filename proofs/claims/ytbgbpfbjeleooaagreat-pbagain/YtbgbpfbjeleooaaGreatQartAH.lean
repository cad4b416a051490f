/- A part. -/
import Derived.Test.YtbgbpfbjeleooaaGreatQartAE
import Derived.Test.YtbgbpfbjeleooaaGreatQartAG
import Derived.Test.YtbgbpfbjeleooaaGreatQartAC
import Derived.Deep.RegionHeld3
import Derived.Deep.AppendLies
set_option maxHeartbeats 6400000
set_option maxRecDepth 100000
namespace Go.Proofs.YtbgbpfbjeleooaaGreat
open Go.RowKit
def New (n m : Nat) (v : Value) : Prop := ∀ k, v.ownBlock = some k → n ≤ k ∧ k < m
theorem New.mono {n m n' m' : Nat} {v : Value} (h : New n m v) (hn : n' ≤ n) (hm : m ≤ m') : New n' m' v := fun k hk => by have := h k hk; omega
theorem jax.past {w w' : World} {v : Value} {zs : List Int} (h : jax w v zs) {B n m : Nat} (hn : New n m v) (hB : B < n ∨ m ≤ B) (hg : w.grownBy w' (some B)) : jax w' v zs :=
 h.kept fun b hb hv => hg.block b hb (fun e => by have := hn b hv; cases e; omega)
theorem jjc : (Tryz.prog.info? 3).map (fun i => (i.zero, i.size, i.bytes)) = some (some (.int .i64 0), 1, 8) := by kernel_rfl
end Go.Proofs.YtbgbpfbjeleooaaGreat
namespace Go.Proofs.YtbgbpfbjeleooaaGreat
open Go.RowKit
structure Cont where
 d : List Int
 t : List Int
 i : List Int
def jda (a : Atr) : Atr := ⟨a.name, a.kind, a.f, a.i, a.s, a.ty, ⟨none, 0, 0⟩, ⟨none, 0, 0⟩, ⟨none, 0, 0⟩⟩
structure Has (w : World) (a : Atr) (c : Cont) : Prop where
 d : jax w a.dv.v c.d
 t : jax w a.tv.v c.t
 i : jax w a.iv.v c.i
def Apt (u v : Value) : Prop := ∀ k, u.ownBlock = some k → v.ownBlock ≠ some k
structure NewA (n m : Nat) (a : Atr) : Prop where
 d : New n m a.dv.v
 t : New n m a.tv.v
 i : New n m a.iv.v
structure ApA (a : Atr) (v : Value) : Prop where
 d : Apt a.dv.v v
 t : Apt a.tv.v v
 i : Apt a.iv.v v
theorem Has.kept {w w' : World} {a : Atr} {c : Cont} (h : Has w a c) (hk : ∀ b, b < w.heap.size → (a.dv.v.ownBlock = some b ∨ a.tv.v.ownBlock = some b ∨ a.iv.v.ownBlock = some b) → w'.heap[b]? = w.heap[b]?) : Has w' a c :=
 ⟨h.d.kept fun b hb e => hk b hb (Or.inl e), h.t.kept fun b hb e => hk b hb (Or.inr (Or.inl e)), h.i.kept fun b hb e => hk b hb (Or.inr (Or.inr e))⟩
theorem Has.more {w w' : World} {a : Atr} {c : Cont} (h : Has w a c) (hg : w.grownBy w' none) : Has w' a c := ⟨h.d.more hg, h.t.more hg, h.i.more hg⟩
theorem NewA.mono {n m n' m' : Nat} {a : Atr} (h : NewA n m a) (hn : n' ≤ n) (hm : m ≤ m') : NewA n' m' a := ⟨h.d.mono hn hm, h.t.mono hn hm, h.i.mono hn hm⟩
theorem NewA.any {n m : Nat} {a : Atr} (h : NewA n m a) {b : Nat} (e : a.dv.v.ownBlock = some b ∨ a.tv.v.ownBlock = some b ∨ a.iv.v.ownBlock = some b) : n ≤ b ∧ b < m := by
 rcases e with e | e | e
 ·exact h.d b e
 ·exact h.t b e
 ·exact h.i b e
theorem ApA.any {a : Atr} {v : Value} (h : ApA a v) {b : Nat} (e : a.dv.v.ownBlock = some b ∨ a.tv.v.ownBlock = some b ∨ a.iv.v.ownBlock = some b) : v.ownBlock ≠ some b := by
 rcases e with e | e | e
 ·exact h.d b e
 ·exact h.t b e
 ·exact h.i b e
theorem ApA.of {a : Atr} {v : Value} (h : ∀ b, (a.dv.v.ownBlock = some b ∨ a.tv.v.ownBlock = some b ∨ a.iv.v.ownBlock = some b) → v.ownBlock ≠ some b) : ApA a v :=
 ⟨fun b e => h b (Or.inl e), fun b e => h b (Or.inr (Or.inl e)), fun b e => h b (Or.inr (Or.inr e))⟩
structure CInv (W2 : World) (O b2 : Nat) (op nam out : ByteArray) (I : Sl) (xs : List Atr) (cs : List Cont) (k : Nat) (wr : World) (v : Sl) (ys : List Atr) : Prop where
 box : wr.heap[O]? = some (.cells #[.string op, .string nam, .slice I.a I.n I.c, .string out, .slice v.a v.n v.c] 35 (0, 0))
 own : OwnsL 78 9 jbQ wr b2 v.v ys
 len : ys.length = k
 eq : ys.map jda = (xs.take k).map jda
 has : ∀ (j : Nat) (a : Atr) (c : Cont), ys[j]? = some a → cs[j]? = some c → Has wr a c
 new : ∀ a ∈ ys, NewA b2 wr.heap.size a ∧ ApA a v.v
 grown : W2.grownBy wr (some O)
theorem jfW (a : Atr) : (jbQ a).length = 9 := rfl
theorem jiB {xs : List Atr} {k : Nat} (hk : k < xs.length) : (xs.take (k + 1)).map jda = (xs.take k).map jda ++ [jda xs[k]] := by
 rw [List.take_add_one, List.map_append, List.getElem?_eq_getElem hk]
 rfl
theorem CInv.step {W2 : World} {O b2 : Nat} {op nam out : ByteArray} {I : Sl} {xs : List Atr} {cs : List Cont} {k : Nat} {wr W9 : World} {v v' : Sl} {ys : List Atr} {y : Atr} {lo : Nat} (h : CInv W2 O b2 op nam out I xs cs k wr v ys) (hk : k < xs.length) (hO : O < b2) (hW2 : W2.heap.size ≤ b2) (hb2 : b2 ≤ wr.heap.size) (hlo0 : wr.heap.size ≤ lo)
    (kp : ∀ b, b < wr.heap.size → b ≠ O → v.v.ownBlock ≠ some b → W9.heap[b]? = wr.heap[b]?) (hsz : wr.heap.size ≤ W9.heap.size) (hos : W9.os = wr.os) (htp : W9.tape = wr.tape) (hout : W9.output = wr.output)
    (box : W9.heap[O]? = some (.cells #[.string op, .string nam, .slice I.a I.n I.c, .string out, .slice v'.a v'.n v'.c] 35 (0, 0)))
    (own : OwnsL 78 9 jbQ W9 b2 v'.v (ys ++ [y])) (hst : jda y = jda xs[k]) (hy : ∀ c, cs[k]? = some c → Has W9 y c) (hny : NewA wr.heap.size lo y) (hlo : lo ≤ W9.heap.size) (hay : ∀ b, v'.v.ownBlock = some b → v.v.ownBlock = some b ∨ lo ≤ b) : CInv W2 O b2 op nam out I xs cs (k + 1) W9 v' (ys ++ [y]) := by
     have vlt : ∀ b, v.v.ownBlock = some b → b2 ≤ b ∧ b < wr.heap.size := fun b e => World.ownsRow.lt h.own b e
     refine ⟨box, own, by rw [List.length_append, h.len]; rfl, by rw [List.map_append, h.eq, jiB hk]; simp [hst], ?_, ?_, ?_⟩
     ·intro j a c ha hc
      by_cases hj : j < ys.length
      ·rw [List.getElem?_append_left hj] at ha
       have hm := h.new a (List.mem_of_getElem? ha)
       refine (h.has j a c ha hc).kept fun b hb e => kp b hb ?_ (hm.2.any e)
       have := hm.1.any e
       omega
      ·obtain rfl : j = ys.length := by
         have := (List.getElem?_eq_some_iff.1 ha).1
         rw [List.length_append] at this
         simp at this
         omega
       rw [List.getElem?_append_right (Nat.le_refl _), Nat.sub_self] at ha
       obtain rfl : y = a := by simpa using ha
       exact hy c (by rw [← h.len]; exact hc)
     ·intro a ha
      rcases List.mem_append.1 ha with ha | ha
      ·have hm := h.new a ha
       refine ⟨hm.1.mono (Nat.le_refl _) hsz, ApA.of fun b e hv => ?_⟩
       have h1 := hm.1.any e
       rcases hay b hv with h2 | h2
       ·exact hm.2.any e h2
       ·omega
      ·obtain rfl : a = y := by simpa using ha
       refine ⟨hny.mono hb2 hlo, ApA.of fun b e hv => ?_⟩
       have h1 := hny.any e
       rcases hay b hv with h2 | h2
       ·have := vlt b h2; omega
       ·omega
     ·refine ⟨hos.trans h.grown.os, htp.trans h.grown.tape, hout.trans h.grown.output, Nat.le_trans h.grown.size hsz, fun b hb hne => ?_⟩
      refine (kp b (Nat.lt_of_lt_of_le hb h.grown.size) (fun e => hne (by rw [e])) (fun e => ?_)).trans (h.grown.block b hb hne)
      have := vlt b e
      omega
structure Copied (w w' : World) (n : Nod) (ins : List ByteArray) (xs : List Atr) (cs : List Cont) (iv av : Sl) (ys : List Atr) : Prop where
 ins : OwnsL 9 1 ji9 w' w.heap.size iv.v ins
 own : OwnsL 78 9 jbQ w' w.heap.size av.v ys
 eq : ys.map jda = xs.map jda
 has : ∀ (j : Nat) (a : Atr) (c : Cont), ys[j]? = some a → cs[j]? = some c → Has w' a c
 new : ∀ a ∈ ys, NewA w.heap.size w'.heap.size a ∧ ApA a av.v ∧ ApA a iv.v
 apt : Apt iv.v av.v
 grown : w.grownBy w' none
theorem jku : (Tryz.prog.info? 35).map (·.size) = some 5 := by kernel_rfl
theorem jjd {fn : Func} {p : Tmp} (h : fn.results = #[.cell p 35]) (tmps : Array Value) (w : World) (B : Nat) (hp : tmps.getD p undef = .pointer (some ⟨B, 0, none⟩)) {a0 a1 a2 a3 a4 : Value}
    (hb : w.heap[B]? = some (.cells #[a0, a1, a2, a3, a4] 35 (0, 0))) : (results fn tmps).run Tryz.prog w = .ok (.agg #[a0, a1, a2, a3, a4]) w :=
     results_cell_row h tmps w B 35 #[a0, a1, a2, a3, a4] (0, 0) _ hp hb Tryz.underlying35 rfl (by rw [jku]; rfl)
theorem jdT {α : Type} {te : TypeId} {size : Nat} {f : α → List Value} {w w' : World} {base : Nat} {v : Value} {xs : List α} (h : OwnsL te size f w base v xs) (hk : ∀ b, v.ownBlock = some b → w'.heap[b]? = w.heap[b]?) : OwnsL te size f w' base v xs := by
 refine ⟨h.1, ?_⟩
 rcases h.2 with h0 | ⟨g, cap, cur, rfl, hg, hb, r⟩
 ·exact .inl h0
 ·exact .inr ⟨g, cap, cur, rfl, hg, (hk g rfl).trans hb, r⟩
end Go.Proofs.YtbgbpfbjeleooaaGreat
namespace Go.Proofs.YtbgbpfbjeleooaaGreat
open Go.RowKit
structure NodeIn (w : World) (n : Nod) (ins : List ByteArray) (xs : List Atr) (cs : List Cont) : Prop where
 ins : jlo w n.iv.v ins
 av : jhq w n.av.v xs
 has : ∀ (j : Nat) (a : Atr), xs[j]? = some a → ∃ c, cs[j]? = some c ∧ Has w a c
 few : xs.length ≤ 2097152
 short : ∀ a ∈ xs, a.s.size ≤ 1048576
theorem NodeIn.more {w w' : World} {n : Nod} {ins : List ByteArray} {xs : List Atr} {cs : List Cont} (h : NodeIn w n ins xs cs) (hg : w.grownBy w' none) : NodeIn w' n ins xs cs :=
 ⟨h.ins.more hg, h.av.more hg, fun j a e => by obtain ⟨c, e1, e2⟩ := h.has j a e; exact ⟨c, e1, e2.more hg⟩, h.few, h.short⟩
theorem Copied.len {w w' : World} {n : Nod} {ins : List ByteArray} {xs : List Atr} {cs : List Cont} {iv av : Sl} {ys : List Atr} (h : Copied w w' n ins xs cs iv av ys) : ys.length = xs.length := by
 have := congrArg List.length h.eq
 simpa using this
end Go.Proofs.YtbgbpfbjeleooaaGreat
namespace Go.Proofs.YtbgbpfbjeleooaaGreat
open Go.RowKit
structure Val where
 name : ByteArray
 ty : Int
 dv : Sl
def jbp (v : Val) : List Value := [.string v.name, .int .i64 v.ty, .slice v.dv.a v.dv.n v.dv.c]
theorem jcF (v : Val) : (jbp v).length = 3 := rfl
structure Nam where
 name : ByteArray
 ty : Int
 dv : Sl
 tv : Sl
def jb2 (v : Nam) : List Value := [.string v.name, .int .i64 v.ty, .slice v.dv.a v.dv.n v.dv.c, .slice v.tv.a v.tv.n v.tv.c]
theorem jeS (v : Nam) : (jb2 v).length = 4 := rfl
def ncells (n : Nod) : List Value := [.string n.op, .string n.name, .slice n.iv.a n.iv.n n.iv.c, .string n.out, .slice n.av.a n.av.n n.av.c]
theorem jeT (n : Nod) : (ncells n).length = 5 := rfl
abbrev jes (w : World) (v : Value) (xs : List Val) : Prop := IsL 48 3 jbp w v xs
abbrev jje (w : World) (v : Value) (xs : List Nam) : Prop := IsL 72 4 jb2 w v xs
abbrev jjf (w : World) (v : Value) (xs : List Nod) : Prop := IsL 96 5 ncells w v xs
theorem IsL.val {w : World} {b off len cap : Nat} {xs : List Val} (h : IsL 48 3 jbp w (.slice (some ⟨b, off, none⟩) len cap) xs) (k : Nat) (hk : k < xs.length) :
    w.cell? ⟨b, off + k * 3, none⟩ = some (.string xs[k].name) ∧ w.cell? ⟨b, off + k * 3 + 1, none⟩ = some (.int .i64 xs[k].ty) ∧ w.cell? ⟨b, off + k * 3 + 2, none⟩ = some (.slice xs[k].dv.a xs[k].dv.n xs[k].dv.c) :=
     ⟨h.at k hk 0 (by omega), h.at k hk 1 (by omega), h.at k hk 2 (by omega)⟩
theorem IsL.nam {w : World} {b off len cap : Nat} {xs : List Nam} (h : IsL 72 4 jb2 w (.slice (some ⟨b, off, none⟩) len cap) xs) (k : Nat) (hk : k < xs.length) :
    w.cell? ⟨b, off + k * 4, none⟩ = some (.string xs[k].name) ∧ w.cell? ⟨b, off + k * 4 + 1, none⟩ = some (.int .i64 xs[k].ty) ∧ w.cell? ⟨b, off + k * 4 + 2, none⟩ = some (.slice xs[k].dv.a xs[k].dv.n xs[k].dv.c) ∧ w.cell? ⟨b, off + k * 4 + 3, none⟩ = some (.slice xs[k].tv.a xs[k].tv.n xs[k].tv.c) :=
     ⟨h.at k hk 0 (by omega), h.at k hk 1 (by omega), h.at k hk 2 (by omega), h.at k hk 3 (by omega)⟩
theorem IsL.nod {w : World} {b off len cap : Nat} {xs : List Nod} (h : IsL 96 5 ncells w (.slice (some ⟨b, off, none⟩) len cap) xs) (k : Nat) (hk : k < xs.length) :
    w.cell? ⟨b, off + k * 5, none⟩ = some (.string xs[k].op) ∧ w.cell? ⟨b, off + k * 5 + 1, none⟩ = some (.string xs[k].name) ∧ w.cell? ⟨b, off + k * 5 + 2, none⟩ = some (.slice xs[k].iv.a xs[k].iv.n xs[k].iv.c) ∧ w.cell? ⟨b, off + k * 5 + 3, none⟩ = some (.string xs[k].out) ∧ w.cell? ⟨b, off + k * 5 + 4, none⟩ = some (.slice xs[k].av.a xs[k].av.n xs[k].av.c) :=
     ⟨h.at k hk 0 (by omega), h.at k hk 1 (by omega), h.at k hk 2 (by omega), h.at k hk 3 (by omega), h.at k hk 4 (by omega)⟩
structure Gra where
 name : ByteArray
 nv : Sl
 iv : Sl
 ov : Sl
 tv : Sl
def jdb (g : Gra) : Value := .agg #[.string g.name, .slice g.nv.a g.nv.n g.nv.c, .slice g.iv.a g.iv.n g.iv.c, .slice g.ov.a g.ov.n g.ov.c, .slice g.tv.a g.tv.n g.tv.c]
theorem jb3 {w : World} {B : Nat} {g : Gra} {t : TypeId} (hb : w.heap[B]? = some (.cells #[.string g.name, .slice g.nv.a g.nv.n g.nv.c, .slice g.iv.a g.iv.n g.iv.c, .slice g.ov.a g.ov.n g.ov.c, .slice g.tv.a g.tv.n g.tv.c] t (0, 0))) :
    w.cell? ⟨B, 0, none⟩ = some (.string g.name) ∧ w.cell? ⟨B, 1, none⟩ = some (.slice g.nv.a g.nv.n g.nv.c) ∧ w.cell? ⟨B, 2, none⟩ = some (.slice g.iv.a g.iv.n g.iv.c) ∧ w.cell? ⟨B, 3, none⟩ = some (.slice g.ov.a g.ov.n g.ov.c) ∧ w.cell? ⟨B, 4, none⟩ = some (.slice g.tv.a g.tv.n g.tv.c) :=
     ⟨(cell_of_row _ _ 0 _ _ (0, 0) hb).trans rfl, (cell_of_row _ _ 1 _ _ (0, 0) hb).trans rfl, (cell_of_row _ _ 2 _ _ (0, 0) hb).trans rfl, (cell_of_row _ _ 3 _ _ (0, 0) hb).trans rfl, (cell_of_row _ _ 4 _ _ (0, 0) hb).trans rfl⟩
structure Nc where
 n : Nod
 ins : List ByteArray
 xs : List Atr
 cs : List Cont
structure GraphIn (w : World) (g : Gra) (nds : List Nc) (vin vout : List (Val × List Int)) (its : List (Nam × List Int × List Int)) : Prop where
 nodes : jjf w g.nv.v (nds.map (·.n))
 ins : jes w g.iv.v (vin.map (·.1))
 outs : jes w g.ov.v (vout.map (·.1))
 inits : jje w g.tv.v (its.map (·.1))
 node : ∀ c ∈ nds, NodeIn w c.n c.ins c.xs c.cs
 din : ∀ p ∈ vin, jax w p.1.dv.v p.2
 dout : ∀ p ∈ vout, jax w p.1.dv.v p.2
 dinit : ∀ p ∈ its, jax w p.1.dv.v p.2.1 ∧ jax w p.1.tv.v p.2.2
 short : ∀ p ∈ vin, p.1.name.size ≤ 1048576
 few : nds.length ≤ 1048576 ∧ vin.length ≤ 1048576 ∧ vout.length ≤ 1048576 ∧ its.length ≤ 1048576
theorem GraphIn.more {w w' : World} {g : Gra} {nds : List Nc} {vin vout : List (Val × List Int)} {its : List (Nam × List Int × List Int)} (h : GraphIn w g nds vin vout its) (hg : w.grownBy w' none) : GraphIn w' g nds vin vout its :=
 ⟨h.nodes.more hg, h.ins.more hg, h.outs.more hg, h.inits.more hg, fun c hc => (h.node c hc).more hg, fun p hp => (h.din p hp).more hg, fun p hp => (h.dout p hp).more hg, fun p hp => ⟨(h.dinit p hp).1.more hg, (h.dinit p hp).2.more hg⟩, h.short, h.few⟩
end Go.Proofs.YtbgbpfbjeleooaaGreat
namespace Go.Proofs.YtbgbpfbjeleooaaGreat
open Go.RowKit
structure OwnD {α β : Type} (te : TypeId) (size : Nat) (f : α → List Value) (H : World → α → β → Prop) (foot : α → β → Nat → Prop) (w : World) (lo hi : Nat) (v : Value) (ps : List (α × β)) : Prop where
 own : OwnsL te size f w lo v (ps.map (·.1))
 row : ∀ b, v.ownBlock = some b → b < hi
 has : ∀ p ∈ ps, H w p.1 p.2
 new : ∀ p ∈ ps, ∀ b, foot p.1 p.2 b → lo ≤ b ∧ b < hi ∧ v.ownBlock ≠ some b
 le : hi ≤ w.heap.size
def jjg {α β : Type} (H : World → α → β → Prop) (foot : α → β → Nat → Prop) : Prop := ∀ (w w' : World) (a : α) (c : β), H w a c → (∀ b, b < w.heap.size → foot a c b → w'.heap[b]? = w.heap[b]?) → H w' a c
section
variable {α β : Type} {te : TypeId} {size : Nat} {f : α → List Value} {H : World → α → β → Prop} {foot : α → β → Nat → Prop}
theorem OwnD.nil {w : World} {lo hi : Nat} (h : hi ≤ w.heap.size) : OwnD te size f H foot w lo hi (.slice none 0 0) [] :=
 ⟨OwnsL.nil .., (fun b e => by simp [Value.ownBlock] at e), (fun p hp => by cases hp), (fun p hp => by cases hp), h⟩
theorem OwnD.kept {w w' : World} {lo hi : Nat} {v : Value} {ps : List (α × β)} (HK : jjg H foot) (h : OwnD te size f H foot w lo hi v ps) (hs : hi ≤ w'.heap.size) (hk : ∀ b, lo ≤ b → b < hi → w'.heap[b]? = w.heap[b]?) : OwnD te size f H foot w' lo hi v ps :=
 ⟨jdT h.own (fun b e => hk b (World.ownsRow.lt h.own b e).1 (h.row b e)), h.row, fun p hp => HK _ _ _ _ (h.has p hp) (fun b _ e => have k := h.new p hp b e; hk b k.1 k.2.1), h.new, hs⟩
theorem OwnD.past {w w' : World} {lo hi : Nat} {v : Value} {ps : List (α × β)} {row : Option Nat} (HK : jjg H foot) (h : OwnD te size f H foot w lo hi v ps) (hg : w.grownBy w' row) (hr : ∀ g, row = some g → g < lo ∨ hi ≤ g) : OwnD te size f H foot w' lo hi v ps :=
 h.kept HK (Nat.le_trans h.le hg.size) fun b h1 h2 => hg.block b (Nat.lt_of_lt_of_le h2 h.le) (fun e => by have := hr b e.symm; omega)
theorem OwnD.more {w w' : World} {lo hi : Nat} {v : Value} {ps : List (α × β)} (HK : jjg H foot) (h : OwnD te size f H foot w lo hi v ps) (hg : w.grownBy w' none) : OwnD te size f H foot w' lo hi v ps := h.past HK hg (by simp)
theorem OwnD.wide {w : World} {lo hi lo' hi' : Nat} {v : Value} {ps : List (α × β)} (h : OwnD te size f H foot w lo hi v ps) (hl : lo' ≤ lo) (hh : hi ≤ hi') (hw : hi' ≤ w.heap.size) : OwnD te size f H foot w lo' hi' v ps :=
 ⟨h.own.base_le hl, fun b e => Nat.lt_of_lt_of_le (h.row b e) hh, h.has, fun p hp b e => have k := h.new p hp b e; ⟨Nat.le_trans hl k.1, Nat.lt_of_lt_of_le k.2.1 hh, k.2.2⟩, hw⟩
theorem OwnD.snoc {w W w' : World} {lo hi g n cap : Nat} {v : Value} {ps : List (α × β)} {y : α} {c : β} (HK : jjg H foot) (h : OwnD te size f H foot w lo hi v ps) (hb : lo ≤ w.heap.size) (hg : w.grownBy W none) (hgr : W.grownBy w' v.ownBlock) (hat : v.ownBlock = some g ∨ g = W.heap.size)
    (own' : OwnsL te size f w' lo (.slice (some ⟨g, 0, none⟩) n cap) (ps.map (·.1) ++ [y])) (hy : H W y c) (fy : ∀ b, foot y c b → w.heap.size ≤ b ∧ b < W.heap.size) : OwnD te size f H foot w' lo w'.heap.size (.slice (some ⟨g, 0, none⟩) n cap) (ps ++ [(y, c)]) := by
     have vlt : ∀ b, v.ownBlock = some b → lo ≤ b ∧ b < w.heap.size := fun b e => World.ownsRow.lt h.own b e
     have s0 := h.le
     have s1 := hg.size
     have s2 := hgr.size
     have og : ∀ b, (Value.slice (some ⟨g, 0, none⟩) n cap).ownBlock = some b → g = b := fun b e => by simpa [Value.ownBlock] using e
     refine ⟨by rw [List.map_append]; exact own', fun b e => (World.ownsRow.lt own' b e).2, fun p hp => ?_, fun p hp b e => ?_, Nat.le_refl _⟩
     ·rcases List.mem_append.1 hp with hp | hp
      ·exact HK _ _ _ _ (h.has p hp) fun b hb e => (hgr.block b (by omega) (fun e2 => (h.new p hp b e).2.2 e2.symm)).trans (hg.block b hb (by simp))
      ·obtain rfl : p = (y, c) := by simpa using hp
       exact HK _ _ _ _ hy fun b hb e => hgr.block b hb (fun e2 => by have := vlt b e2.symm; have := fy b e; omega)
     ·rcases List.mem_append.1 hp with hp | hp
      ·have k := h.new p hp b e
       refine ⟨k.1, by omega, fun e2 => ?_⟩
       have e3 := og b e2
       subst e3
       rcases hat with h2 | h2
       ·exact k.2.2 h2
       ·omega
      ·obtain rfl : p = (y, c) := by simpa using hp
       have k := fy b e
       refine ⟨by omega, by omega, fun e2 => ?_⟩
       have e3 := og b e2
       subst e3
       rcases hat with h2 | h2
       ·have := vlt _ h2; omega
       ·omega
end
def jiX (w : World) (v : Val) (ds : List Int) : Prop := jax w v.dv.v ds
def jdz (v : Val) (_ : List Int) (b : Nat) : Prop := v.dv.v.ownBlock = some b
theorem jbI : jjg jiX jdz := fun _ _ _ _ h hk => jax.kept h fun b hb e => hk b hb e
def jlp (w : World) (v : Nam) (q : List Int × List Int) : Prop := jax w v.dv.v q.1 ∧ jax w v.tv.v q.2
def jfS (v : Nam) (_ : List Int × List Int) (b : Nat) : Prop := v.dv.v.ownBlock = some b ∨ v.tv.v.ownBlock = some b
theorem jcL : jjg jlp jfS := fun _ _ _ _ h hk => ⟨h.1.kept fun b hb e => hk b hb (Or.inl e), h.2.kept fun b hb e => hk b hb (Or.inr e)⟩
structure Ni where
 ins : List ByteArray
 xs : List Atr
 cs : List Cont
def jlq (w : World) (n : Nod) (q : Ni) : Prop := NodeIn w n q.ins q.xs q.cs
def jet (n : Nod) (q : Ni) (b : Nat) : Prop := n.iv.v.ownBlock = some b ∨ n.av.v.ownBlock = some b ∨ ∃ a ∈ q.xs, a.dv.v.ownBlock = some b ∨ a.tv.v.ownBlock = some b ∨ a.iv.v.ownBlock = some b
theorem jdn : jjg jlq jet := fun _ _ _ _ h hk => ⟨h.ins.kept fun b hb e => hk b hb (Or.inl e), h.av.kept fun b hb e => hk b hb (Or.inr (Or.inl e)), fun j a e => by
 obtain ⟨c, e1, e2⟩ := h.has j a e
 exact ⟨c, e1, e2.kept fun b hb e3 => hk b hb (Or.inr (Or.inr ⟨a, List.mem_of_getElem? e, e3⟩))⟩, h.few, h.short⟩
abbrev OwnVals (w : World) (lo hi : Nat) (v : Value) (ps : List (Val × List Int)) : Prop := OwnD 82 3 jbp jiX jdz w lo hi v ps
abbrev jlQ (w : World) (lo hi : Nat) (v : Value) (ps : List (Nam × List Int × List Int)) : Prop := OwnD 67 4 jb2 jlp jfS w lo hi v ps
abbrev jlR (w : World) (lo hi : Nat) (v : Value) (ps : List (Nod × Ni)) : Prop := OwnD 35 5 ncells jlq jet w lo hi v ps
end Go.Proofs.YtbgbpfbjeleooaaGreat
namespace Go.Proofs.YtbgbpfbjeleooaaGreat
open Go.RowKit
theorem jcG {w : World} {a : Option Addr} {l c : Nat} {zs : List Int} (h : jax w (.slice a l c) zs) {k : Nat} (hk : k < zs.length) : ∃ b off, a = some ⟨b, off, none⟩ ∧ w.cell? ⟨b, off + k, none⟩ = some (.int .i64 (zs.getD k 0)) := by
 obtain ⟨ao, cap, e, h1, h2, h3, h4, h5, h6⟩ := h
 cases e
 obtain ⟨b, off, rfl, hc⟩ := h5 (by omega)
 exact ⟨b, off, rfl, hc k hk⟩
theorem jfr (u v : Value) (xs : List Int) (w : World) (hu : jax w u xs) (hv : jax w v xs) :
    Calls Tryz.prog 62 #[u, v] w fun e w' => e = .returned (.bool true) ∧ w.grownBy w' none := by
     have HU := jac hu
     have HV := jac hv
     obtain ⟨ua, uc, rfl, h1, h2, h3, -⟩ := hu
     obtain ⟨va, vc, rfl, k1, k2, k3, -⟩ := hv
     go_enter Tryz.func62, Tryz.ntmps62
     go_wp2
     go_loopw [5] (fun i wr => w.grownBy wr none ∧ ∃ k : Nat, k ≤ xs.length ∧ i = .int .i64 k) (fun i _ => xs.length - (intOf i).toNat)
     case atStart => exact ⟨jae _, 0, Nat.zero_le _, rfl⟩
     case round =>
      obtain ⟨hg, k, hk, rfl⟩ := hrel
      by_cases hlt : k < xs.length
      ·obtain ⟨ub, uo, rfl, a0⟩ := jcG (HU.out.more hg) hlt
       obtain ⟨vb, vo, rfl, b0⟩ := jcG (HV.out.more hg) hlt
       obtain ⟨X, hX⟩ : ∃ X, X = xs.getD k 0 := ⟨_, rfl⟩
       rw [← hX] at a0 b0
       clear hX
       go_wp2
       go_region
       all_goals
        go_wp2
        go_roundw
        case rel => exact ⟨jaU hg, k + 1, by omega, by go_num⟩
        case measure => simp [intOf]; omega
      ·go_wp2
       go_ret
       exact ⟨rfl, hg⟩
theorem jfX (ty : Int) (d t d' t' : Value) (ds ts : List Int) (w : World) (hd : jax w d ds) (ht : jax w t ts) (hd' : jax w d' ds) (ht' : jax w t' ts) :
    Calls Tryz.prog 31 #[.agg #[.int .i64 ty, d, t], .agg #[.int .i64 ty, d', t']] w fun e w' => e = .returned (.bool true) ∧ w.grownBy w' none := by
     have HD := jac hd
     have HD' := jac hd'
     have HT := jac ht
     have HT' := jac ht'
     obtain ⟨da, dc, rfl, -⟩ := hd
     obtain ⟨ea, ec, rfl, -⟩ := hd'
     obtain ⟨ua, uc, rfl, h1, h2, h3, -⟩ := ht
     obtain ⟨va, vc, rfl, k1, k2, k3, -⟩ := ht'
     obtain ⟨w0, hw0⟩ : ∃ w0, w0 = (w.alloc (.cells #[.int .i64 ty, .slice da ds.length dc, .slice ua ts.length uc] 44)).alloc (.cells #[.int .i64 ty, .slice ea ds.length ec, .slice va ts.length vc] 44) := ⟨_, rfl⟩
     have g0 : w.grownBy w0 none := by rw [hw0]; exact jaa (jab _ _) (jab _ _)
     have hbx := jeq w (.cells #[.int .i64 ty, .slice da ds.length dc, .slice ua ts.length uc] 44) (.cells #[.int .i64 ty, .slice ea ds.length ec, .slice va ts.length vc] 44)
     have hbx0 := hbx
     rw [← hw0] at hbx
     have B1 : Hid (∀ wx, w0.grownBy wx none → wx.heap[w.heap.size]? = some (.cells #[.int .i64 ty, .slice da ds.length dc, .slice ua ts.length uc] 44 (0, 0))) := fun wx hg => jag hbx.1 hg
     have B2 : Hid (∀ wx, w0.grownBy wx none → wx.heap[w.heap.size + 1]? = some (.cells #[.int .i64 ty, .slice ea ds.length ec, .slice va ts.length vc] 44 (0, 0))) := fun wx hg => jag hbx.2 hg
     obtain ⟨a0, a1, a2⟩ := jcJ hbx0.1
     obtain ⟨b0, b1, b2⟩ := jcJ hbx0.2
     clear hbx hbx0
     go_enter Tryz.func31, Tryz.ntmps31
     go_wp2_with fail
     rw [← hw0]
     clear hw0 a0 a1 a2 b0 b1 b2
     refine (jfr _ _ ds w0 (HD.out.more g0) (HD'.out.more g0)).mono ?_
     rintro e w1 ⟨rfl, hg1⟩
     obtain ⟨a0, a1, a2⟩ := jcJ (B1.out w1 hg1)
     obtain ⟨b0, b1, b2⟩ := jcJ (B2.out w1 hg1)
     go_wp2_with fail
     clear a0 a1 a2 b0 b1 b2
     go_loopw [5] (fun i wr => w0.grownBy wr none ∧ ∃ k : Nat, k ≤ ts.length ∧ i = .int .i64 k) (fun i _ => ts.length - (intOf i).toNat)
     case atStart => exact ⟨hg1, 0, Nat.zero_le _, rfl⟩
     case round =>
      obtain ⟨hg, k, hk, rfl⟩ := hrel
      obtain ⟨a0, a1, a2⟩ := jcJ (B1.out wr hg)
      obtain ⟨b0, b1, b2⟩ := jcJ (B2.out wr hg)
      by_cases hlt : k < ts.length
      ·obtain ⟨ub, uo, rfl, x0⟩ := jcG (HT.out.more (jaa g0 hg)) hlt
       obtain ⟨vb, vo, rfl, y0⟩ := jcG (HT'.out.more (jaa g0 hg)) hlt
       obtain ⟨X, hX⟩ : ∃ X, X = ts.getD k 0 := ⟨_, rfl⟩
       rw [← hX] at x0 y0
       clear hX
       go_wp2
       go_region
       all_goals
        go_wp2
        go_roundw
        case rel => exact ⟨jaU hg, k + 1, by omega, by go_num⟩
        case measure => simp [intOf]; omega
      ·go_wp2
       go_ret
       exact ⟨rfl, jaa g0 hg⟩
theorem jhr (A D : Atr) (c : Cont) (w : World) (he : jda A = jda D) (ha : Has w A c) (hb : Has w D c) :
    Calls Tryz.prog 63 #[jcu A, jcu D] w fun e w' => e = .returned (.bool true) ∧ w.grownBy w' none := by
     have HA := jac ha
     have HB := jac hb
     have vd : jcu D = .agg #[.string A.name, .int .i64 A.kind, .int .i64 A.f, .int .i64 A.i, .string A.s, .int .i64 A.ty, .slice D.dv.a D.dv.n D.dv.c, .slice D.tv.a D.tv.n D.tv.c, .slice D.iv.a D.iv.n D.iv.c] := by
      obtain ⟨d0, d1, d2, d3, d4, d5, d6, d7, d8⟩ := D
      obtain ⟨a0, a1, a2, a3, a4, a5, a6, a7, a8⟩ := A
      simp only [jda, Atr.mk.injEq] at he
      obtain ⟨rfl, rfl, rfl, rfl, rfl, rfl, -⟩ := he
      rfl
     rw [vd]
     unfold jcu
     have hai := ha.i
     have hbi := hb.i
     obtain ⟨ia, icp, ei, h1, h2, h3, -⟩ := hai
     obtain ⟨ja, jcp, ej, k1, k2, k3, -⟩ := hbi
     simp only [Sl.v, Value.slice.injEq] at ei ej
     have en := ei.2.1
     have em := ej.2.1
     obtain ⟨w0, hw0⟩ : ∃ w0, w0 = (w.alloc (.cells #[.string A.name, .int .i64 A.kind, .int .i64 A.f, .int .i64 A.i, .string A.s, .int .i64 A.ty, .slice A.dv.a A.dv.n A.dv.c, .slice A.tv.a A.tv.n A.tv.c, .slice A.iv.a A.iv.n A.iv.c] 78)).alloc (.cells #[.string A.name, .int .i64 A.kind, .int .i64 A.f, .int .i64 A.i, .string A.s, .int .i64 A.ty, .slice D.dv.a D.dv.n D.dv.c, .slice D.tv.a D.tv.n D.tv.c, .slice D.iv.a D.iv.n D.iv.c] 78) := ⟨_, rfl⟩
     have g0 : w.grownBy w0 none := by rw [hw0]; exact jaa (jab _ _) (jab _ _)
     have hbx := jeq w (.cells #[.string A.name, .int .i64 A.kind, .int .i64 A.f, .int .i64 A.i, .string A.s, .int .i64 A.ty, .slice A.dv.a A.dv.n A.dv.c, .slice A.tv.a A.tv.n A.tv.c, .slice A.iv.a A.iv.n A.iv.c] 78) (.cells #[.string A.name, .int .i64 A.kind, .int .i64 A.f, .int .i64 A.i, .string A.s, .int .i64 A.ty, .slice D.dv.a D.dv.n D.dv.c, .slice D.tv.a D.tv.n D.tv.c, .slice D.iv.a D.iv.n D.iv.c] 78)
     have hbx0 := hbx
     rw [← hw0] at hbx
     have B1 : Hid (∀ wx, w0.grownBy wx none → wx.heap[w.heap.size]? = some (.cells #[.string A.name, .int .i64 A.kind, .int .i64 A.f, .int .i64 A.i, .string A.s, .int .i64 A.ty, .slice A.dv.a A.dv.n A.dv.c, .slice A.tv.a A.tv.n A.tv.c, .slice A.iv.a A.iv.n A.iv.c] 78 (0, 0))) := fun wx hg => jag hbx.1 hg
     have B2 : Hid (∀ wx, w0.grownBy wx none → wx.heap[w.heap.size + 1]? = some (.cells #[.string A.name, .int .i64 A.kind, .int .i64 A.f, .int .i64 A.i, .string A.s, .int .i64 A.ty, .slice D.dv.a D.dv.n D.dv.c, .slice D.tv.a D.tv.n D.tv.c, .slice D.iv.a D.iv.n D.iv.c] 78 (0, 0))) := fun wx hg => jag hbx.2 hg
     obtain ⟨a0, a1, a2, a3, a4, a5, a6, a7, a8⟩ := jc9 (a := A) hbx0.1
     obtain ⟨b0, b1, b2, b3, b4, b5, b6, b7, b8⟩ := jc9 (a := ⟨A.name, A.kind, A.f, A.i, A.s, A.ty, D.dv, D.tv, D.iv⟩) hbx0.2
     have ST := jac (jfX A.ty A.dv.v A.tv.v D.dv.v D.tv.v c.d c.t w0 (ha.d.more g0) (ha.t.more g0) (hb.d.more g0) (hb.t.more g0))
     clear hbx hbx0 ha hb he vd ei ej
     rw [en] at a8 B1
     rw [em] at b8 B2
     rw [en, em]
     rw [en, em] at hw0
     clear en em
     go_enter Tryz.func63, Tryz.ntmps63
     go_wp2_with fail
     rw [← hw0]
     clear hw0 a0 a1 a2 a3 a4 a5 a6 a7 a8 b0 b1 b2 b3 b4 b5 b6 b7 b8
     refine ST.out.mono ?_
     rintro e w1 ⟨rfl, hg1⟩
     obtain ⟨a0, a1, a2, a3, a4, a5, a6, a7, a8⟩ := jc9 (a := ⟨A.name, A.kind, A.f, A.i, A.s, A.ty, A.dv, A.tv, ⟨A.iv.a, c.i.length, A.iv.c⟩⟩) (B1.out w1 hg1)
     obtain ⟨b0, b1, b2, b3, b4, b5, b6, b7, b8⟩ := jc9 (a := ⟨A.name, A.kind, A.f, A.i, A.s, A.ty, D.dv, D.tv, ⟨D.iv.a, c.i.length, D.iv.c⟩⟩) (B2.out w1 hg1)
     go_wp2_with fail
     clear a0 a1 a2 a3 a4 a5 a6 a7 a8 b0 b1 b2 b3 b4 b5 b6 b7 b8
     go_loopw [5] (fun i wr => w0.grownBy wr none ∧ ∃ k : Nat, k ≤ c.i.length ∧ i = .int .i64 k) (fun i _ => c.i.length - (intOf i).toNat)
     case atStart => exact ⟨hg1, 0, Nat.zero_le _, rfl⟩
     case round =>
      obtain ⟨hg, k, hk, rfl⟩ := hrel
      obtain ⟨a0, a1, a2, a3, a4, a5, a6, a7, a8⟩ := jc9 (a := ⟨A.name, A.kind, A.f, A.i, A.s, A.ty, A.dv, A.tv, ⟨A.iv.a, c.i.length, A.iv.c⟩⟩) (B1.out wr hg)
      obtain ⟨b0, b1, b2, b3, b4, b5, b6, b7, b8⟩ := jc9 (a := ⟨A.name, A.kind, A.f, A.i, A.s, A.ty, D.dv, D.tv, ⟨D.iv.a, c.i.length, D.iv.c⟩⟩) (B2.out wr hg)
      simp only at a8 b8
      by_cases hlt : k < c.i.length
      ·obtain ⟨ub, uo, ea, x0⟩ := jcG (HA.out.i.more (jaa g0 hg)) hlt
       obtain ⟨vb, vo, eb, y0⟩ := jcG (HB.out.i.more (jaa g0 hg)) hlt
       rw [ea] at a8
       rw [eb] at b8
       obtain ⟨X, hX⟩ : ∃ X, X = c.i.getD k 0 := ⟨_, rfl⟩
       rw [← hX] at x0 y0
       clear hX ea eb
       go_wp2
       go_region
       all_goals
        go_wp2
        go_roundw
        case rel => exact ⟨jaU hg, k + 1, by omega, by go_num⟩
        case measure => simp [intOf]; omega
      ·go_wp2
       go_ret
       exact ⟨rfl, jaa g0 hg⟩
end Go.Proofs.YtbgbpfbjeleooaaGreat
namespace Go.Proofs.YtbgbpfbjeleooaaGreat
open Go.RowKit
structure NodeIn0 (w : World) (n : Nod) (ins : List ByteArray) (xs : List Atr) (cs : List Cont) : Prop where
 ins : jlo w n.iv.v ins
 av : jhq w n.av.v xs
 has : ∀ (j : Nat) (a : Atr), xs[j]? = some a → ∃ c, cs[j]? = some c ∧ Has w a c
theorem NodeIn0.more {w w' : World} {n : Nod} {ins : List ByteArray} {xs : List Atr} {cs : List Cont} (h : NodeIn0 w n ins xs cs) (hg : w.grownBy w' none) : NodeIn0 w' n ins xs cs :=
 ⟨h.ins.more hg, h.av.more hg, fun j a e => by obtain ⟨c, e1, e2⟩ := h.has j a e; exact ⟨c, e1, e2.more hg⟩⟩
theorem NodeIn0.kept {w w' : World} {n : Nod} {ins : List ByteArray} {xs : List Atr} {cs : List Cont} (h : NodeIn0 w n ins xs cs) (kp : ∀ b, b < w.heap.size → w'.heap[b]? = w.heap[b]?) : NodeIn0 w' n ins xs cs :=
 ⟨h.ins.kept fun b hb _ => kp b hb, h.av.kept fun b hb _ => kp b hb, fun j a e => by obtain ⟨c, e1, e2⟩ := h.has j a e; exact ⟨c, e1, e2.kept fun b hb _ => kp b hb⟩⟩
end Go.Proofs.YtbgbpfbjeleooaaGreat
namespace Go.Proofs.YtbgbpfbjeleooaaGreat
open Go.RowKit
abbrev jmj : Sl := ⟨none, 0, 0⟩
theorem jfd {α : Type} {te : TypeId} {size bytes : Nat} {f : α → List Value} (hf : ∀ a, (f a).length = size) {w : World} {B : Nat} {xs : List α} {cur : Array Value} (hb : w.heap[B]? = some (.cells cur te (0, 0))) (hc : cur.toList = xs.flatMap f) (hs : cur.size = xs.length * size) (hl : xs.length * bytes ≤ 140737488351232) (hm : xs.length ≤ 1048576) :
    IsL bytes size f w (.slice (some ⟨B, 0, none⟩) xs.length xs.length) xs := by
     refine OwnsL.isL (te := te) (base := 0) hf ?_ hl
     refine ⟨by rw [← hc, Array.length_toList, hs], Or.inr ⟨B, xs.length, cur, rfl, Nat.zero_le _, hb, Nat.le_refl _, by simp only [maxLen]; omega, hs, ?_⟩⟩
     rw [hc, List.take_of_length_le (by rw [← hc, Array.length_toList, hs]; exact Nat.le_refl _)]
end Go.Proofs.YtbgbpfbjeleooaaGreat
namespace Go.Proofs.YtbgbpfbjeleooaaGreat
open Go.RowKit
def jkh (p : Val × List Int) : ByteArray × Int × List Int := (p.1.name, p.1.ty, p.2)
def jkv (p : Nam × List Int × List Int) : ByteArray × Int × List Int × List Int := (p.1.name, p.1.ty, p.2)
theorem jgL {α κ : Type} (f : α → κ) {xs : List α} {k : Nat} {x : α} (hk : xs[k]? = some x) : (xs.take (k + 1)).map f = (xs.take k).map f ++ [f x] := by
 rw [List.take_add_one, List.map_append, hk]
 rfl
theorem jhs {α : Type} {te : TypeId} {size n : Nat} {f : α → List Value} {w : World} {base : Nat} {v : Value} {xs : List α} {y : α} (hn : xs.length = n) (h : w.ownsRow base te size v (n + 1) (xs.flatMap f ++ f y)) : OwnsL te size f w base v (xs ++ [y]) := by
 subst hn
 unfold OwnsL
 rw [List.length_append, List.flatMap_append]
 simpa using h
end Go.Proofs.YtbgbpfbjeleooaaGreat
namespace Go.Proofs.YtbgbpfbjeleooaaGreat
open Go.RowKit
theorem six (w : World) (a b c d e f : Obj) : ∀ W, W = (((((w.alloc a).alloc b).alloc c).alloc d).alloc e).alloc f →
    W.heap[w.heap.size]? = some a ∧ W.heap[w.heap.size + 1]? = some b ∧ W.heap[w.heap.size + 1 + 1]? = some c ∧ W.heap[w.heap.size + 1 + 1 + 1]? = some d ∧ W.heap[w.heap.size + 1 + 1 + 1 + 1]? = some e ∧ W.heap[w.heap.size + 1 + 1 + 1 + 1 + 1]? = some f ∧ w.grownBy W none := by
     rintro W rfl
     have z : ∀ (x : World) (o : Obj), (x.alloc o).heap.size = x.heap.size + 1 := fun x o => by simp
     have k1 := heap_alloc_new w a
     have k2 := heap_alloc_new (w.alloc a) b
     have k3 := heap_alloc_new ((w.alloc a).alloc b) c
     have k4 := heap_alloc_new (((w.alloc a).alloc b).alloc c) d
     have k5 := heap_alloc_new ((((w.alloc a).alloc b).alloc c).alloc d) e
     have k6 := heap_alloc_new (((((w.alloc a).alloc b).alloc c).alloc d).alloc e) f
     rw [z] at k2
     rw [z, z] at k3
     rw [z, z, z] at k4
     rw [z, z, z, z] at k5
     rw [z, z, z, z, z] at k6
     have up : ∀ {x : World} {i : Nat} {o : Obj} (p : Obj), x.heap[i]? = some o → (x.alloc p).heap[i]? = some o := fun {x i o} p h => ((jab x p).block i (Array.getElem?_eq_some_iff.1 h).1 (by simp)).trans h
     exact ⟨up _ (up _ (up _ (up _ (up _ k1)))), up _ (up _ (up _ (up _ k2))), up _ (up _ (up _ k3)), up _ (up _ k4), up _ k5, k6, jaa (jaa (jaa (jaa (jaa (jab _ _) (jab _ _)) (jab _ _)) (jab _ _)) (jab _ _)) (jab _ _)⟩
theorem jlS : (Tryz.prog.info? 27).map (·.size) = some 5 := by kernel_rfl
theorem jfs {fn : Func} {p : Tmp} (h : fn.results = #[.cell p 27]) (tmps : Array Value) (w : World) (B : Nat) (hp : tmps.getD p undef = .pointer (some ⟨B, 0, none⟩)) {a0 a1 a2 a3 a4 : Value}
    (hb : w.heap[B]? = some (.cells #[a0, a1, a2, a3, a4] 27 (0, 0))) : (results fn tmps).run Tryz.prog w = .ok (.agg #[a0, a1, a2, a3, a4]) w :=
     results_cell_row h tmps w B 27 #[a0, a1, a2, a3, a4] (0, 0) _ hp hb Tryz.underlying27 rfl (by rw [jlS]; rfl)
theorem jeb {a b c : World} {row : Option Nat} (h : a.grownBy b row) {r' : Option Nat} (k : b.grownBy c r') (hr : ∀ g, r' = some g → a.heap.size ≤ g) : a.grownBy c row :=
 ⟨k.os.trans h.os, k.tape.trans h.tape, k.output.trans h.output, Nat.le_trans h.size k.size, fun i hi hne => (k.block i (Nat.lt_of_lt_of_le hi h.size) (fun e => by have := hr i e.symm; omega)).trans (h.block i hi hne)⟩
end Go.Proofs.YtbgbpfbjeleooaaGreat
namespace Go.Proofs.YtbgbpfbjeleooaaGreat
open Go.RowKit
def jkw (p : Nod × Ni) : Nc := ⟨p.1, p.2.ins, p.2.xs, p.2.cs⟩
def jki (c : Nc) : ByteArray × ByteArray × List ByteArray × ByteArray × List Atr × List Cont := (c.n.op, c.n.name, c.ins, c.n.out, c.xs.map jda, c.cs)
def jmk (ms : List (Nod × Ni)) : Prop := ∀ (i j : Nat) (p q : Nod × Ni), ms[i]? = some p → ms[j]? = some q → i ≠ j → ∀ b, jet p.1 p.2 b → ¬ jet q.1 q.2 b
structure NOwn (w : World) (p : Nod × Ni) : Prop where
 ins : OwnsL 9 1 ji9 w 0 p.1.iv.v p.2.ins
 ap1 : Apt p.1.iv.v p.1.av.v
 ap2 : ∀ a ∈ p.2.xs, ApA a p.1.iv.v
theorem NOwn.kept {w w' : World} {p : Nod × Ni} (h : NOwn w p) (hk : ∀ b, jet p.1 p.2 b → w'.heap[b]? = w.heap[b]?) : NOwn w' p := ⟨jdT h.ins (fun b e => hk b (Or.inl e)), h.ap1, h.ap2⟩
theorem jmk.nil : jmk [] := fun i j p q hp => by simp at hp
theorem jmk.snoc {ms : List (Nod × Ni)} {p : Nod × Ni} {m : Nat} (h : jmk ms) (hl : ∀ q ∈ ms, ∀ b, jet q.1 q.2 b → b < m) (hp : ∀ b, jet p.1 p.2 b → m ≤ b) : jmk (ms ++ [p]) := by
 have hat : ∀ (i : Nat) (q : Nod × Ni), (ms ++ [p])[i]? = some q → (i < ms.length ∧ ms[i]? = some q) ∨ (i = ms.length ∧ q = p) := by
  intro i q hq
  by_cases hi : i < ms.length
  ·rw [List.getElem?_append_left hi] at hq
   exact Or.inl ⟨hi, hq⟩
  ·have hlt := (List.getElem?_eq_some_iff.1 hq).1
   rw [List.length_append, List.length_singleton] at hlt
   obtain rfl : i = ms.length := by omega
   rw [List.getElem?_append_right (Nat.le_refl _), Nat.sub_self] at hq
   exact Or.inr ⟨rfl, by simpa using hq.symm⟩
 intro i j a b ha hb hij c hc hd
 rcases hat i a ha with ⟨h1, h2⟩ | ⟨h1, rfl⟩ <;> rcases hat j b hb with ⟨h3, h4⟩ | ⟨h3, rfl⟩
 ·exact h i j a b h2 h4 hij c hc hd
 ·have := hl a (List.mem_of_getElem? h2) c hc
  have := hp c hd
  omega
 ·have := hl b (List.mem_of_getElem? h4) c hd
  have := hp c hc
  omega
 ·omega
structure NInv (W1 : World) (B : Nat) (nam : ByteArray) (ui uo : Sl) (cs : List Nc) (k : Nat) (wr : World) (v : Sl) (ms : List (Nod × Ni)) : Prop where
 box : wr.heap[B]? = some (.cells #[.string nam, .slice v.a v.n v.c, .slice ui.a ui.n ui.c, .slice uo.a uo.n uo.c, .slice none 0 0] 27 (0, 0))
 own : jlR wr W1.heap.size wr.heap.size v.v ms
 len : (ms.map (·.1)).length = k
 key : (ms.map jkw).map jki = (cs.take k).map jki
 grown : W1.grownBy wr (some B)
 nown : ∀ p ∈ ms, NOwn wr p
 sep : jmk ms
structure InitInv (W2 : World) (B : Nat) (nam : ByteArray) (un ui uo : Sl) (its : List (Nam × List Int × List Int)) (k : Nat) (wr : World) (v : Sl) (ts : List (Nam × List Int × List Int)) : Prop where
 box : wr.heap[B]? = some (.cells #[.string nam, .slice un.a un.n un.c, .slice ui.a ui.n ui.c, .slice uo.a uo.n uo.c, .slice v.a v.n v.c] 27 (0, 0))
 own : jlQ wr W2.heap.size wr.heap.size v.v ts
 len : (ts.map (·.1)).length = k
 key : ts.map jkv = (its.take k).map jkv
 grown : W2.grownBy wr (some B)
def TPut (W2 : World) (B : Nat) (nam : ByteArray) (un ui uo : Sl) (its : List (Nam × List Int × List Int)) (k : Nat) (wx : World) : Prop := ∃ (v : Sl) (ts : List (Nam × List Int × List Int)), InitInv W2 B nam un ui uo its k wx v ts
theorem InitInv.step {W2 : World} {B : Nat} {nam : ByteArray} {un ui uo : Sl} {its : List (Nam × List Int × List Int)} {en : Nat} {wr w3 w8 w9 : World} {ea : Option Addr} {ec gg cap : Nat} {ts : List (Nam × List Int × List Int)} {A : Nam} {ds es : List Int} {d t : Sl} (TI : InitInv W2 B nam un ui uo its en wr ⟨ea, en, ec⟩ ts) (HA : its[en]? = some (A, ds, es)) (hB2 : B < W2.heap.size) (hsr : W2.heap.size ≤ wr.heap.size) (g3 : wr.grownBy w3 none) (hd : jax w3 d.v ds) (ht : jax w3 t.v es) (nd : New wr.heap.size w3.heap.size d.v) (nt : New wr.heap.size w3.heap.size t.v)
    (hown8 : w8.ownsRow W2.heap.size 67 4 (.slice (some ⟨gg, 0, none⟩) (en + 1) cap) (en + 1) ((ts.map (·.1)).flatMap jb2 ++ jb2 ⟨A.name, A.ty, d, t⟩))
    (hgrow : (w3.alloc (.cells #[.string A.name, .int .i64 A.ty, .slice d.a d.n d.c, .slice t.a t.n t.c] 67)).grownBy w8 (Value.slice ea en ec).ownBlock) (hat : (Value.slice ea en ec).ownBlock = some gg ∨ gg = w3.heap.size + 1)
    (q1 : w9.heap[B]? = some (.cells #[.string nam, .slice un.a un.n un.c, .slice ui.a ui.n ui.c, .slice uo.a uo.n uo.c, .slice (some ⟨gg, 0, none⟩) (en + 1) cap] 27 (0, 0))) (q2 : w8.grownBy w9 (some B)) (q3 : w9.heap.size = w8.heap.size) : TPut W2 B nam un ui uo its (en + 1) w9 := by
     have gn := jab w3 (.cells #[.string A.name, .int .i64 A.ty, .slice d.a d.n d.c, .slice t.a t.n t.c] 67)
     have hy : jlp _ ⟨A.name, A.ty, d, t⟩ (ds, es) := ⟨hd.more gn, ht.more gn⟩
     have sn := TI.own.snoc jcL hsr (jaa g3 gn) hgrow (by simpa using hat) (jhs TI.len hown8) (y := ⟨A.name, A.ty, d, t⟩) (c := (ds, es)) hy (fun b e => by
      have := gn.size
      rcases e with e | e
      ·have := nd b e
       omega
      ·have := nt b e
       omega)
     refine ⟨⟨some ⟨gg, 0, none⟩, en + 1, cap⟩, ts ++ [(⟨A.name, A.ty, d, t⟩, ds, es)], q1, (sn.past jcL q2 (fun g e => by cases e; exact Or.inl hB2)).wide (Nat.le_refl _) (Nat.le_of_eq q3.symm) (Nat.le_refl _), by rw [List.map_append, List.length_append, TI.len]; rfl, ?_, ?_⟩
     ·rw [jgL jkv HA, List.map_append, TI.key]
      rfl
     ·exact jiA (jeb (jeb TI.grown (jaa g3 gn) (by simp)) hgrow (fun g e => (World.ownsRow.lt TI.own.own g e).1)) q2
end Go.Proofs.YtbgbpfbjeleooaaGreat
namespace Go.Proofs.YtbgbpfbjeleooaaGreat
open Go.RowKit
theorem jgk {α κ γ : Type} {k : α → κ} {F : α → γ} (hF : ∀ a b, k a = k b → F a = F b) : ∀ {xs ys : List α}, xs.map k = ys.map k → xs.map F = ys.map F
 | [], [], _ => rfl
 | [], y :: ys, h => by simp at h
 | x :: xs, [], h => by simp at h
 | x :: xs, y :: ys, h => by
  rw [List.map_cons, List.map_cons, List.cons.injEq] at h
  rw [List.map_cons, List.map_cons, hF x y h.1, jgk hF h.2]
structure SameG (cs : List Nc) (vin vout : List (Val × List Int)) (its : List (Nam × List Int × List Int)) (cs' : List Nc) (vin' vout' : List (Val × List Int)) (its' : List (Nam × List Int × List Int)) : Prop where
 nodes : cs'.map jki = cs.map jki
 ins : vin'.map jkh = vin.map jkh
 outs : vout'.map jkh = vout.map jkh
 inits : its'.map jkv = its.map jkv
theorem jht {α κ : Type} {k : α → κ} {xs ys : List α} (h : xs.map k = ys.map k) : xs.length = ys.length := by
 have := congrArg List.length h
 simpa using this
end Go.Proofs.YtbgbpfbjeleooaaGreat
namespace Go.Proofs.YtbgbpfbjeleooaaGreat
open Go.RowKit
theorem jjh {α κ : Type} {f : α → κ} {xs ys : List α} (h : xs.map f = ys.map f) {k : Nat} (h1 : k < xs.length) (h2 : k < ys.length) : f xs[k] = f ys[k] := by
 have e := congrArg (fun l : List κ => l[k]?) h
 simp only [List.getElem?_map, List.getElem?_eq_getElem h1, List.getElem?_eq_getElem h2, Option.map_some, Option.some.injEq] at e
 exact e
theorem jft (u v : Value) (ps qs : List (Val × List Int)) (w : World) (hu : jes w u (ps.map (·.1))) (hv : jes w v (qs.map (·.1))) (hd : ∀ p ∈ ps, jax w p.1.dv.v p.2) (he : ∀ p ∈ qs, jax w p.1.dv.v p.2) (hk : ps.map jkh = qs.map jkh) :
    Calls Tryz.prog 29 #[u, v] w fun e w' => e = .returned (.bool true) ∧ w.grownBy w' none := by
     have H1 := jac hu
     have H2 := jac hv
     have HD := jac hd
     have HE := jac he
     have HK := jac hk
     have hln := jht hk
     have HN := jac hln
     obtain ⟨xa, xc, e1, p1, p2, p3⟩ := hu.form
     obtain ⟨ya, yc, e2, q1, q2, q3⟩ := hv.form
     rw [List.length_map] at e1 p1 p3 e2 q1 q3
     rw [hln] at e1 p1 p3
     subst e1 e2
     clear hu hv hd he hk hln
     go_enter Tryz.func29, Tryz.ntmps29
     go_wp2_with fail
     go_loopw [5] (fun i wr => w.grownBy wr none ∧ ∃ k : Nat, k ≤ qs.length ∧ i = .int .i64 k) (fun i _ => qs.length - (intOf i).toNat)
     case atStart => exact ⟨jae _, 0, Nat.zero_le _, rfl⟩
     case round =>
      obtain ⟨hg, k, hk, rfl⟩ := hrel
      by_cases hlt : k < qs.length
      ·have hlp : k < ps.length := by have := HN.out; omega
       have I1 := H1.out.more hg
       have I2 := H2.out.more hg
       have hl1 : k < (ps.map (·.1)).length := by rw [List.length_map]; exact hlp
       have hl2 : k < (qs.map (·.1)).length := by rw [List.length_map]; exact hlt
       obtain ⟨ub, uo, rfl⟩ := I1.addr hl1
       obtain ⟨vb, vo, rfl⟩ := I2.addr hl2
       obtain ⟨a0, a1, a2⟩ := I1.val k hl1
       obtain ⟨b0, b1, b2⟩ := I2.val k hl2
       have hkk := jjh HK.out hlp hlt
       have hda := HD.out ps[k] (List.getElem_mem hlp)
       have heb := HE.out qs[k] (List.getElem_mem hlt)
       rw [List.getElem_map] at a0 a1 a2 b0 b1 b2
       obtain ⟨A, ds, hA⟩ : ∃ A ds, ps[k] = (A, ds) := ⟨_, _, rfl⟩
       obtain ⟨B, es, hB⟩ : ∃ B es, qs[k] = (B, es) := ⟨_, _, rfl⟩
       rw [hA] at a0 a1 a2 hkk hda
       rw [hB] at b0 b1 b2 hkk heb
       simp only [jkh, Prod.mk.injEq] at hkk
       obtain ⟨k1, k2, rfl⟩ := hkk
       simp only at a0 a1 a2 b0 b1 b2 hda heb
       rw [← k1] at b0
       rw [← k2] at b1
       have SM := jac (jfr A.dv.v B.dv.v ds wr.drew (hda.more (jaU hg)) (heb.more (jaU hg)))
       have CX := jac (fun (wx : World) (hx : wr.grownBy wx none) => And.intro (And.intro (jah a0 hx) (And.intro (jah a1 hx) (jah a2 hx))) (And.intro (jah b0 hx) (And.intro (jah b1 hx) (jah b2 hx))))
       have gd := jaU (jae wr)
       clear I1 I2 hA hB k1 k2 hda heb
       go_wp2_with fail
       go_region_held3 (fun w' => w'.cell? ⟨ub, uo + k * 3, none⟩ = some (.string A.name) ∧ w'.cell? ⟨ub, uo + k * 3 + 1, none⟩ = some (.int .i64 A.ty) ∧ w'.cell? ⟨ub, uo + k * 3 + 2, none⟩ = some (.slice A.dv.a A.dv.n A.dv.c) ∧ w'.cell? ⟨vb, vo + k * 3, none⟩ = some (.string A.name) ∧ w'.cell? ⟨vb, vo + k * 3 + 1, none⟩ = some (.int .i64 A.ty) ∧ w'.cell? ⟨vb, vo + k * 3 + 2, none⟩ = some (.slice B.dv.a B.dv.n B.dv.c)) (go_keep) (first | (go_at_call 62; refine SM.out.mono ?_; rintro e w3 ⟨rfl, hg3⟩; have g3 : wr.grownBy w3 none := jaa gd hg3; obtain ⟨⟨a0, a1, a2⟩, b0, b1, b2⟩ := CX.out w3 g3) | fail)
       all_goals
        go_wp2
        go_roundw
        case rel => exact ⟨jaa hg g3, k + 1, by omega, by go_num⟩
        case measure => simp [intOf]; omega
      ·go_wp2
       go_ret
       exact ⟨rfl, hg⟩
end Go.Proofs.YtbgbpfbjeleooaaGreat
namespace Go.Proofs.YtbgbpfbjeleooaaGreat
open Go.RowKit
theorem jgM (op nam out : ByteArray) (iv av jv bv : Sl) (ins : List ByteArray) (xs ys : List Atr) (cs : List Cont) (w : World) (h1 : NodeIn0 w ⟨op, nam, iv, out, av⟩ ins ys cs) (h2 : NodeIn0 w ⟨op, nam, jv, out, bv⟩ ins xs cs) (he : ys.map jda = xs.map jda) :
    Calls Tryz.prog 30 #[jiz ⟨op, nam, iv, out, av⟩, jiz ⟨op, nam, jv, out, bv⟩] w fun e w' => e = .returned (.bool true) ∧ w.grownBy w' none := by
     have H1 := jac h1
     have H2 := jac h2
     have HE := jac he
     have hyl : ys.length = xs.length := by have := congrArg List.length he; simpa using this
     obtain ⟨iva, ivc, ei, i1, i2, i3⟩ := h1.ins.form
     obtain ⟨jva, jvc, ej, j1, j2, j3⟩ := h2.ins.form
     obtain ⟨ava, avc, ea, a1, a2, a3⟩ := h1.av.form
     obtain ⟨bva, bvc, eb, b1, b2, b3⟩ := h2.av.form
     obtain ⟨xa, xn, xc⟩ := iv
     obtain ⟨ya, yn, yc⟩ := jv
     obtain ⟨za, zn, zc⟩ := av
     obtain ⟨ua, un, uc⟩ := bv
     simp only [Sl.v, Value.slice.injEq] at ei ej ea eb
     obtain ⟨rfl, rfl, rfl⟩ := ei
     obtain ⟨rfl, rfl, rfl⟩ := ej
     obtain ⟨rfl, rfl, rfl⟩ := ea
     obtain ⟨rfl, rfl, rfl⟩ := eb
     rw [hyl] at a1 a3 H1 ⊢
     clear h1 h2 he hyl
     unfold jiz
     simp only
     obtain ⟨w0, hw0⟩ : ∃ w0, w0 = (w.alloc (.cells #[.string op, .string nam, .slice xa ins.length xc, .string out, .slice za xs.length zc] 35)).alloc (.cells #[.string op, .string nam, .slice ya ins.length yc, .string out, .slice ua xs.length uc] 35) := ⟨_, rfl⟩
     have g0 : w.grownBy w0 none := by rw [hw0]; exact jaa (jab _ _) (jab _ _)
     have hbx := jeq w (.cells #[.string op, .string nam, .slice xa ins.length xc, .string out, .slice za xs.length zc] 35) (.cells #[.string op, .string nam, .slice ya ins.length yc, .string out, .slice ua xs.length uc] 35)
     have hbx0 := hbx
     rw [← hw0] at hbx
     have B1 : Hid (∀ wx, w0.grownBy wx none → wx.heap[w.heap.size]? = some (.cells #[.string op, .string nam, .slice xa ins.length xc, .string out, .slice za xs.length zc] 35 (0, 0))) := fun wx hg => jag hbx.1 hg
     have B2 : Hid (∀ wx, w0.grownBy wx none → wx.heap[w.heap.size + 1]? = some (.cells #[.string op, .string nam, .slice ya ins.length yc, .string out, .slice ua xs.length uc] 35 (0, 0))) := fun wx hg => jag hbx.2 hg
     obtain ⟨n0, n1, n2, n3, n4⟩ := jcz (n := ⟨op, nam, ⟨xa, ins.length, xc⟩, out, ⟨za, xs.length, zc⟩⟩) hbx0.1
     obtain ⟨m0, m1, m2, m3, m4⟩ := jcz (n := ⟨op, nam, ⟨ya, ins.length, yc⟩, out, ⟨ua, xs.length, uc⟩⟩) hbx0.2
     clear hbx hbx0
     go_enter Tryz.func30, Tryz.ntmps30
     go_wp2_with fail
     rw [← hw0]
     clear hw0 n0 n1 n2 n3 n4 m0 m1 m2 m3 m4
     go_loopw [5] (fun i wr => w0.grownBy wr none ∧ ∃ k : Nat, k ≤ ins.length ∧ i = .int .i64 k) (fun i _ => ins.length - (intOf i).toNat)
     case atStart => exact ⟨jae _, 0, Nat.zero_le _, rfl⟩
     case round =>
      obtain ⟨hg, k, hk, rfl⟩ := hrel
      obtain ⟨n0, n1, n2, n3, n4⟩ := jcz (n := ⟨op, nam, ⟨xa, ins.length, xc⟩, out, ⟨za, xs.length, zc⟩⟩) (B1.out wr hg)
      obtain ⟨m0, m1, m2, m3, m4⟩ := jcz (n := ⟨op, nam, ⟨ya, ins.length, yc⟩, out, ⟨ua, xs.length, uc⟩⟩) (B2.out wr hg)
      simp only at n2 n4 m2 m4
      by_cases hlt : k < ins.length
      ·have I1 := H1.out.ins.more (jaa g0 hg)
       have I2 := H2.out.ins.more (jaa g0 hg)
       obtain ⟨ub, uo, rfl⟩ := I1.addr hlt
       obtain ⟨vb, vo, rfl⟩ := I2.addr hlt
       have x0 := jja I1 k hlt
       have y0 := jja I2 k hlt
       obtain ⟨X, hX⟩ : ∃ X, X = ins[k] := ⟨_, rfl⟩
       rw [← hX] at x0 y0
       clear hX I1 I2
       go_wp2
       go_region
       all_goals
        go_wp2
        go_roundw
        case rel => exact ⟨jaU hg, k + 1, by omega, by go_num⟩
        case measure => simp [intOf]; omega
      ·obtain ⟨wo, rfl⟩ : ∃ wo, wo = wr := ⟨_, rfl⟩
       go_wp2_with fail
       clear n0 n1 n2 n3 n4 m0 m1 m2 m3 m4
       go_loopw [6] (fun i wr => w0.grownBy wr none ∧ ∃ k : Nat, k ≤ xs.length ∧ i = .int .i64 k) (fun i _ => xs.length - (intOf i).toNat)
       case atStart => exact ⟨hg, 0, Nat.zero_le _, rfl⟩
       case round =>
        obtain ⟨hg, k, hk, rfl⟩ := hrel
        obtain ⟨n0, n1, n2, n3, n4⟩ := jcz (n := ⟨op, nam, ⟨xa, ins.length, xc⟩, out, ⟨za, xs.length, zc⟩⟩) (B1.out wr hg)
        obtain ⟨m0, m1, m2, m3, m4⟩ := jcz (n := ⟨op, nam, ⟨ya, ins.length, yc⟩, out, ⟨ua, xs.length, uc⟩⟩) (B2.out wr hg)
        simp only at n2 n4 m2 m4
        by_cases hlt : k < xs.length
        ·have A1 := H1.out.av.more (jaa g0 hg)
         have A2 := H2.out.av.more (jaa g0 hg)
         have hyk : k < ys.length := by have := congrArg List.length HE.out; simp at this; omega
         obtain ⟨ub, uo, rfl⟩ := A1.addr hyk
         obtain ⟨vb, vo, rfl⟩ := A2.addr hlt
         obtain ⟨p0, p1, p2, p3, p4, p5, p6, p7, p8⟩ := A1.attr k hyk
         obtain ⟨q0, q1, q2, q3, q4, q5, q6, q7, q8⟩ := A2.attr k hlt
         obtain ⟨c, hc, hc1⟩ := H1.out.has k ys[k] (List.getElem?_eq_getElem hyk)
         obtain ⟨c', hc', hc2⟩ := H2.out.has k xs[k] (List.getElem?_eq_getElem hlt)
         obtain rfl : c = c' := Option.some.inj (hc.symm.trans hc')
         have hst : jda ys[k] = jda xs[k] := by
          have h := congrArg (fun l : List Atr => l[k]?) HE.out
          simp only [List.getElem?_map, List.getElem?_eq_getElem hyk, List.getElem?_eq_getElem hlt, Option.map_some, Option.some.injEq] at h
          exact h
         have SA := jac (jhr ys[k] xs[k] c wr.drew hst (hc1.more (jaa g0 (jaU hg))) (hc2.more (jaa g0 (jaU hg))))
         obtain ⟨A, hA⟩ : ∃ A, A = ys[k] := ⟨_, rfl⟩
         obtain ⟨D, hD⟩ : ∃ D, D = xs[k] := ⟨_, rfl⟩
         rw [← hA] at p0 p1 p2 p3 p4 p5 p6 p7 p8 SA
         rw [← hD] at q0 q1 q2 q3 q4 q5 q6 q7 q8 SA
         unfold jcu at SA
         clear A1 A2 hA hD hc hc' hc1 hc2 hst
         go_wp2_with fail
         go_region_held3 (fun w' => w'.cell? ⟨w.heap.size, 4, none⟩ = some (.slice (some ⟨ub, uo, none⟩) xs.length zc) ∧ w'.cell? ⟨w.heap.size + 1, 4, none⟩ = some (.slice (some ⟨vb, vo, none⟩) xs.length uc) ∧ w'.cell? ⟨ub, uo + k * 9, none⟩ = some (.string A.name) ∧ w'.cell? ⟨ub, uo + k * 9 + 1, none⟩ = some (.int .i64 A.kind) ∧ w'.cell? ⟨ub, uo + k * 9 + 2, none⟩ = some (.int .i64 A.f) ∧ w'.cell? ⟨ub, uo + k * 9 + 3, none⟩ = some (.int .i64 A.i) ∧ w'.cell? ⟨ub, uo + k * 9 + 4, none⟩ = some (.string A.s) ∧ w'.cell? ⟨ub, uo + k * 9 + 5, none⟩ = some (.int .i64 A.ty) ∧ w'.cell? ⟨ub, uo + k * 9 + 6, none⟩ = some (.slice A.dv.a A.dv.n A.dv.c) ∧ w'.cell? ⟨ub, uo + k * 9 + 7, none⟩ = some (.slice A.tv.a A.tv.n A.tv.c) ∧ w'.cell? ⟨ub, uo + k * 9 + 8, none⟩ = some (.slice A.iv.a A.iv.n A.iv.c) ∧ w'.cell? ⟨vb, vo + k * 9, none⟩ = some (.string D.name) ∧ w'.cell? ⟨vb, vo + k * 9 + 1, none⟩ = some (.int .i64 D.kind) ∧ w'.cell? ⟨vb, vo + k * 9 + 2, none⟩ = some (.int .i64 D.f) ∧ w'.cell? ⟨vb, vo + k * 9 + 3, none⟩ = some (.int .i64 D.i) ∧ w'.cell? ⟨vb, vo + k * 9 + 4, none⟩ = some (.string D.s) ∧ w'.cell? ⟨vb, vo + k * 9 + 5, none⟩ = some (.int .i64 D.ty) ∧ w'.cell? ⟨vb, vo + k * 9 + 6, none⟩ = some (.slice D.dv.a D.dv.n D.dv.c) ∧ w'.cell? ⟨vb, vo + k * 9 + 7, none⟩ = some (.slice D.tv.a D.tv.n D.tv.c) ∧ w'.cell? ⟨vb, vo + k * 9 + 8, none⟩ = some (.slice D.iv.a D.iv.n D.iv.c)) (go_keep) (first | (go_at_call 63; refine SA.out.mono ?_; rintro e w3 ⟨rfl, hg3⟩; have g3 := jaa (jaU hg) hg3; have gk : wr.grownBy w3 none := jaa (jaU (jae wr)) hg3; have p0 := jah p0 gk; have p1 := jah p1 gk; have p2 := jah p2 gk; have p3 := jah p3 gk; have p4 := jah p4 gk; have p5 := jah p5 gk; have p6 := jah p6 gk; have p7 := jah p7 gk; have p8 := jah p8 gk; have q0 := jah q0 gk; have q1 := jah q1 gk; have q2 := jah q2 gk; have q3 := jah q3 gk; have q4 := jah q4 gk; have q5 := jah q5 gk; have q6 := jah q6 gk; have q7 := jah q7 gk; have q8 := jah q8 gk; obtain ⟨-, -, -, -, n4⟩ := jcz (n := ⟨op, nam, ⟨xa, ins.length, xc⟩, out, ⟨some ⟨ub, uo, none⟩, xs.length, zc⟩⟩) (B1.out w3 g3); obtain ⟨-, -, -, -, m4⟩ := jcz (n := ⟨op, nam, ⟨ya, ins.length, yc⟩, out, ⟨some ⟨vb, vo, none⟩, xs.length, uc⟩⟩) (B2.out w3 g3)))
         all_goals
          go_wp2
          go_roundw
          case rel => exact ⟨g3, k + 1, by omega, by go_num⟩
          case measure => simp [intOf]; omega
        ·go_wp2
         go_ret
         exact ⟨rfl, jaa g0 hg⟩
end Go.Proofs.YtbgbpfbjeleooaaGreat
namespace Go.Proofs.YtbgbpfbjeleooaaGreat
open Go.RowKit
structure GraphIn0 (w : World) (g : Gra) (nds : List Nc) (vin vout : List (Val × List Int)) (its : List (Nam × List Int × List Int)) : Prop where
 nodes : jjf w g.nv.v (nds.map (·.n))
 ins : jes w g.iv.v (vin.map (·.1))
 outs : jes w g.ov.v (vout.map (·.1))
 inits : jje w g.tv.v (its.map (·.1))
 node : ∀ c ∈ nds, NodeIn0 w c.n c.ins c.xs c.cs
 din : ∀ p ∈ vin, jax w p.1.dv.v p.2
 dout : ∀ p ∈ vout, jax w p.1.dv.v p.2
 dinit : ∀ p ∈ its, jax w p.1.dv.v p.2.1 ∧ jax w p.1.tv.v p.2.2
theorem GraphIn0.more {w w' : World} {g : Gra} {nds : List Nc} {vin vout : List (Val × List Int)} {its : List (Nam × List Int × List Int)} (h : GraphIn0 w g nds vin vout its) (hg : w.grownBy w' none) : GraphIn0 w' g nds vin vout its :=
 ⟨h.nodes.more hg, h.ins.more hg, h.outs.more hg, h.inits.more hg, fun c hc => (h.node c hc).more hg, fun p hp => (h.din p hp).more hg, fun p hp => (h.dout p hp).more hg, fun p hp => ⟨(h.dinit p hp).1.more hg, (h.dinit p hp).2.more hg⟩⟩
end Go.Proofs.YtbgbpfbjeleooaaGreat
