/- Joined texts: NNode, GBase, NReads, IPure. -/
import Derived.Test.YtaoplfpigjkgpaaGreatDoorPartAX
import Derived.Test.YtaoplfpigjkgpaaGreatDoorPartAW
import Derived.Test.YtaoplfpigjkgpaaGreatDoorPartAB
namespace Go.Proofs.YtaoplfpigjkgpaaGreatDoor

open Go.RowKit

structure NodeIn (w : World) (n : Nod) (ins : List ByteArray) (xs : List Atr) (cs : List Cont) : Prop where
  ins : IsStrs w n.iv.v ins
  av : IsAttrs w n.av.v xs
  has : ∀ (j : Nat) (a : Atr), xs[j]? = some a → ∃ c, cs[j]? = some c ∧ Has w a c
  few : xs.length ≤ 2097152
  short : ∀ a ∈ xs, a.s.size ≤ 1048576

theorem NodeIn.more {w w' : World} {n : Nod} {ins : List ByteArray} {xs : List Atr} {cs : List Cont} (h : NodeIn w n ins xs cs) (hg : w.grownBy w' none) : NodeIn w' n ins xs cs :=
  ⟨h.ins.more hg, h.av.more hg, fun j a e => by obtain ⟨c, e1, e2⟩ := h.has j a e; exact ⟨c, e1, e2.more hg⟩, h.few, h.short⟩

theorem check_in (n : Nod) (ins : List ByteArray) (xs : List Atr) (cs : List Cont) (w : World) (hl : Laid w) (h : NodeIn w n ins xs cs) :
    Calls Tryz.prog 88 #[nval n] w fun e w' => e = .returned (.int .i64 (checkF (ruleF n.op) n.op ins n.out xs cs)) ∧ w.grownBy w' none :=
  check_all n xs cs ins w hl h.ins h.av h.has (fun a ha => by have := h.short a ha; omega)

theorem Copied.len {w w' : World} {n : Nod} {ins : List ByteArray} {xs : List Atr} {cs : List Cont} {iv av : Sl} {ys : List Atr} (h : Copied w w' n ins xs cs iv av ys) : ys.length = xs.length := by
  have := congrArg List.length h.eq
  simpa using this

end Go.Proofs.YtaoplfpigjkgpaaGreatDoor

namespace Go.Proofs.YtaoplfpigjkgpaaGreatDoor

open Go.RowKit

structure Val where
  name : ByteArray
  ty : Int
  dv : Sl

def vcells (v : Val) : List Value := [.string v.name, .int .i64 v.ty, .slice v.dv.a v.dv.n v.dv.c]

theorem vcells_len (v : Val) : (vcells v).length = 3 := rfl

structure Nam where
  name : ByteArray
  ty : Int
  dv : Sl
  tv : Sl

def mcells (v : Nam) : List Value := [.string v.name, .int .i64 v.ty, .slice v.dv.a v.dv.n v.dv.c, .slice v.tv.a v.tv.n v.tv.c]

def ncells (n : Nod) : List Value := [.string n.op, .string n.name, .slice n.iv.a n.iv.n n.iv.c, .string n.out, .slice n.av.a n.av.n n.av.c]

abbrev IsVals (w : World) (v : Value) (xs : List Val) : Prop := IsL 48 3 vcells w v xs
abbrev IsNams (w : World) (v : Value) (xs : List Nam) : Prop := IsL 72 4 mcells w v xs
abbrev IsNods (w : World) (v : Value) (xs : List Nod) : Prop := IsL 96 5 ncells w v xs

theorem IsL.val {w : World} {b off len cap : Nat} {xs : List Val} (h : IsL 48 3 vcells w (.slice (some ⟨b, off, none⟩) len cap) xs) (k : Nat) (hk : k < xs.length) :
    w.cell? ⟨b, off + k * 3, none⟩ = some (.string xs[k].name) ∧ w.cell? ⟨b, off + k * 3 + 1, none⟩ = some (.int .i64 xs[k].ty) ∧ w.cell? ⟨b, off + k * 3 + 2, none⟩ = some (.slice xs[k].dv.a xs[k].dv.n xs[k].dv.c) :=
  ⟨h.at k hk 0 (by omega), h.at k hk 1 (by omega), h.at k hk 2 (by omega)⟩

theorem IsL.nam {w : World} {b off len cap : Nat} {xs : List Nam} (h : IsL 72 4 mcells w (.slice (some ⟨b, off, none⟩) len cap) xs) (k : Nat) (hk : k < xs.length) :
    w.cell? ⟨b, off + k * 4, none⟩ = some (.string xs[k].name) ∧ w.cell? ⟨b, off + k * 4 + 1, none⟩ = some (.int .i64 xs[k].ty) ∧ w.cell? ⟨b, off + k * 4 + 2, none⟩ = some (.slice xs[k].dv.a xs[k].dv.n xs[k].dv.c) ∧ w.cell? ⟨b, off + k * 4 + 3, none⟩ = some (.slice xs[k].tv.a xs[k].tv.n xs[k].tv.c) :=
  ⟨h.at k hk 0 (by omega), h.at k hk 1 (by omega), h.at k hk 2 (by omega), h.at k hk 3 (by omega)⟩

structure Gra where
  name : ByteArray
  nv : Sl
  iv : Sl
  ov : Sl
  tv : Sl

structure Nc where
  n : Nod
  ins : List ByteArray
  xs : List Atr
  cs : List Cont

structure GraphIn (w : World) (g : Gra) (nds : List Nc) (vin vout : List (Val × List Int)) (its : List (Nam × List Int × List Int)) : Prop where
  nodes : IsNods w g.nv.v (nds.map (·.n))
  ins : IsVals w g.iv.v (vin.map (·.1))
  outs : IsVals w g.ov.v (vout.map (·.1))
  inits : IsNams w g.tv.v (its.map (·.1))
  node : ∀ c ∈ nds, NodeIn w c.n c.ins c.xs c.cs
  din : ∀ p ∈ vin, IsInts w p.1.dv.v p.2
  dout : ∀ p ∈ vout, IsInts w p.1.dv.v p.2
  dinit : ∀ p ∈ its, IsInts w p.1.dv.v p.2.1 ∧ IsInts w p.1.tv.v p.2.2
  short : ∀ p ∈ vin, p.1.name.size ≤ 1048576
  few : nds.length ≤ 1048576 ∧ vin.length ≤ 1048576 ∧ vout.length ≤ 1048576 ∧ its.length ≤ 1048576

theorem GraphIn.more {w w' : World} {g : Gra} {nds : List Nc} {vin vout : List (Val × List Int)} {its : List (Nam × List Int × List Int)} (h : GraphIn w g nds vin vout its) (hg : w.grownBy w' none) : GraphIn w' g nds vin vout its :=
  ⟨h.nodes.more hg, h.ins.more hg, h.outs.more hg, h.inits.more hg, fun c hc => (h.node c hc).more hg, fun p hp => (h.din p hp).more hg, fun p hp => (h.dout p hp).more hg, fun p hp => ⟨(h.dinit p hp).1.more hg, (h.dinit p hp).2.more hg⟩, h.short, h.few⟩

end Go.Proofs.YtaoplfpigjkgpaaGreatDoor

namespace Go.Proofs.YtaoplfpigjkgpaaGreatDoor

open Go.RowKit

def intsV (xs : List Atr) (cs : List Cont) (nm : ByteArray) (zs : List Int) : List Int := match (xs.zip cs).find? (fun p => isA nm 7 p.1) with
  | some p => p.2.i
  | none => zs

def intV (xs : List Atr) (nm : ByteArray) (z : Int) : Int := match xs.find? (isA nm 2) with
  | some a => a.i
  | none => z

theorem found_of {w : World} {xs : List Atr} {cs : List Cont} {nm : ByteArray} {kd : Int} (hc : ∀ (j : Nat) (a : Atr), xs[j]? = some a → ∃ c, cs[j]? = some c ∧ Has w a c) :
    ∃ (A : Atr) (b : Bool) (c : Cont), (xs.find? (isA nm kd)).getD noAtr = A ∧ (xs.find? (isA nm kd)).isSome = b ∧ (b = true → Has w A c) ∧ ((b = true → xs.find? (isA nm kd) = some A ∧ (xs.zip cs).find? (fun p => isA nm kd p.1) = some (A, c)) ∧ (b = false → xs.find? (isA nm kd) = none ∧ (xs.zip cs).find? (fun p => isA nm kd p.1) = none)) := by
  rcases find_zip (P := isA nm kd) hc with ⟨e1, e2⟩ | ⟨a, c, e1, e2, e3⟩
  · exact ⟨noAtr, false, ⟨[], [], []⟩, by rw [e1]; rfl, by rw [e1]; rfl, (fun h => by cases h), (fun h => by cases h), fun _ => ⟨e1, e2⟩⟩
  · exact ⟨a, true, c, by rw [e1]; rfl, by rw [e1]; rfl, (fun _ => e3), (fun _ => ⟨e1, e2⟩), (fun h => by cases h)⟩

set_option maxRecDepth 100000 in
set_option maxHeartbeats 6400000 in
theorem sint_any (n : Nod) (xs : List Atr) (cs : List Cont) (nm : ByteArray) (z : Int) (w : World) (hv : IsAttrs w n.av.v xs) (hc : ∀ (j : Nat) (a : Atr), xs[j]? = some a → ∃ c, cs[j]? = some c ∧ Has w a c) :
    Calls Tryz.prog 59 #[nval n, .string nm, .int .i64 z] w fun e w' => e = .returned (.int .i64 (intV xs nm z)) ∧ w.grownBy w' none := by
  have FN := hide (fun (p q : Nat) (wx : World) (hg : w.grownBy wx none) (hp : wx.heap[p]? = some (.cells #[.string nm] 9 (0, 0))) (hq : wx.heap[q]? = some (.cells #[.int .i64 2] 3 (0, 0))) => first_named n xs p q nm 2 wx (hv.more hg) hp hq)
  obtain ⟨A, bA, cA, hA1, hA2, hA3, hA4⟩ := found_of (nm := nm) (kd := 2) hc
  rw [hA1, hA2] at FN
  have HA3 := hide hA3
  have HA4 := hide hA4
  clear hA1 hA2 hA3 hA4 hc
  have HA5 : Hid ((bA = true → intV xs nm z = A.i) ∧ (bA = false → intV xs nm z = z)) := ⟨fun h => by unfold intV; rw [(HA4.out.1 h).1], fun h => by unfold intV; rw [(HA4.out.2 h).1]⟩
  clear HA3 HA4
  obtain ⟨op, nam, ⟨ia, il, ic⟩, out, ⟨ao, al, cap⟩⟩ := n
  unfold nval at FN ⊢
  unfold aval at FN
  simp only at FN ⊢
  clear hv
  obtain ⟨w0, hw0⟩ : ∃ w0, w0 = w.alloc (.cells #[.string op, .string nam, .slice ia il ic, .string out, .slice ao al cap] 25) := ⟨_, rfl⟩
  have g0 : w.grownBy w0 none := by rw [hw0]; exact grown_new _ _
  have hb0 := heap_alloc_new w (.cells #[.string op, .string nam, .slice ia il ic, .string out, .slice ao al cap] 25)
  rw [← hw0] at hb0
  have HZ0 : Hid (w0.heap.size = w.heap.size + 1) := by rw [hw0]; simp [Hid]
  have BX : Hid (∀ wx, w0.grownBy wx none → wx.heap[w.heap.size]? = some (.cells #[.string op, .string nam, .slice ia il ic, .string out, .slice ao al cap] 25 (0, 0))) := fun wx hg => box_kept hb0 hg
  clear hb0
  go_enter Tryz.func59, Tryz.ntmps59
  go_wp2_with fail
  rw [← hw0]
  clear hw0
  go_cut [7, 8] from 9 to 15 (fun p b wx => ∃ N : Nat, p = .pointer (some ⟨N, 0, none⟩) ∧ b = .bool bA ∧ wx.heap[N]? = some (.cells #[.string A.name, .int .i64 A.kind, .int .i64 A.f, .int .i64 A.i, .string A.s, .int .i64 A.ty, .slice A.dv.a A.dv.n A.dv.c, .slice A.tv.a A.tv.n A.tv.c, .slice A.iv.a A.iv.n A.iv.c] 41 (0, 0)) ∧ w.grownBy wx none)
  case first =>
    obtain ⟨n0, n1, n2, n3, n4⟩ := nod_cells (n := ⟨op, nam, ⟨ia, il, ic⟩, out, ⟨ao, al, cap⟩⟩) (BX.out w0 (grown_refl _))
    have gd := grown_drew (grown_refl w0)
    go_region_held3 (fun w' => w'.cell? ⟨w.heap.size, 0, none⟩ = some (.string op) ∧ w'.cell? ⟨w.heap.size, 1, none⟩ = some (.string nam) ∧ w'.cell? ⟨w.heap.size, 2, none⟩ = some (.slice ia il ic) ∧ w'.cell? ⟨w.heap.size, 3, none⟩ = some (.string out) ∧ w'.cell? ⟨w.heap.size, 4, none⟩ = some (.slice ao al cap)) (go_keep) (first | (go_at_call 79; refine (named_any _ _ _).mono ?_; rintro e w1 ⟨rfl, hp1, hq1, hg1⟩; have g01 : w0.grownBy w1 none := (by first | exact grown_trans gd hg1 | exact grown_trans (grown_trans gd (grown_new _ _)) hg1); obtain ⟨n0, n1, n2, n3, n4⟩ := nod_cells (n := ⟨op, nam, ⟨ia, il, ic⟩, out, ⟨ao, al, cap⟩⟩) (BX.out w1 g01); have hz1 : w.heap.size ≠ w1.heap.size := (by have := g01.size; have := HZ0.out; omega); have hzz : w.heap.size ≠ w0.heap.size := (by have := HZ0.out; omega); have hz1' := hz1.symm; have hzz' := hzz.symm; try (have hp2 : w1.heap[w0.heap.size + 1]? = some (.cells #[.string nm] 9 (0, 0)) := (by have h := hp1; rw [show ((w0.alloc (.cells #[.string ⟨#[]⟩, .int .i64 0, .int .i64 0, .int .i64 0, .string ⟨#[]⟩, .int .i64 0, .slice none 0 0, .slice none 0 0, .slice none 0 0] 41)).drew).heap.size = w0.heap.size + 1 by simp] at h; exact h)); try (have hq2 : w1.heap[w0.heap.size + 1 + 1]? = some (.cells #[.int .i64 2] 3 (0, 0)) := (by have h := hq1; rw [show ((w0.alloc (.cells #[.string ⟨#[]⟩, .int .i64 0, .int .i64 0, .int .i64 0, .string ⟨#[]⟩, .int .i64 0, .slice none 0 0, .slice none 0 0, .slice none 0 0] 41)).drew).heap.size = w0.heap.size + 1 by simp] at h; exact h)); try (have kz : w1.heap[w0.heap.size]? = some (.cells #[.string ⟨#[]⟩, .int .i64 0, .int .i64 0, .int .i64 0, .string ⟨#[]⟩, .int .i64 0, .slice none 0 0, .slice none 0 0, .slice none 0 0] 41 (0, 0)) := box_kept (show ((w0.alloc (.cells #[.string ⟨#[]⟩, .int .i64 0, .int .i64 0, .int .i64 0, .string ⟨#[]⟩, .int .i64 0, .slice none 0 0, .slice none 0 0, .slice none 0 0] 41)).drew).heap[w0.heap.size]? = _ from heap_alloc_new w0 _) hg1)) | (go_at_call 78; refine (FN.out _ _ _ (by first | exact grown_trans g0 g01 | exact grown_trans (grown_trans g0 g01) (grown_new _ _)) (by first | exact hp1 | exact hp2 | exact box_kept hp1 (grown_new _ _)) (by first | exact hq1 | exact hq2 | exact box_kept hq1 (grown_new _ _))).mono ?_; rintro e w2 ⟨rfl, hg2⟩; have g02 : w0.grownBy w2 none := (by first | exact grown_trans g01 hg2 | exact grown_trans (grown_trans g01 (grown_new _ _)) hg2); obtain ⟨n0, n1, n2, n3, n4⟩ := nod_cells (n := ⟨op, nam, ⟨ia, il, ic⟩, out, ⟨ao, al, cap⟩⟩) (BX.out w2 g02); try (first | have kz2 := box_kept kz hg2 | have kz2 : w2.heap[w1.heap.size]? = some (.cells #[.string ⟨#[]⟩, .int .i64 0, .int .i64 0, .int .i64 0, .string ⟨#[]⟩, .int .i64 0, .slice none 0 0, .slice none 0 0, .slice none 0 0] 41 (0, 0)) := box_kept (heap_alloc_new w1 _) hg2); try (obtain ⟨f0, f1, f2, f3, f4, f5, f6, f7, f8⟩ := atr_frozen kz2); try (obtain ⟨k0, k1, k2, k3, k4, k5, k6, k7, k8⟩ := atr_cells (a := noAtr) kz2)))
    · have GG := hide (grown_trans g0 g02)
      go_wp2_with fail
      go_meet
      exact ⟨_, rfl, rfl, heap_alloc_new w2 _, grown_trans GG.out (grown_new w2 _)⟩
    · obtain ⟨hX, gX⟩ := store9 (.string A.name) (.int .i64 A.kind) (.int .i64 A.f) (.int .i64 A.i) (.string A.s) (.int .i64 A.ty) (.slice A.dv.a A.dv.n A.dv.c) (.slice A.tv.a A.tv.n A.tv.c) (.slice A.iv.a A.iv.n A.iv.c) (grown_trans g0 g02) (show w.heap.size ≤ w1.heap.size by have := g01.size; have := HZ0.out; omega) kz2
      have HX := hide hX
      have GX := hide gX
      clear hX gX
      go_wp2_with fail
      go_meet
      exact ⟨_, rfl, rfl, HX.out, GX.out⟩
    · obtain ⟨hX, gX⟩ := store9 (.string A.name) (.int .i64 A.kind) (.int .i64 A.f) (.int .i64 A.i) (.string A.s) (.int .i64 A.ty) (.slice A.dv.a A.dv.n A.dv.c) (.slice A.tv.a A.tv.n A.tv.c) (.slice A.iv.a A.iv.n A.iv.c) (grown_trans g0 g02) (show w.heap.size ≤ w0.heap.size by have := HZ0.out; omega) kz2
      have HX := hide hX
      have GX := hide gX
      clear hX gX
      go_wp2_with fail
      go_meet
      exact ⟨_, rfl, rfl, HX.out, GX.out⟩
  case rest =>
    obtain ⟨N, rfl, rfl, hN, hg⟩ := hcut
    obtain ⟨c0, c1, c2, c3, c4, c5, c6, c7, c8⟩ := atr_cells hN
    have HG := hide hg
    clear hN
    cases bA with
    | true =>
      have E : Hid (intV xs nm z = A.i) := HA5.out.1 rfl
      clear hg
      go_wp2
      go_ret
      exact ⟨by rw [E.out]; rfl, HG.out⟩
    | false =>
      have E : Hid (intV xs nm z = z) := HA5.out.2 rfl
      clear hg
      go_wp2
      go_ret
      exact ⟨by rw [E.out]; rfl, HG.out⟩

end Go.Proofs.YtaoplfpigjkgpaaGreatDoor

namespace Go.Proofs.YtaoplfpigjkgpaaGreatDoor

abbrev R := Except Int

def mustP (b : Bool) : R Unit := if b = true then .ok () else .error 4
def stopP (e : Int) : R Unit := if e = 0 then .ok () else .error e
def wholeP (x : Int) : Int := if (if x < -1073741824 then -1073741824 else x) < 1073741824 then (if x < -1073741824 then -1073741824 else x) else 1073741824
def isTypeP (t : Int) : Bool := t == 1 || t == 6 || t == 7 || t == 9
def typP (t : Int) : R Unit := if isTypeP t = true then .ok () else .error 5
def countP (zs : List Int) : R Int := if cntE zs = 0 then .ok (prod zs) else .error (cntE zs)
def spreadP (a b : List Int) : R (List Int) := if bcE a b = 0 then .ok (bcR a b) else .error (bcE a b)
def fromEndP (x : Int) (n : Nat) : Int := if x < 0 then x + n else x
def axisO (a : Int) (rank : Nat) : Option Nat := if fromEndP a rank < 0 then none else if (rank : Int) ≤ fromEndP a rank then none else some (fromEndP a rank).toNat
def axisP (a : Int) (rank : Nat) : R Nat := match axisO a rank with
  | some i => .ok i
  | none => .error 4
def axesO (rank : Nat) : List Int → List Bool → Option (List Bool)
  | [], is => some is
  | a :: l, is => match axisO a rank with
    | none => none
    | some i => if is.getD i false = true then none else axesO rank l (is.set i true)
def axesP (l : List Int) (rank : Nat) : R (List Bool) := match axesO rank l (List.replicate rank false) with
  | some is => .ok is
  | none => .error 4
def boundedP (x : Int) (d : Nat) : Int := if (if fromEndP x d < 0 then 0 else fromEndP x d) < d then (if fromEndP x d < 0 then 0 else fromEndP x d) else d
def upToP (n : Nat) : List Int := (List.range n).map Int.ofNat
def isOnP (x : Int) : R Bool := if x = 0 then .ok false else if x = 1 then .ok true else .error 4

structure At where
  op : ByteArray
  xs : List Atr
  cs : List Cont

def At.int (n : At) (nm : ByteArray) (z : Int) : Int := intV n.xs nm z
def At.ints (n : At) (nm : ByteArray) (zs : List Int) : List Int := intsV n.xs n.cs nm zs

end Go.Proofs.YtaoplfpigjkgpaaGreatDoor
