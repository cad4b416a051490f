/- Joined texts: EAs, LnDo, LnMat, LnMade, LnOut, LnEl, MvTrDo, LnKit, MvInts. -/
import Derived.Test.YtkefdkboejimeaaGreatDoorRartAZ
import Derived.Test.YtkefdkboejimeaaGreatDoorRartBE
import Derived.Test.YtkefdkboejimeaaGreatDoorRartBB
import Derived.Deep.RegionWith
import Derived.Test.YtkefdkboejimeaaGreatDoorRartAY
import Derived.Test.YtkefdkboejimeaaGreatDoorRartAT
import Derived.BigQuiet
import Derived.Deep.RegionHeld3
import Derived.Deep.AppendLies
import Derived.Test.YtkefdkboejimeaaGreatDoorRartAV
import Derived.Test.YtkefdkboejimeaaGreatDoorRartAX
import Derived.Test.YtkefdkboejimeaaGreatDoorRartAS
import Derived.Test.YtkefdkboejimeaaGreatDoorRartAB
namespace Go.Proofs.YtkefdkboejimeaaGreatDoor

open Go.RowKit

theorem ownsRow_base {w : World} {base base' te sz n : Nat} {v : Value} {cs : List Value} (h : w.ownsRow base te sz v n cs) (hb : base' ≤ base) : w.ownsRow base' te sz v n cs := by
  obtain ⟨h1, h2 | ⟨g, cap, cur, e1, e2, e3⟩⟩ := h
  · exact ⟨h1, .inl h2⟩
  · exact ⟨h1, .inr ⟨g, cap, cur, e1, Nat.le_trans hb e2, e3⟩⟩

end Go.Proofs.YtkefdkboejimeaaGreatDoor

namespace Go.Proofs.YtkefdkboejimeaaGreatDoor

open Go.RowKit

def doR (r : R (Int × List Int)) (M : List Int → R (List Int)) : R (Int × List Int × List Int) := match r with
  | .ok (ty, l) => (M l).map fun zs => (ty, l, zs)
  | .error c => .error c

def DoQ (w : World) (r : R (Int × List Int × List Int)) (e : Ending) (w' : World) : Prop := w.grownBy w' none ∧ match r with
  | .ok (ty, l, zs) => ∃ t : Ten, t.ty = ty ∧ e = .returned (.tuple #[tval t, .int .i64 0]) ∧ Owns w' w.heap.size t.dv.v l ∧ OwnsE w' w.heap.size t.tv.v zs
  | .error c => e = .returned (.tuple #[.agg #[.int .i64 0, .slice none 0 0, .slice none 0 0], .int .i64 c])

theorem do_err {w w' : World} {r : R (Int × List Int × List Int)} {c : Int} (h : r = .error c) (hg : w.grownBy w' none) : DoQ w r (.returned (.tuple #[.agg #[.int .i64 0, .slice none 0 0, .slice none 0 0], .int .i64 c])) w' := by rw [h]; exact ⟨hg, rfl⟩

theorem do_ok {w w' : World} {r : R (Int × List Int × List Int)} {ty : Int} {l zs : List Int} {d t : Sl} (h : r = .ok (ty, l, zs)) (hg : w.grownBy w' none) (hd : Owns w' w.heap.size d.v l) (ht : OwnsE w' w.heap.size t.v zs) : DoQ w r (.returned (.tuple #[.agg #[.int .i64 ty, .slice d.a d.n d.c, .slice t.a t.n t.c], .int .i64 0])) w' := by rw [h]; exact ⟨hg, ⟨ty, d, t⟩, rfl, rfl, hd, ht⟩

theorem ret_ten2 {fn : Func} {p u : Tmp} (h : fn.results = #[.cell p 25, .tmp u]) (tmps : Array Value) (w : World) (B : Nat) (hp : tmps.getD p undef = .pointer (some ⟨B, 0, none⟩)) {a0 a1 a2 : Value}
    (hb : w.heap[B]? = some (.cells #[a0, a1, a2] 25 (0, 0))) : (results fn tmps).run Tryz.prog w = .ok (.tuple #[.agg #[a0, a1, a2], tmps.getD u undef]) w := by
  have hl := run_loadVar_row (P := Tryz.prog) w B _ 25 #[a0, a1, a2] (0, 0) _ hb Tryz.underlying25 rfl (by rw [tenInfo]; rfl)
  rw [results_cell_tmp h, hp]
  simp [asAddr, hl, Result.andThen]

theorem row_lt {w : World} {base te sz n : Nat} {v : Value} {cs : List Value} (h : w.ownsRow base te sz v n cs) {B : Nat} (hB : B < base) : v.ownBlock = none ∨ v.ownBlock ≠ some B := by
  rcases h.2 with ⟨e, -⟩ | ⟨g, cap, cur, e, hg, -⟩
  · exact .inl (by rw [e]; rfl)
  · exact .inr (by rw [e]; simp [Value.ownBlock]; omega)

end Go.Proofs.YtkefdkboejimeaaGreatDoor

namespace Go.Proofs.YtkefdkboejimeaaGreatDoor

open Go.RowKit

theorem ownsE_cells {w : World} {base : Nat} {v : Value} {zs : List Int} (h : OwnsE w base v zs) (hl : 0 < zs.length) : ∃ g, (∃ c, v = .slice (some ⟨g, 0, none⟩) zs.length c) ∧ (∀ j u, (zs.map (Value.int .i64))[j]? = some u → w.cell? ((⟨g, 0, none⟩ : Addr).add j) = some u) ∧ ∀ u ∈ zs.map (Value.int .i64), u.oneCell' = true := by
  have h1 : ∀ u ∈ zs.map (Value.int .i64), u.oneCell' = true := fun u hu => by
    obtain ⟨z, -, rfl⟩ := List.mem_map.1 hu
    rfl
  rcases h.1.2 with ⟨e, h0⟩ | ⟨g, cap, cur, e, -⟩
  · omega
  · refine ⟨g, ⟨cap, e⟩, fun j u hu => ?_, h1⟩
    have hj := (List.getElem?_eq_some_iff.1 hu).1
    rw [List.length_map] at hj
    have hr := h.1
    rw [e] at hr
    rw [Addr.add_lit, Nat.zero_add, hr.cellAt j (by omega)]
    exact hu

theorem ownsE_app {w : World} {base m n : Nat} {v : Value} {zs us : List Int} (hn : zs.length = n) (hm : us.length = m) (h : w.ownsRow base 2 1 v (n + m) (zs.map (Value.int .i64) ++ us.map (Value.int .i64))) (hl : n + m ≤ 1000000) (hz : ∀ y ∈ zs, -9223372036854775808 ≤ y ∧ y ≤ 9223372036854775807) (hu : ∀ y ∈ us, -9223372036854775808 ≤ y ∧ y ≤ 9223372036854775807) : OwnsE w base v (zs ++ us) := by
  subst hn hm
  refine ⟨by rw [List.length_append, List.map_append]; exact h, by rw [List.length_append]; omega, fun y hy => ?_⟩
  rcases List.mem_append.1 hy with hy | hy
  · exact hz y hy
  · exact hu y hy

end Go.Proofs.YtkefdkboejimeaaGreatDoor

namespace Go.Proofs.YtkefdkboejimeaaGreatDoor

open Go.RowKit

structure ShpM (x y : List Int) (A : List Int) (a k b : Nat) : Prop where
  ex : x = A ++ [(a : Int), (k : Int)]
  ey : y = A ++ [(k : Int), (b : Int)]
  few : A.length ≤ 1
  cx : cntE x = 0
  cy : cntE y = 0
  cz : cntE (A ++ [(a : Int), (b : Int)]) = 0

theorem ShpM.len {x y A : List Int} {a k b : Nat} (h : ShpM x y A a k b) : x.length = A.length + 2 ∧ y.length = A.length + 2 := by
  rw [h.ex, h.ey]
  simp

end Go.Proofs.YtkefdkboejimeaaGreatDoor

namespace Go.Proofs.YtkefdkboejimeaaGreatDoor

open Go.RowKit

theorem ended_monoE {α : Type} {w w' : World} {r : R α} {Q Q' : α → Value → World → Prop} {e : Ending} (h : Ended w r Q e w') (hq : ∀ a v, r = .ok a → Q a v w' → Q' a v w') : Ended w r Q' e w' := by
  cases r with
  | error c => exact h
  | ok a =>
    obtain ⟨hg, v, he, hv⟩ := h
    exact ⟨hg, v, he, hq a v rfl hv⟩

theorem bare_in (w : World) (op out : ByteArray) (iv : Sl) (ins : List ByteArray) (hi : IsStrs w iv.v ins) : NodeIn w ⟨op, ⟨#[]⟩, iv, out, nilS⟩ ins [] [] :=
  ⟨hi, OwnsL.isL (te := 38) (base := 0) acells_len (OwnsL.nil ..) (by simp), (fun j a h => by simp at h), by simp, (fun a h => by cases h)⟩

theorem bare_ok (w : World) (op out : ByteArray) (iv : Sl) : NodeOk w ⟨op, ⟨#[]⟩, iv, out, nilS⟩ ⟨op, [], []⟩ :=
  ⟨rfl, OwnsL.isL (te := 38) (base := 0) acells_len (OwnsL.nil ..) (by simp), (fun j a h => by simp at h), (fun a h => by cases h)⟩

def outM (t0 t1 : Int) (x y : List Int) (d : R (List Int)) : R (Int × List Int) :=
  (typP t0).bind fun _ => (countP x).bind fun _ => (typP t1).bind fun _ => (countP y).bind fun _ => (sameP [t0, t1]).bind fun t => (mustP (t == 1)).bind fun _ => d.bind fun d => (countP d).bind fun _ => .ok (1, d)

theorem bind_assocE {α β γ : Type} (r : R α) (f : α → R β) (g : β → R γ) : (r.bind f).bind g = r.bind fun a => (f a).bind g := by cases r <;> rfl

theorem valueM (v0 v1 : Val) (x y : List Int) (d : R (List Int)) : valueP 0 true [(v0, x), (v1, y)] ((sameP (tysOf [(v0, x), (v1, y)])).bind (fun t => (mustP (t == 1)).bind (fun _ => .ok (1 : Int)))) d [] = outM v0.ty v1.ty x y d := by
  unfold valueP outM
  simp only [stopP, mustP, if_true, vinP, tysOf, List.map_cons, List.map_nil, thenP, bind_assocE]
  rfl

theorem isType_of {t : Int} (h : typP t = .ok ()) : isTypeP t = true := by
  unfold typP at h
  by_cases hb : isTypeP t = true
  · exact hb
  · rw [if_neg hb] at h
    cases h

theorem bind_ok {α β : Type} {r : R α} {f : α → R β} {b : β} (h : r.bind f = .ok b) : ∃ a, r = .ok a ∧ f a = .ok b := by
  cases r with
  | error c => cases h
  | ok a => exact ⟨a, rfl, h⟩

theorem count_ok {x : List Int} {n : Int} (h : countP x = .ok n) : cntE x = 0 := by
  unfold countP at h
  split at h
  · assumption
  · cases h

theorem vin2 {v0 v1 : Val} {x y : List Int} (h : vinP [(v0, x), (v1, y)] = .ok ()) : (∀ s ∈ tysOf [(v0, x), (v1, y)], isTypeP s = true) ∧ cntE x = 0 ∧ cntE y = 0 := by
  simp only [vinP] at h
  obtain ⟨_, h1, h⟩ := bind_ok h
  obtain ⟨_, h2, h⟩ := bind_ok h
  obtain ⟨_, h3, h⟩ := bind_ok h
  obtain ⟨_, h4, h⟩ := bind_ok h
  refine ⟨fun s hs => ?_, count_ok h2, count_ok h4⟩
  simp only [tysOf, List.map_cons, List.map_nil, List.mem_cons, List.not_mem_nil, or_false] at hs
  rcases hs with rfl | rfl
  · exact isType_of h1
  · exact isType_of h3

end Go.Proofs.YtkefdkboejimeaaGreatDoor

namespace Go.Proofs.YtkefdkboejimeaaGreatDoor

open Go.RowKit

def Nz {α : Type} (r : R α) : Prop := ∀ c, r = .error c → c ≠ 0

theorem Nz.bind {α β : Type} {r : R α} {f : α → R β} (h : Nz r) (k : ∀ a, r = .ok a → Nz (f a)) : Nz (r.bind f) := by
  cases r with
  | error c => intro d hd; exact h d (by cases hd; rfl)
  | ok a => exact k a rfl

theorem nz_ok {α : Type} (a : α) : Nz (Except.ok a : R α) := fun c h => by cases h
theorem nz_typ (t : Int) : Nz (typP t) := by
  intro c h
  unfold typP at h
  split at h
  · cases h
  · cases h; omega
theorem nz_must (b : Bool) : Nz (mustP b) := by
  intro c h
  unfold mustP at h
  split at h
  · cases h
  · cases h; omega
theorem nz_count (x : List Int) : Nz (countP x) := by
  intro c h
  unfold countP at h
  split at h
  · cases h
  · rename_i h1; cases h; exact h1
theorem nz_spread (x y : List Int) : Nz (spreadP x y) := by
  intro c h
  unfold spreadP at h
  split at h
  · cases h
  · rename_i h1; cases h; exact h1
theorem nz_same (t0 t1 : Int) : Nz (sameP [t0, t1]) := by
  intro c h
  simp only [sameP] at h
  split at h
  · cases h
  · cases h; omega

theorem nz_outM (t0 t1 : Int) (x y : List Int) (d : R (List Int)) (hd : Nz d) : Nz (outM t0 t1 x y d) :=
  (nz_typ _).bind fun _ _ => (nz_count _).bind fun _ _ => (nz_typ _).bind fun _ _ => (nz_count _).bind fun _ _ => (nz_same _ _).bind fun _ _ => (nz_must _).bind fun _ _ => hd.bind fun _ _ => (nz_count _).bind fun _ _ => nz_ok _

theorem nz_node {ps : List (Ten × Tq)} {r : R (Int × List Int)} (h : Nz r) : Nz (nodeP ps r) := by
  unfold nodeP
  split
  · exact h
  · intro c hc; cases hc; omega

theorem node_inv {ps : List (Ten × Tq)} {r : R (Int × List Int)} {a : Int × List Int} (h : nodeP ps r = .ok a) : ps.all okT = true ∧ r = .ok a := by
  unfold nodeP at h
  split at h
  · rename_i h1; exact ⟨h1, h⟩
  · cases h

theorem must_ok {b : Bool} {a : Unit} (h : mustP b = .ok a) : b = true := by
  unfold mustP at h
  split at h
  · assumption
  · cases h

theorem pb_inv {ty : Int} {x xs : List Int} (h : pbE ty x xs = 0) : cntE x = 0 ∧ (xs.length : Int) = prod x := by
  unfold pbE at h
  split at h
  · omega
  · split at h
    · rename_i h1; exact absurd h h1
    · rename_i h1
      have h1' : cntE x = 0 := by omega
      split at h
      · omega
      · rename_i h2
        refine ⟨h1', ?_⟩
        have : (xs.length : Int) = cnt x := by omega
        rw [this, cnt, if_pos h1']

theorem outM_inv {t0 t1 ty : Int} {x y l : List Int} {d : R (List Int)} (h : outM t0 t1 x y d = .ok (ty, l)) : ty = 1 ∧ t0 = 1 ∧ t1 = 1 ∧ cntE x = 0 ∧ cntE y = 0 ∧ d = .ok l ∧ cntE l = 0 := by
  unfold outM at h
  obtain ⟨_, -, h⟩ := bind_ok h
  obtain ⟨_, hx, h⟩ := bind_ok h
  obtain ⟨_, -, h⟩ := bind_ok h
  obtain ⟨_, hy, h⟩ := bind_ok h
  obtain ⟨t, hs, h⟩ := bind_ok h
  obtain ⟨_, hm, h⟩ := bind_ok h
  obtain ⟨d', hd, h⟩ := bind_ok h
  obtain ⟨_, hc, h⟩ := bind_ok h
  cases h
  have e := must_ok hm
  simp only [beq_iff_eq] at e
  subst e
  simp only [sameP, List.all_cons, List.all_nil, Bool.and_true, beq_iff_eq] at hs
  split at hs
  · rename_i h1
    cases hs
    exact ⟨rfl, rfl, h1, count_ok hx, count_ok hy, hd, count_ok hc⟩
  · cases hs

def tq (t : Int) (x xs : List Int) : Ten × Tq := (⟨t, nilS, nilS⟩, (x, xs))

theorem two_valsL {vs : List (Val × List Int)} {t0 t1 : Int} {x y : List Int} (h1 : vs.map (·.1.ty) = [t0, t1]) (h2 : vs.map (·.2) = [x, y]) : ∃ v0 v1, vs = [(v0, x), (v1, y)] ∧ v0.ty = t0 ∧ v1.ty = t1 := by
  match vs, h1, h2 with
  | [(v0, a), (v1, b)], h1, h2 =>
    simp only [List.map_cons, List.map_nil, List.cons.injEq, and_true] at h1 h2
    obtain ⟨e1, e2⟩ := h1
    obtain ⟨rfl, rfl⟩ := h2
    exact ⟨v0, v1, rfl, e1, e2⟩

end Go.Proofs.YtkefdkboejimeaaGreatDoor

namespace Go.Proofs.YtkefdkboejimeaaGreatDoor

open Go.RowKit

theorem vinT {v0 : Val} {x : List Int} (h : vinP [(v0, x)] = .ok ()) : (∀ s ∈ tysOf [(v0, x)], isTypeP s = true) ∧ cntE x = 0 := by
  simp only [vinP] at h
  obtain ⟨_, h1, h⟩ := bind_ok h
  obtain ⟨_, h2, h⟩ := bind_ok h
  refine ⟨fun s hs => ?_, count_ok h2⟩
  simp only [tysOf, List.map_cons, List.map_nil, List.mem_cons, List.not_mem_nil, or_false] at hs
  subst hs
  exact isType_of h1

theorem one_valT {vs : List (Val × List Int)} {t0 : Int} {x : List Int} (h1 : vs.map (·.1.ty) = [t0]) (h2 : vs.map (·.2) = [x]) : ∃ v0, vs = [(v0, x)] ∧ v0.ty = t0 := by
  match vs, h1, h2 with
  | [(v0, a)], h1, h2 =>
    simp only [List.map_cons, List.map_nil, List.cons.injEq, and_true] at h1 h2
    subst h2
    exact ⟨v0, rfl, h1⟩

theorem nz_typT {t c : Int} (h : typP t = .error c) : c ≠ 0 := by
  unfold typP at h
  split at h
  · cases h
  · cases h; decide

theorem nz_cntT {x : List Int} {c : Int} (h : countP x = .error c) : c ≠ 0 := by
  unfold countP at h
  split at h
  · cases h
  · rename_i h1
    cases h
    exact h1

end Go.Proofs.YtkefdkboejimeaaGreatDoor

namespace Go.Proofs.YtkefdkboejimeaaGreatDoor

open Go.RowKit

theorem up_alloc {x : World} {i : Nat} {o : Obj} (p : Obj) (h : x.heap[i]? = some o) : (x.alloc p).heap[i]? = some o := ((grown_new x p).block i (Array.getElem?_eq_some_iff.1 h).1 (by simp)).trans h

theorem new_alloc {x : World} {i : Nat} (p : Obj) (h : x.heap.size = i) : (x.alloc p).heap[i]? = some p ∧ (x.alloc p).heap.size = i + 1 := by
  subst h
  exact ⟨heap_alloc_new x p, by simp⟩

theorem blk_ints {w : World} {B te : Nat} {zs : List Int} (h : w.heap[B]? = some (.cells (zs.map (Value.int .i64)).toArray te (0, 0))) (hl : zs.length ≤ 1000) (hz : ∀ z ∈ zs, -9223372036854775808 ≤ z ∧ z ≤ 9223372036854775807) : IsInts w (.slice (some ⟨B, 0, none⟩) zs.length zs.length) zs := by
  refine ⟨_, _, rfl, Nat.le_refl _, by omega, by omega, (fun h => by cases h), fun _ => ⟨B, 0, rfl, fun t ht => ?_⟩, hz⟩
  rw [Nat.zero_add, cell_of_row _ _ t _ _ (0, 0) h]
  simp [List.getD, ht]

theorem blk_tens {w : World} {B : Nat} {cur : Array Value} {ps : List (Ten × Tq)} (h : w.heap[B]? = some (.cells cur 25 (0, 0))) (hc : cur.toList = (ps.map (·.1)).flatMap tcells) (hs : cur.size = ps.length * 3) (hl : ps.length ≤ 1000) (hh : ∀ p ∈ ps, IsInts w p.1.dv.v p.2.1 ∧ IsInts w p.1.tv.v p.2.2) : TensIn w (.slice (some ⟨B, 0, none⟩) ps.length ps.length) ps := by
  refine ⟨?_, hh⟩
  have e : ps.length = (ps.map (·.1)).length := by rw [List.length_map]
  rw [e]
  exact lit_isLG (te := 25) (bytes := 56) tcells_len h hc (by rw [hs, e]) (by rw [← e]; omega) (by rw [← e]; omega)

theorem two_tens {w : World} {B : Nat} (X Y : Ten) {x y xs ys : List Int} (h : w.heap[B]? = some (.cells #[.int .i64 X.ty, .slice X.dv.a X.dv.n X.dv.c, .slice X.tv.a X.tv.n X.tv.c, .int .i64 Y.ty, .slice Y.dv.a Y.dv.n Y.dv.c, .slice Y.tv.a Y.tv.n Y.tv.c] 25 (0, 0))) (h1 : IsInts w X.dv.v x) (h2 : IsInts w X.tv.v xs) (h3 : IsInts w Y.dv.v y) (h4 : IsInts w Y.tv.v ys) : TensIn w (.slice (some ⟨B, 0, none⟩) 2 2) [(X, (x, xs)), (Y, (y, ys))] := by
  refine blk_tens (ps := [(X, (x, xs)), (Y, (y, ys))]) h rfl rfl (by simp) fun p hp => ?_
  simp only [List.mem_cons, List.not_mem_nil, or_false] at hp
  rcases hp with rfl | rfl
  · exact ⟨h1, h2⟩
  · exact ⟨h3, h4⟩

theorem one_ten {w : World} {B : Nat} (X : Ten) {x xs : List Int} (h : w.heap[B]? = some (.cells #[.int .i64 X.ty, .slice X.dv.a X.dv.n X.dv.c, .slice X.tv.a X.tv.n X.tv.c] 25 (0, 0))) (h1 : IsInts w X.dv.v x) (h2 : IsInts w X.tv.v xs) : TensIn w (.slice (some ⟨B, 0, none⟩) 1 1) [(X, (x, xs))] := by
  refine blk_tens (ps := [(X, (x, xs))]) h rfl rfl (by simp) fun p hp => ?_
  simp only [List.mem_cons, List.not_mem_nil, or_false] at hp
  subst hp
  exact ⟨h1, h2⟩

def rTy : R (Int × List Int × List Int) → Int
  | .ok (t, _, _) => t
  | .error _ => 0
def rL : R (Int × List Int × List Int) → List Int
  | .ok (_, l, _) => l
  | .error _ => []
def rZ : R (Int × List Int × List Int) → List Int
  | .ok (_, _, z) => z
  | .error _ => []
def rC : R (Int × List Int × List Int) → Int
  | .ok _ => 0
  | .error c => c

theorem do_any {w w' : World} {r : R (Int × List Int × List Int)} {e : Ending} (h : DoQ w r e w') : w.grownBy w' none ∧ ∃ d t : Sl, e = .returned (.tuple #[.agg #[.int .i64 (rTy r), .slice d.a d.n d.c, .slice t.a t.n t.c], .int .i64 (rC r)]) ∧ IsInts w' d.v (rL r) ∧ IsInts w' t.v (rZ r) := by
  obtain ⟨hg, h⟩ := h
  refine ⟨hg, ?_⟩
  cases r with
  | error c => exact ⟨⟨none, 0, 0⟩, ⟨none, 0, 0⟩, h, (owns_nil w' 0).ints, (owns_nil w' 0).ints⟩
  | ok rr =>
    obtain ⟨ty, l, zs⟩ := rr
    obtain ⟨⟨ty', d, t⟩, e1, e2, od, ot⟩ := h
    simp only at e1
    subst e1
    exact ⟨d, t, e2, od.ints, ot.ints⟩

def Told (w : World) (e : Ending) (w' : World) : Prop := ∃ b, e = .returned (.bool b) ∧ w.grownBy w' none

end Go.Proofs.YtkefdkboejimeaaGreatDoor

namespace Go.Proofs.YtkefdkboejimeaaGreatDoor

open Go.RowKit

def inA (nm : ByteArray) (s : Sl) : Atr := ⟨nm, 7, 0, 0, ⟨#[]⟩, 0, nilS, nilS, s⟩

def inAt (op nm : ByteArray) (s : Sl) (P : List Int) : At := ⟨op, [inA nm s], [⟨[], [], P⟩]⟩

theorem in_attrs {w : World} {B : Nat} {nm : ByteArray} {s : Sl} (h : w.heap[B]? = some (.cells #[.string nm, .int .i64 7, .int .i64 0, .int .i64 0, .string ⟨#[]⟩, .int .i64 0, .slice none 0 0, .slice none 0 0, .slice s.a s.n s.c] 38 (0, 0))) : IsAttrs w (.slice (some ⟨B, 0, none⟩) 1 1) [inA nm s] :=
  lit_isLG (te := 38) (bytes := 136) (xs := [inA nm s]) acells_len h rfl rfl (Nat.le_of_ble_eq_true rfl) (Nat.le_of_ble_eq_true rfl)

theorem in_has {w : World} (op nm : ByteArray) {s : Sl} {P : List Int} (hp : IsInts w s.v P) : ∀ (j : Nat) (b : Atr), (inAt op nm s P).xs[j]? = some b → ∃ c, (inAt op nm s P).cs[j]? = some c ∧ Has w b c
  | 0, b, h => by
    cases h
    exact ⟨_, rfl, ⟨ints_nil w, ints_nil w, hp⟩⟩
  | _ + 1, b, h => by simp [inAt] at h

theorem in_ok {w : World} {op nm out : ByteArray} {iv s : Sl} {B : Nat} {P : List Int} (hp : IsInts w s.v P) (h : IsAttrs w (.slice (some ⟨B, 0, none⟩) 1 1) [inA nm s]) : NodeOk w ⟨op, ⟨#[]⟩, iv, out, ⟨some ⟨B, 0, none⟩, 1, 1⟩⟩ (inAt op nm s P) :=
  ⟨rfl, h, in_has op nm hp, fun b hb => by
    simp only [inAt, List.mem_cons, List.not_mem_nil, or_false] at hb
    subst hb
    show -9223372036854775808 ≤ (0 : Int) ∧ (0 : Int) ≤ 9223372036854775807
    omega⟩

theorem in_in {w : World} {op nm out : ByteArray} {iv s : Sl} {B : Nat} {P : List Int} {ins : List ByteArray} (hi : IsStrs w iv.v ins) (hp : IsInts w s.v P) (h : IsAttrs w (.slice (some ⟨B, 0, none⟩) 1 1) [inA nm s]) : NodeIn w ⟨op, ⟨#[]⟩, iv, out, ⟨some ⟨B, 0, none⟩, 1, 1⟩⟩ ins (inAt op nm s P).xs (inAt op nm s P).cs :=
  ⟨hi, h, in_has op nm hp, by simp [inAt], fun b hb => by
    simp only [inAt, List.mem_cons, List.not_mem_nil, or_false] at hb
    subst hb
    show 0 ≤ 1048576
    omega⟩

theorem x_strs {w : World} {B : Nat} (h : w.heap[B]? = some (.cells #[.string ⟨#[120]⟩] 9 (0, 0))) : IsStrs w (.slice (some ⟨B, 0, none⟩) 1 1) [⟨#[120]⟩] := lit_isLG (te := 9) (bytes := 16) (xs := [⟨#[120]⟩]) scell_len h rfl rfl (Nat.le_of_ble_eq_true rfl) (Nat.le_of_ble_eq_true rfl)

end Go.Proofs.YtkefdkboejimeaaGreatDoor
