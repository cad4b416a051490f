/- Joined texts: EAs, LnTurn, LnDo, LnMade, LnOut, LnEl, LnKit, MvWhole, MvRow, MvPlc, LnDoM, MvTrDo. -/
import Derived.Test.YtaoplfpigjkgpaaGreatDoorPartBC
import Derived.Test.YtaoplfpigjkgpaaGreatDoorPartBH
import Derived.Test.YtaoplfpigjkgpaaGreatDoorPartBD
import Derived.Deep.RegionWith
import Derived.Test.YtaoplfpigjkgpaaGreatDoorPartBB
import Derived.Test.YtaoplfpigjkgpaaGreatDoorPartAY
import Derived.BigQuiet
import Derived.Deep.RegionHeld3
import Derived.Deep.AppendLies
import Derived.Test.YtaoplfpigjkgpaaGreatDoorPartBA
import Derived.Test.YtaoplfpigjkgpaaGreatDoorPartAV
import Derived.Test.YtaoplfpigjkgpaaGreatDoorPartAX
namespace Go.Proofs.YtaoplfpigjkgpaaGreatDoor

open Go.RowKit

theorem owns64_sl {w : World} {base : Nat} {v : Value} {zs : List Int} (h : Vw.Owns64 w base v zs) : ∃ a n c, v = .slice a n c := by
  obtain ⟨a, c, e, -⟩ := (OwnsE.ints (w := w) (base := base) h).sl
  exact ⟨_, _, _, e⟩

theorem ownsRow_base {w : World} {base base' te sz n : Nat} {v : Value} {cs : List Value} (h : w.ownsRow base te sz v n cs) (hb : base' ≤ base) : w.ownsRow base' te sz v n cs := by
  obtain ⟨h1, h2 | ⟨g, cap, cur, e1, e2, e3⟩⟩ := h
  · exact ⟨h1, .inl h2⟩
  · exact ⟨h1, .inr ⟨g, cap, cur, e1, Nat.le_trans hb e2, e3⟩⟩

theorem owns64_base {w : World} {base base' : Nat} {v : Value} {zs : List Int} (h : Vw.Owns64 w base v zs) (hb : base' ≤ base) : Vw.Owns64 w base' v zs := ⟨ownsRow_base h.1 hb, h.2⟩

end Go.Proofs.YtaoplfpigjkgpaaGreatDoor

namespace Go.Proofs.YtaoplfpigjkgpaaGreatDoor

open Go.RowKit

theorem owns_zeros {w : World} {base n : Nat} {v : Value} (hn : n ≤ 1000) (h : w.ownsRow base 3 1 v n ((List.replicate n (0 : Int)).map (Value.int .i64))) : Owns w base v (List.replicate n 0) := by
  refine ⟨by rw [List.length_replicate]; exact h, by rw [List.length_replicate]; omega, fun z hz => ?_⟩
  rw [(List.mem_replicate.1 hz).2]
  omega

theorem owns_put {w : World} {base g n c : Nat} {zs : List Int} (h : Owns w base (.slice (some ⟨g, 0, none⟩) n c) zs) (hn : zs.length = n) {k : Nat} (hk : k < n) (z : Int) (hz : -9223372036854775808 ≤ z ∧ z ≤ 9223372036854775807) :
    w.cell? ⟨g, k, none⟩ = some (.int .i64 (zs.getD k 0)) ∧ w.frozen? ⟨g, k, none⟩ = false ∧ Owns (w.setCell ⟨g, k, none⟩ (.int .i64 z)) base (.slice (some ⟨g, 0, none⟩) n c) (zs.set k z) ∧ w.grownBy (w.setCell ⟨g, k, none⟩ (.int .i64 z)) (some g) := by
  subst hn
  have hr := h.1
  obtain ⟨s1, s2⟩ := hr.stored k (.int .i64 z)
  refine ⟨?_, hr.frozenAt k, ⟨?_, by rw [List.length_set]; exact h.2.1, fun y hy => ?_⟩, s2⟩
  · rw [hr.cellAt k (by omega)]
    simp [List.getD, hk]
  · rw [List.length_set, List.map_set]
    exact s1
  · rcases List.mem_or_eq_of_mem_set hy with hy | rfl
    · exact h.2.2 y hy
    · exact hz

end Go.Proofs.YtaoplfpigjkgpaaGreatDoor

namespace Go.Proofs.YtaoplfpigjkgpaaGreatDoor

open Go.RowKit

def doR (r : R (Int × List Int)) (M : List Int → R (List Int)) : R (Int × List Int × List Int) := match r with
  | .ok (ty, l) => (M l).map fun zs => (ty, l, zs)
  | .error c => .error c

def DoQ (w : World) (r : R (Int × List Int × List Int)) (e : Ending) (w' : World) : Prop := w.grownBy w' none ∧ match r with
  | .ok (ty, l, zs) => ∃ t : Ten, t.ty = ty ∧ e = .returned (.tuple #[tval t, .int .i64 0]) ∧ Owns w' w.heap.size t.dv.v l ∧ OwnsE w' w.heap.size t.tv.v zs
  | .error c => e = .returned (.tuple #[.agg #[.int .i64 0, .slice none 0 0, .slice none 0 0], .int .i64 c])

theorem do_err {w w' : World} {r : R (Int × List Int × List Int)} {c : Int} (h : r = .error c) (hg : w.grownBy w' none) : DoQ w r (.returned (.tuple #[.agg #[.int .i64 0, .slice none 0 0, .slice none 0 0], .int .i64 c])) w' := by rw [h]; exact ⟨hg, rfl⟩

theorem do_ok {w w' : World} {r : R (Int × List Int × List Int)} {ty : Int} {l zs : List Int} {d t : Sl} (h : r = .ok (ty, l, zs)) (hg : w.grownBy w' none) (hd : Owns w' w.heap.size d.v l) (ht : OwnsE w' w.heap.size t.v zs) : DoQ w r (.returned (.tuple #[.agg #[.int .i64 ty, .slice d.a d.n d.c, .slice t.a t.n t.c], .int .i64 0])) w' := by rw [h]; exact ⟨hg, ⟨ty, d, t⟩, rfl, rfl, hd, ht⟩

theorem ret_ten2 {fn : Func} {p u : Tmp} (h : fn.results = #[.cell p 32, .tmp u]) (tmps : Array Value) (w : World) (B : Nat) (hp : tmps.getD p undef = .pointer (some ⟨B, 0, none⟩)) {a0 a1 a2 : Value}
    (hb : w.heap[B]? = some (.cells #[a0, a1, a2] 32 (0, 0))) : (results fn tmps).run Tryz.prog w = .ok (.tuple #[.agg #[a0, a1, a2], tmps.getD u undef]) w := by
  have hl := run_loadVar_row (P := Tryz.prog) w B _ 32 #[a0, a1, a2] (0, 0) _ hb Tryz.underlying32 rfl (by rw [tenInfo]; rfl)
  rw [results_cell_tmp h, hp]
  simp [asAddr, hl, Result.andThen]

theorem row_lt {w : World} {base te sz n : Nat} {v : Value} {cs : List Value} (h : w.ownsRow base te sz v n cs) {B : Nat} (hB : B < base) : v.ownBlock = none ∨ v.ownBlock ≠ some B := by
  rcases h.2 with ⟨e, -⟩ | ⟨g, cap, cur, e, hg, -⟩
  · exact .inl (by rw [e]; rfl)
  · exact .inr (by rw [e]; simp [Value.ownBlock]; omega)

end Go.Proofs.YtaoplfpigjkgpaaGreatDoor

namespace Go.Proofs.YtaoplfpigjkgpaaGreatDoor

open Go.RowKit

structure ShpM (x y : List Int) (A : List Int) (a k b : Nat) : Prop where
  ex : x = A ++ [(a : Int), (k : Int)]
  ey : y = A ++ [(k : Int), (b : Int)]
  few : A.length ≤ 1
  cx : cntE x = 0
  cy : cntE y = 0
  cz : cntE (A ++ [(a : Int), (b : Int)]) = 0

theorem ShpM.len {x y A : List Int} {a k b : Nat} (h : ShpM x y A a k b) : x.length = A.length + 2 ∧ y.length = A.length + 2 := by
  rw [h.ex, h.ey]
  simp

end Go.Proofs.YtaoplfpigjkgpaaGreatDoor

namespace Go.Proofs.YtaoplfpigjkgpaaGreatDoor

open Go.RowKit

theorem ended_monoE {α : Type} {w w' : World} {r : R α} {Q Q' : α → Value → World → Prop} {e : Ending} (h : Ended w r Q e w') (hq : ∀ a v, r = .ok a → Q a v w' → Q' a v w') : Ended w r Q' e w' := by
  cases r with
  | error c => exact h
  | ok a =>
    obtain ⟨hg, v, he, hv⟩ := h
    exact ⟨hg, v, he, hq a v rfl hv⟩

theorem bare_in (w : World) (op out : ByteArray) (iv : Sl) (ins : List ByteArray) (hi : IsStrs w iv.v ins) : NodeIn w ⟨op, ⟨#[]⟩, iv, out, nilS⟩ ins [] [] :=
  ⟨hi, OwnsL.isL (te := 41) (base := 0) acells_len (OwnsL.nil ..) (by simp), (fun j a h => by simp at h), by simp, (fun a h => by cases h)⟩

theorem bare_ok (w : World) (op out : ByteArray) (iv : Sl) : NodeOk w ⟨op, ⟨#[]⟩, iv, out, nilS⟩ ⟨op, [], []⟩ :=
  ⟨rfl, OwnsL.isL (te := 41) (base := 0) acells_len (OwnsL.nil ..) (by simp), (fun j a h => by simp at h), (fun a h => by cases h)⟩

theorem bind_assocE {α β γ : Type} (r : R α) (f : α → R β) (g : β → R γ) : (r.bind f).bind g = r.bind fun a => (f a).bind g := by cases r <;> rfl

theorem isType_of {t : Int} (h : typP t = .ok ()) : isTypeP t = true := by
  unfold typP at h
  by_cases hb : isTypeP t = true
  · exact hb
  · rw [if_neg hb] at h
    cases h

theorem bind_ok {α β : Type} {r : R α} {f : α → R β} {b : β} (h : r.bind f = .ok b) : ∃ a, r = .ok a ∧ f a = .ok b := by
  cases r with
  | error c => cases h
  | ok a => exact ⟨a, rfl, h⟩

theorem count_ok {x : List Int} {n : Int} (h : countP x = .ok n) : cntE x = 0 := by
  unfold countP at h
  split at h
  · assumption
  · cases h

theorem vin2 {v0 v1 : Val} {x y : List Int} (h : vinP [(v0, x), (v1, y)] = .ok ()) : (∀ s ∈ tysOf [(v0, x), (v1, y)], isTypeP s = true) ∧ cntE x = 0 ∧ cntE y = 0 := by
  simp only [vinP] at h
  obtain ⟨_, h1, h⟩ := bind_ok h
  obtain ⟨_, h2, h⟩ := bind_ok h
  obtain ⟨_, h3, h⟩ := bind_ok h
  obtain ⟨_, h4, h⟩ := bind_ok h
  refine ⟨fun s hs => ?_, count_ok h2, count_ok h4⟩
  simp only [tysOf, List.map_cons, List.map_nil, List.mem_cons, List.not_mem_nil, or_false] at hs
  rcases hs with rfl | rfl
  · exact isType_of h1
  · exact isType_of h3

end Go.Proofs.YtaoplfpigjkgpaaGreatDoor

namespace Go.Proofs.YtaoplfpigjkgpaaGreatDoor

open Go.RowKit

def Nz {α : Type} (r : R α) : Prop := ∀ c, r = .error c → c ≠ 0

theorem Nz.bind {α β : Type} {r : R α} {f : α → R β} (h : Nz r) (k : ∀ a, r = .ok a → Nz (f a)) : Nz (r.bind f) := by
  cases r with
  | error c => intro d hd; exact h d (by cases hd; rfl)
  | ok a => exact k a rfl

theorem nz_ok {α : Type} (a : α) : Nz (Except.ok a : R α) := fun c h => by cases h
theorem nz_typ (t : Int) : Nz (typP t) := by
  intro c h
  unfold typP at h
  split at h
  · cases h
  · cases h; omega
theorem nz_must (b : Bool) : Nz (mustP b) := by
  intro c h
  unfold mustP at h
  split at h
  · cases h
  · cases h; omega
theorem nz_count (x : List Int) : Nz (countP x) := by
  intro c h
  unfold countP at h
  split at h
  · cases h
  · rename_i h1; cases h; exact h1
theorem nz_spread (x y : List Int) : Nz (spreadP x y) := by
  intro c h
  unfold spreadP at h
  split at h
  · cases h
  · rename_i h1; cases h; exact h1
theorem nz_same (t0 t1 : Int) : Nz (sameP [t0, t1]) := by
  intro c h
  simp only [sameP] at h
  split at h
  · cases h
  · cases h; omega

theorem nz_node {ps : List (Ten × Tq)} {r : R (Int × List Int)} (h : Nz r) : Nz (nodeP ps r) := by
  unfold nodeP
  split
  · exact h
  · intro c hc; cases hc; omega

theorem node_inv {ps : List (Ten × Tq)} {r : R (Int × List Int)} {a : Int × List Int} (h : nodeP ps r = .ok a) : ps.all okT = true ∧ r = .ok a := by
  unfold nodeP at h
  split at h
  · rename_i h1; exact ⟨h1, h⟩
  · cases h

theorem pb_inv {ty : Int} {x xs : List Int} (h : pbE ty x xs = 0) : cntE x = 0 ∧ (xs.length : Int) = prod x := by
  unfold pbE at h
  split at h
  · omega
  · split at h
    · rename_i h1; exact absurd h h1
    · rename_i h1
      have h1' : cntE x = 0 := by omega
      split at h
      · omega
      · rename_i h2
        refine ⟨h1', ?_⟩
        have : (xs.length : Int) = cnt x := by omega
        rw [this, cnt, if_pos h1']

def tq (t : Int) (x xs : List Int) : Ten × Tq := (⟨t, nilS, nilS⟩, (x, xs))

theorem two_valsL {vs : List (Val × List Int)} {t0 t1 : Int} {x y : List Int} (h1 : vs.map (·.1.ty) = [t0, t1]) (h2 : vs.map (·.2) = [x, y]) : ∃ v0 v1, vs = [(v0, x), (v1, y)] ∧ v0.ty = t0 ∧ v1.ty = t1 := by
  match vs, h1, h2 with
  | [(v0, a), (v1, b)], h1, h2 =>
    simp only [List.map_cons, List.map_nil, List.cons.injEq, and_true] at h1 h2
    obtain ⟨e1, e2⟩ := h1
    obtain ⟨rfl, rfl⟩ := h2
    exact ⟨v0, v1, rfl, e1, e2⟩

end Go.Proofs.YtaoplfpigjkgpaaGreatDoor

namespace Go.Proofs.YtaoplfpigjkgpaaGreatDoor

open Go.RowKit

theorem up_alloc {x : World} {i : Nat} {o : Obj} (p : Obj) (h : x.heap[i]? = some o) : (x.alloc p).heap[i]? = some o := ((grown_new x p).block i (Array.getElem?_eq_some_iff.1 h).1 (by simp)).trans h

theorem new_alloc {x : World} {i : Nat} (p : Obj) (h : x.heap.size = i) : (x.alloc p).heap[i]? = some p ∧ (x.alloc p).heap.size = i + 1 := by
  subst h
  exact ⟨heap_alloc_new x p, by simp⟩

theorem blk_ints {w : World} {B te : Nat} {zs : List Int} (h : w.heap[B]? = some (.cells (zs.map (Value.int .i64)).toArray te (0, 0))) (hl : zs.length ≤ 1000) (hz : ∀ z ∈ zs, -9223372036854775808 ≤ z ∧ z ≤ 9223372036854775807) : IsInts w (.slice (some ⟨B, 0, none⟩) zs.length zs.length) zs := by
  refine ⟨_, _, rfl, Nat.le_refl _, by omega, by omega, (fun h => by cases h), fun _ => ⟨B, 0, rfl, fun t ht => ?_⟩, hz⟩
  rw [Nat.zero_add, cell_of_row _ _ t _ _ (0, 0) h]
  simp [List.getD, ht]

theorem blk_tens {w : World} {B : Nat} {cur : Array Value} {ps : List (Ten × Tq)} (h : w.heap[B]? = some (.cells cur 32 (0, 0))) (hc : cur.toList = (ps.map (·.1)).flatMap tcells) (hs : cur.size = ps.length * 3) (hl : ps.length ≤ 1000) (hh : ∀ p ∈ ps, IsInts w p.1.dv.v p.2.1 ∧ IsInts w p.1.tv.v p.2.2) : TensIn w (.slice (some ⟨B, 0, none⟩) ps.length ps.length) ps := by
  refine ⟨?_, hh⟩
  have e : ps.length = (ps.map (·.1)).length := by rw [List.length_map]
  rw [e]
  exact lit_isLG (te := 32) (bytes := 56) tcells_len h hc (by rw [hs, e]) (by rw [← e]; omega) (by rw [← e]; omega)

theorem two_tens {w : World} {B : Nat} (X Y : Ten) {x y xs ys : List Int} (h : w.heap[B]? = some (.cells #[.int .i64 X.ty, .slice X.dv.a X.dv.n X.dv.c, .slice X.tv.a X.tv.n X.tv.c, .int .i64 Y.ty, .slice Y.dv.a Y.dv.n Y.dv.c, .slice Y.tv.a Y.tv.n Y.tv.c] 32 (0, 0))) (h1 : IsInts w X.dv.v x) (h2 : IsInts w X.tv.v xs) (h3 : IsInts w Y.dv.v y) (h4 : IsInts w Y.tv.v ys) : TensIn w (.slice (some ⟨B, 0, none⟩) 2 2) [(X, (x, xs)), (Y, (y, ys))] := by
  refine blk_tens (ps := [(X, (x, xs)), (Y, (y, ys))]) h rfl rfl (by simp) fun p hp => ?_
  simp only [List.mem_cons, List.not_mem_nil, or_false] at hp
  rcases hp with rfl | rfl
  · exact ⟨h1, h2⟩
  · exact ⟨h3, h4⟩

theorem one_ten {w : World} {B : Nat} (X : Ten) {x xs : List Int} (h : w.heap[B]? = some (.cells #[.int .i64 X.ty, .slice X.dv.a X.dv.n X.dv.c, .slice X.tv.a X.tv.n X.tv.c] 32 (0, 0))) (h1 : IsInts w X.dv.v x) (h2 : IsInts w X.tv.v xs) : TensIn w (.slice (some ⟨B, 0, none⟩) 1 1) [(X, (x, xs))] := by
  refine blk_tens (ps := [(X, (x, xs))]) h rfl rfl (by simp) fun p hp => ?_
  simp only [List.mem_cons, List.not_mem_nil, or_false] at hp
  subst hp
  exact ⟨h1, h2⟩

theorem xy_strs {w : World} {B : Nat} (h : w.heap[B]? = some (.cells #[.string ⟨#[120]⟩, .string ⟨#[121]⟩] 9 (0, 0))) : IsStrs w (.slice (some ⟨B, 0, none⟩) 2 2) [⟨#[120]⟩, ⟨#[121]⟩] := lit_isLG (te := 9) (bytes := 16) (xs := [⟨#[120]⟩, ⟨#[121]⟩]) scell_len h rfl rfl (Nat.le_of_ble_eq_true rfl) (Nat.le_of_ble_eq_true rfl)

def rTy : R (Int × List Int × List Int) → Int
  | .ok (t, _, _) => t
  | .error _ => 0
def rL : R (Int × List Int × List Int) → List Int
  | .ok (_, l, _) => l
  | .error _ => []
def rZ : R (Int × List Int × List Int) → List Int
  | .ok (_, _, z) => z
  | .error _ => []
def rC : R (Int × List Int × List Int) → Int
  | .ok _ => 0
  | .error c => c

def Told (w : World) (e : Ending) (w' : World) : Prop := ∃ b, e = .returned (.bool b) ∧ w.grownBy w' none

end Go.Proofs.YtaoplfpigjkgpaaGreatDoor

namespace Go.Proofs.YtaoplfpigjkgpaaGreatDoor

open Go.RowKit

theorem take_set (l : List Int) (k : Nat) (hk : k < l.length) : (l.take k ++ List.replicate (l.length - k) (0 : Int)).set k (l.getD k 0) = l.take (k + 1) ++ List.replicate (l.length - (k + 1)) 0 := by
  rw [List.set_append_right _ _ (by rw [List.length_take]; omega), List.length_take, Nat.min_eq_left (by omega), Nat.sub_self, show l.length - k = (l.length - (k + 1)) + 1 from by omega, List.replicate_succ, List.set_cons_zero, List.take_add_one, List.getElem?_eq_getElem (by omega), Option.toList_some, List.append_assoc]
  have e : l.getD k 0 = l[k] := by simp [List.getD, hk]
  rw [e]
  rfl

end Go.Proofs.YtaoplfpigjkgpaaGreatDoor

namespace Go.Proofs.YtaoplfpigjkgpaaGreatDoor

open Go.RowKit

theorem mcount_any (v : Value) (zs : List Int) (w : World) (h : IsInts w v zs) : Calls Tryz.prog 56 #[v] w fun e w' => e = .returned (.int .i64 (cnt zs)) ∧ w = w' := by
  have CN := hide (count_any v zs w h)
  obtain ⟨a, c, rfl, -⟩ := h.sl
  clear h
  go_enter Tryz.func56, Tryz.ntmps56
  go_wp2_with fail
  refine CN.out.mono ?_
  rintro e w' ⟨rfl, rfl⟩
  go_wp2
  go_ret
  exact ⟨rfl, rfl⟩

theorem ints_tail {w : World} {b off n c : Nat} {zs : List Int} (h : IsInts w (.slice (some ⟨b, off, none⟩) n c) zs) (p m c' : Nat) (hp : p + m = zs.length) (hc : p + c' = c) : IsInts w (.slice (some ⟨b, off + p, none⟩) m c') (zs.drop p) := by
  have hl := h.sl
  obtain ⟨_, _, e, h1, -⟩ := hl
  simp only [Value.slice.injEq] at e
  obtain ⟨-, -, rfl⟩ := e
  have k := ints_part h p m c' (by omega) (by omega) (by omega)
  rw [List.take_of_length_le (by rw [List.length_drop]; omega)] at k
  exact k

theorem ints_none {w : World} {a : Addr} : IsInts w (.slice (some a) 0 0) [] := ⟨some a, 0, rfl, by simp, by simp, by simp, (fun h => by cases h), (fun h => by simp at h), fun z hz => by simp at hz⟩

set_option maxRecDepth 100000 in
set_option maxHeartbeats 8000000 in
theorem mrow_any (t : Ten) (ds ts : List Int) (ax M i W : Nat) (w : World) (hd : IsInts w t.dv.v ds) (ht : IsInts w t.tv.v ts) (h1 : 1 ≤ ds.length) (ha : ax + M = ds.length) (hW : cnt (ds.drop ax) = (W : Int)) (hW1 : 1 ≤ W) (hb : i * W + W ≤ ts.length) (hs : ts.length ≤ 65536) :
    Calls Tryz.prog 58 #[tval t, .int .i64 ax, .int .i64 i] w fun e w' => ∃ u : Sl, e = .returned u.v ∧ IsInts w' u.v ((ts.drop (i * W)).take W) ∧ w.grownBy w' none := by
  obtain ⟨ty, ⟨da, dn, dc⟩, ⟨ta, tn, tc⟩⟩ := t
  obtain ⟨_, _, e1, c1, c2, -⟩ := hd.sl
  obtain ⟨_, _, e2, c3, c4, -⟩ := ht.sl
  simp only [Sl.v, Value.slice.injEq] at e1 e2
  obtain ⟨-, rfl, rfl⟩ := e1
  obtain ⟨-, rfl, rfl⟩ := e2
  obtain ⟨b, off, rfl, -⟩ := hd.get (k := 0) (by omega)
  obtain ⟨tb, tt, rfl, -⟩ := ht.get (k := 0) (by omega)
  simp only [Sl.v] at hd ht
  obtain ⟨P, hP⟩ : ∃ P, P = i * W := ⟨_, rfl⟩
  rw [← hP] at hb ⊢
  obtain ⟨C, hC⟩ : ∃ C, dc = ax + C := ⟨dc - ax, by omega⟩
  obtain ⟨D, hD⟩ : ∃ D, tc = P + D := ⟨tc - P, by omega⟩
  have hi : i < ts.length := by
    have : i ≤ i * W := Nat.le_mul_of_pos_right _ hW1
    omega
  subst hC hD
  obtain ⟨w0, hw0⟩ : ∃ w0, w0 = w.alloc (.cells #[.int .i64 ty, .slice (some ⟨b, off, none⟩) ds.length (ax + C), .slice (some ⟨tb, tt, none⟩) ts.length (P + D)] 32) := ⟨_, rfl⟩
  have g0 : w.grownBy w0 none := by rw [hw0]; exact grown_new _ _
  have hb0 := heap_alloc_new w (.cells #[.int .i64 ty, .slice (some ⟨b, off, none⟩) ds.length (ax + C), .slice (some ⟨tb, tt, none⟩) ts.length (P + D)] 32)
  obtain ⟨x0, x1, x2⟩ := ten_cells hb0
  have IT := hide (ints_part ht P W D (by omega) (by omega) (by omega))
  have s1 : (P : Int) ≤ (P : Int) + (W : Int) := by omega
  have s2 : (0 : Int) ≤ (P : Int) + (W : Int) := by omega
  have s3 : ((P : Int) + (W : Int)).toNat = P + W := by omega
  have s4 : (W : Int) ≤ (D : Int) := by omega
  have s5 : ¬ D = 0 := by omega
  have s6 : ax ≤ ds.length := by omega
  have s7 : (ax : Int) ≤ (ds.length : Int) := by omega
  have WI : Hid (wrap64 ((i : Int) * (W : Int)) = (P : Int)) := by
    show _ = _
    rw [← Int.natCast_mul, ← hP]
    exact wrap64_id (Int.natCast_nonneg _) (Int.ofNat_le.2 (show P ≤ 1000000 by omega))
  have WJ : Hid (wrap64 (((i : Int) + 1) * (W : Int)) = (P : Int) + (W : Int)) := by
    show _ = _
    rw [Int.add_mul, Int.one_mul, ← Int.natCast_mul, ← hP, ← Int.natCast_add]
    exact wrap64_id (Int.natCast_nonneg _) (Int.ofNat_le.2 (show P + W ≤ 1000000 by omega))
  have WK : Hid (wrap64 ((i : Int) + 1) = (i : Int) + 1) := by
    show _ = _
    rw [show (i : Int) + 1 = ((i + 1 : Nat) : Int) from by omega]
    exact wrap64_id (Int.natCast_nonneg _) (Int.ofNat_le.2 (show i + 1 ≤ 1000000 by omega))
  have G0 := hide g0
  unfold tval
  simp only [Sl.v]
  by_cases hC0 : C = 0
  · subst hC0
    obtain rfl : M = 0 := by omega
    have e3 : ds.length = ax := by omega
    have CN := hide (mcount_any (.slice (some ⟨b, off, none⟩) 0 0) [] w0 ints_none)
    rw [show ds.drop ax = [] from List.drop_of_length_le (by omega)] at hW
    rw [hW] at CN
    rw [e3] at hw0 x0 x1 x2 ⊢
    simp only [Nat.add_zero] at hw0 x0 x1 x2 ⊢
    clear hd ht hb hs hi c1 c2 c3 c4 h1 ha hb0 g0 e3 hP
    have wi := WI.out
    have wj := WJ.out
    have wk := WK.out
    go_enter Tryz.func58, Tryz.ntmps58
    go_wp2_with fail
    rw [← hw0]
    refine CN.out.mono ?_
    rintro e w1 ⟨rfl, rfl⟩
    rw [hw0]
    go_wp2
    go_ret
    exact ⟨⟨_, _, _⟩, rfl, IT.out.more (by rw [← hw0]; exact G0.out), by rw [← hw0]; exact G0.out⟩
  · have CN := hide (mcount_any (.slice (some ⟨b, off + ax, none⟩) M C) (ds.drop ax) w0 ((ints_tail hd ax M C ha rfl).more g0))
    rw [hW] at CN
    rw [← ha] at hw0 x0 x1 x2 ⊢
    clear hd ht hb hs hi c1 c2 c3 c4 h1 ha hb0 g0 hP s6 s7
    have wi := WI.out
    have wj := WJ.out
    have wk := WK.out
    go_enter Tryz.func58, Tryz.ntmps58
    go_wp2_with fail
    rw [← hw0]
    refine CN.out.mono ?_
    rintro e w1 ⟨rfl, rfl⟩
    rw [hw0]
    go_wp2
    go_ret
    exact ⟨⟨_, _, _⟩, rfl, IT.out.more (by rw [← hw0]; exact G0.out), by rw [← hw0]; exact G0.out⟩

end Go.Proofs.YtaoplfpigjkgpaaGreatDoor

namespace Go.Proofs.YtaoplfpigjkgpaaGreatDoor

open Go.RowKit

def plcF (dim : Nat) (a : Int) : Int := (((axisO a dim).getD 0 : Nat) : Int)
def plcAll (dim : Nat) (l : List Int) : Bool := l.all fun a => (axisO a dim).isSome

theorem plcF_rng (dim : Nat) (hd : dim ≤ 100000000000000) (a : Int) : 0 ≤ plcF dim a ∧ plcF dim a ≤ 100000000000000 := by
  unfold plcF
  cases h : axisO a dim with
  | none => simp
  | some i =>
    have := axisO_lt h
    simp only [Option.getD_some]
    omega

theorem plc_set (f : Int → Int) (l : List Int) (k : Nat) (hk : k < l.length) : ((l.take k).map f ++ List.replicate (l.length - k) (0 : Int)).set k (f (l.getD k 0)) = (l.take (k + 1)).map f ++ List.replicate (l.length - (k + 1)) 0 := by
  rw [List.set_append_right _ _ (by rw [List.length_map, List.length_take]; omega), List.length_map, List.length_take, Nat.min_eq_left (by omega), Nat.sub_self, show l.length - k = (l.length - (k + 1)) + 1 from by omega, List.replicate_succ, List.set_cons_zero, List.take_add_one, List.getElem?_eq_getElem (by omega), Option.toList_some, List.map_append, List.append_assoc]
  have e : l.getD k 0 = l[k] := by simp [List.getD, hk]
  rw [e]
  rfl

def PlcQ (w : World) (dim : Nat) (l : List Int) (e : Ending) (w' : World) : Prop := w.grownBy w' none ∧ ((plcAll dim l = true ∧ ∃ v : Sl, e = .returned (.tuple #[.slice v.a v.n v.c, .bool true]) ∧ IsInts w' v.v (l.map (plcF dim))) ∨ (plcAll dim l = false ∧ e = .returned (.tuple #[.slice none 0 0, .bool false])))

set_option maxRecDepth 100000 in
set_option maxHeartbeats 8000000 in
theorem gplaces_any (u : Sl) (l : List Int) (dim : Nat) (w : World) (hv : IsInts w u.v l) (hl : l.length ≤ 70000) (hdim : dim ≤ 100000000000000) : Calls Tryz.prog 60 #[.slice u.a u.n u.c, .int .i64 dim] w (PlcQ w dim l) := by
  obtain ⟨i0, hi0, hz0, hz1, hz2⟩ := info_parts infoInt
  obtain ⟨ua, un, uc⟩ := u
  obtain ⟨ux, c, eu, c1, c2, c3⟩ := hv.sl
  simp only [Sl.v, Value.slice.injEq] at eu
  obtain ⟨rfl, rfl, rfl⟩ := eu
  have HV := hide hv
  have hb4 : i0.bytes * l.length ≤ 281474976710656 := by rw [hz2]; omega
  have hb5 : l.length ≤ maxLen := by simp only [maxLen]; omega
  clear hv
  go_enter Tryz.func60, Tryz.ntmps60
  go_wp2_with (first | (refine wpList_make_full _ rfl (.tmp 12) (.tmp 12) 29 rfl w.heap.size 3 i0 (.int .i64 0) 1 Tryz.underlying29 hi0 hz0 hz1 .i64 .i64 _ _ l.length rfl rfl (by omega) (by omega) hb4 hb5 (Nat.le_refl _) ?_; intro w1 hown1 hg1))
  rw [made_zeros] at hown1
  have O1 : Hid (Owns w1 w.heap.size (.slice (some ⟨w.heap.size, 0, none⟩) l.length l.length) (List.replicate l.length 0)) := by
    refine ⟨by rw [List.length_replicate]; exact hown1, by rw [List.length_replicate]; omega, fun z hz => ?_⟩
    rw [(List.mem_replicate.1 hz).2]
    omega
  have G1 := hide hg1
  clear hown1 hg1 hb4 hb5
  go_wp2
  go_loopw [16] (fun x wr => w.grownBy wr none ∧ ∃ k : Nat, k ≤ l.length ∧ x = .int .i64 k ∧ plcAll dim (l.take k) = true ∧ Owns wr w.heap.size (.slice (some ⟨w.heap.size, 0, none⟩) l.length l.length) ((l.take k).map (plcF dim) ++ List.replicate (l.length - k) 0)) (fun x _ => l.length - (intOf x).toNat)
  case atStart => exact ⟨G1.out, 0, Nat.zero_le _, rfl, rfl, by simpa using O1.out⟩
  case round =>
    obtain ⟨hg, k, hk, rfl, hall, o1⟩ := hrel
    have HG := hide hg
    have P1 := hide o1
    have HA := hide hall
    clear o1 hall
    by_cases hlt : k < l.length
    · obtain ⟨b, off, rfl, hc⟩ := HV.out.get hlt
      have hcell := cell_still (hc k hlt) hg
      have hrz := HV.out.wf (l.getD k 0) (by rw [List.getD, List.getElem?_eq_getElem hlt]; simp)
      have hpr := plcF_rng dim hdim (l.getD k 0)
      obtain ⟨a1, a2, a3, a4⟩ := owns_put P1.out (by rw [List.length_append, List.length_map, List.length_take, List.length_replicate]; omega) hlt (plcF dim (l.getD k 0)) (by omega)
      rw [plc_set _ l k hlt] at a3
      have N1 := hide a3
      have NG := hide (grown_drop hg a4 (Nat.le_refl _))
      have TS : Hid (plcAll dim (l.take (k + 1)) = (axisO (l.getD k 0) dim).isSome) := by
        show _ = _
        have h := HA.out
        unfold plcAll at h ⊢
        rw [take_step l k hlt, List.all_append, h, Bool.true_and]
        simp only [List.all_cons, List.all_nil, Bool.and_true]
      have FN : Hid ((axisO (l.getD k 0) dim).isSome = false → plcAll dim l = false) := fun h => by
        unfold plcAll
        rw [List.all_eq_false]
        exact ⟨l.getD k 0, by rw [List.getD, List.getElem?_eq_getElem hlt]; simp, by rw [h]; exact Bool.false_ne_true⟩
      obtain ⟨ov, hov⟩ : ∃ q, q = ((l.take k).map (plcF dim) ++ List.replicate (l.length - k) (0 : Int)).getD k 0 := ⟨_, rfl⟩
      rw [← hov] at a1
      obtain ⟨z, hz⟩ : ∃ z, z = l.getD k 0 := ⟨_, rfl⟩
      rw [← hz] at hcell N1 NG TS FN hrz
      have AX := hide (axis_any z dim wr hdim hrz.1)
      have l1 : (k : Int) < (l.length : Int) := by omega
      obtain ⟨y, hy⟩ : ∃ y, y = plcF dim z := ⟨_, rfl⟩
      rw [← hy] at N1 NG
      rw [show (((axisO z dim).getD 0 : Nat) : Int) = y from hy.symm] at AX
      obtain ⟨ok, hok⟩ : ∃ ok, ok = (axisO z dim).isSome := ⟨_, rfl⟩
      rw [← hok] at AX TS FN
      clear a3 a4 hg hov hz hc hrz hpr hy hok
      cases ok with
      | true =>
        go_wp2_with (go_at_call 54; refine AX.out.mono ?_; rintro e w' ⟨rfl, rfl⟩)
        go_roundw
        case rel => exact ⟨NG.out, k + 1, hlt, by go_num, TS.out, N1.out⟩
        case measure => simp [intOf]; omega
      | false =>
        go_wp2_with (go_at_call 54; refine AX.out.mono ?_; rintro e w' ⟨rfl, rfl⟩)
        go_ret2
        exact ⟨HG.out, .inr ⟨FN.out (by first | exact rfl | exact trivial), rfl⟩⟩
    · obtain rfl : k = l.length := by omega
      have E1 : (l.take l.length).map (plcF dim) ++ List.replicate (l.length - l.length) (0 : Int) = l.map (plcF dim) := by simp
      have P1' := P1.out
      rw [E1] at P1'
      have F := hide P1'.ints
      have HF : Hid (plcAll dim l = true) := by have h := HA.out; rwa [List.take_of_length_le (Nat.le_refl _)] at h
      clear P1' E1 P1 hg
      go_wp2
      go_ret2
      exact ⟨HG.out, .inl ⟨HF.out, ⟨some ⟨w.heap.size, 0, none⟩, l.length, l.length⟩, rfl, F.out⟩⟩

end Go.Proofs.YtaoplfpigjkgpaaGreatDoor

namespace Go.Proofs.YtaoplfpigjkgpaaGreatDoor

open Go.RowKit

set_option maxRecDepth 100000 in
set_option maxHeartbeats 8000000 in
theorem mbdo_any (n : Nod) (u : Sl) (R0 : R (Int × List Int)) (M : List Int → R (List Int)) (w : World) (h1 : ∀ c, R0 = .error c → c ≠ 0) (h2 : ∀ l c, M l = .error c → c ≠ 0)
    (NC : ∀ wx, w.grownBy wx none → Calls Tryz.prog 21 #[nval n, .slice u.a u.n u.c] wx (AttQ n.out wx R0))
    (MC : ∀ (wx : World) (ty : Int) (dv : Sl) (l : List Int), w.grownBy wx none → R0 = .ok (ty, l) → IsInts wx dv.v l → Calls Tryz.prog 18 #[nval n, .slice u.a u.n u.c, .agg #[.string n.out, .int .i64 ty, .slice dv.a dv.n dv.c]] wx (EvQ wx (M l))) :
    Calls Tryz.prog 17 #[nval n, .slice u.a u.n u.c, .func (.func 18) #[] #[]] w (DoQ w (doR R0 M)) := by
  have H1 := hide h1
  have H2 := hide h2
  have HMC := hide MC
  clear h1 h2 MC
  obtain ⟨w0, hw0⟩ : ∃ w0, w0 = (w.alloc (.cells #[.string n.op, .string n.name, .slice n.iv.a n.iv.n n.iv.c, .string n.out, .slice n.av.a n.av.n n.av.c] 25)).alloc (.cells #[.int .i64 0, .slice none 0 0, .slice none 0 0] 32) := ⟨_, rfl⟩
  have g0 : Hid (w.grownBy w0 none) := by show w.grownBy w0 none; rw [hw0]; exact grown_trans (grown_new _ _) (grown_new _ _)
  have hbx := two_boxes w (.cells #[.string n.op, .string n.name, .slice n.iv.a n.iv.n n.iv.c, .string n.out, .slice n.av.a n.av.n n.av.c] 25) (.cells #[.int .i64 0, .slice none 0 0, .slice none 0 0] 32)
  rw [← hw0] at hbx
  have BN : Hid (∀ wx, w0.grownBy wx none → wx.heap[w.heap.size]? = some (.cells #[.string n.op, .string n.name, .slice n.iv.a n.iv.n n.iv.c, .string n.out, .slice n.av.a n.av.n n.av.c] 25 (0, 0))) := fun wx hg => box_kept hbx.1 hg
  have BX : Hid (∀ wx, w0.grownBy wx none → wx.heap[w.heap.size + 1]? = some (.cells #[.int .i64 0, .slice none 0 0, .slice none 0 0] 32 (0, 0))) := fun wx hg => box_kept hbx.2 hg
  have Z0 : Hid (w.heap.size + 1 < w0.heap.size) := (Array.getElem?_eq_some_iff.1 hbx.2).1
  have N1 := hide (NC w0 g0.out)
  clear hbx NC
  obtain ⟨op, nam, ⟨ia, il, ic⟩, out, ⟨ao, al, cap⟩⟩ := n
  obtain ⟨ua, un, uc⟩ := u
  unfold nval at HMC N1 ⊢
  simp only at HMC N1 BN hw0 ⊢
  go_enter Tryz.func17, Tryz.ntmps17
  go_wp2_with fail
  rw [← hw0]
  clear hw0
  refine N1.out.mono ?_
  rintro e w1 ⟨hg1, hq⟩
  have G1 := hide hg1
  cases R0 with
  | error c =>
    obtain rfl := hq
    have hc := H1.out c rfl
    have bc : (c != 0) = true := by simpa using hc
    obtain ⟨w2, hw2⟩ : ∃ w2, w2 = w1.alloc (.cells #[.string ⟨#[]⟩, .int .i64 0, .slice none 0 0] 50) := ⟨_, rfl⟩
    have g2 : w1.grownBy w2 none := by rw [hw2]; exact grown_new _ _
    have B1 := BX.out w2 (grown_trans hg1 g2)
    obtain ⟨f0, f1, f2⟩ := ten_frozen B1
    have c0 : w2.cell? ⟨w.heap.size + 1, 0, none⟩ = some (.int .i64 0) := (cell_of_row _ _ 0 _ _ (0, 0) B1).trans rfl
    have c1 : w2.cell? ⟨w.heap.size + 1, 1, none⟩ = some (.slice none 0 0) := (cell_of_row _ _ 1 _ _ (0, 0) B1).trans rfl
    have c2 : w2.cell? ⟨w.heap.size + 1, 2, none⟩ = some (.slice none 0 0) := (cell_of_row _ _ 2 _ _ (0, 0) B1).trans rfl
    obtain ⟨hX, gX⟩ := store3t (.int .i64 0) (.slice none 0 0) (.slice none 0 0) B1
    have HX := hide hX
    have GX := hide (grown_drop (grown_trans g0.out (grown_trans hg1 g2)) gX (by omega))
    rw [hw2] at f0 f1 f2 c0 c1 c2 HX GX
    clear hX gX B1 hc hg1 g2 hw2
    go_wp2
    refine bodyPost_ret (ret_ten2 rfl _ _ (w.heap.size + 1) rfl HX.out) rfl ?_
    exact do_err rfl GX.out
  | ok rr =>
    obtain ⟨ty, l⟩ := rr
    obtain ⟨⟨s1, s2, s3⟩, rfl, ho⟩ := hq
    obtain ⟨w2, hw2⟩ : ∃ w2, w2 = w1.alloc (.cells #[.string out, .int .i64 ty, .slice s1 s2 s3] 50) := ⟨_, rfl⟩
    have g2 : w1.grownBy w2 none := by rw [hw2]; exact grown_new _ _
    have hB2 := heap_alloc_new w1 (.cells #[.string out, .int .i64 ty, .slice s1 s2 s3] 50)
    rw [← hw2] at hB2
    have BV : Hid (∀ wx, w2.grownBy wx none → wx.heap[w1.heap.size]? = some (.cells #[.string out, .int .i64 ty, .slice s1 s2 s3] 50 (0, 0))) := fun wx hg => box_kept hB2 hg
    have HO := hide ho
    obtain ⟨n0, n1, n2, n3, n4⟩ := nod_cells (n := ⟨op, nam, ⟨ia, il, ic⟩, out, ⟨ao, al, cap⟩⟩) (BN.out w2 (grown_trans hg1 g2))
    have M1 := hide (HMC.out w2 ty ⟨s1, s2, s3⟩ l (grown_trans g0.out (grown_trans hg1 g2)) rfl (ho.ints.more g2))
    have G2 := hide (grown_trans hg1 g2)
    have G12 := hide g2
    simp only at n0 n1 n2 n3 n4 M1
    rw [hw2] at n0 n1 n2 n3 n4
    clear ho hg1 g2 hB2
    go_wp2_with fail
    rw [← hw2]
    clear hw2 n0 n1 n2 n3 n4
    refine M1.out.mono ?_
    rintro e w3 ⟨hg3, hq⟩
    have B3 := BX.out w3 (grown_trans G2.out hg3)
    have G3 := hide (grown_trans g0.out (grown_trans G2.out hg3))
    obtain ⟨f0, f1, f2⟩ := ten_frozen B3
    have c0 : w3.cell? ⟨w.heap.size + 1, 0, none⟩ = some (.int .i64 0) := (cell_of_row _ _ 0 _ _ (0, 0) B3).trans rfl
    have c1 : w3.cell? ⟨w.heap.size + 1, 1, none⟩ = some (.slice none 0 0) := (cell_of_row _ _ 1 _ _ (0, 0) B3).trans rfl
    have c2 : w3.cell? ⟨w.heap.size + 1, 2, none⟩ = some (.slice none 0 0) := (cell_of_row _ _ 2 _ _ (0, 0) B3).trans rfl
    obtain ⟨mr, hmr⟩ : ∃ mr, mr = M l := ⟨_, rfl⟩
    rw [← hmr] at hq
    have ED : Hid (doR (.ok (ty, l)) M = mr.map fun zs => (ty, l, zs)) := by rw [hmr]; rfl
    cases mr with
    | error c =>
      obtain rfl := hq
      have hc := H2.out l c hmr.symm
      have bc : (c != 0) = true := by simpa using hc
      obtain ⟨hX, gX⟩ := store3t (.int .i64 0) (.slice none 0 0) (.slice none 0 0) B3
      have HX := hide hX
      have GX := hide (grown_drop G3.out gX (by omega))
      clear hX gX B3 hc hg3 hmr
      go_wp2
      refine bodyPost_ret (ret_ten2 rfl _ _ (w.heap.size + 1) rfl HX.out) rfl ?_
      exact do_err ED.out GX.out
    | ok zs =>
      obtain ⟨⟨t1, t2, t3⟩, rfl, ht⟩ := hq
      have bv := BV.out w3 hg3
      have v1 : w3.cell? ⟨w1.heap.size, 1, none⟩ = some (.int .i64 ty) := (cell_of_row _ _ 1 _ _ (0, 0) bv).trans rfl
      have v2 : w3.cell? ⟨w1.heap.size, 2, none⟩ = some (.slice s1 s2 s3) := (cell_of_row _ _ 2 _ _ (0, 0) bv).trans rfl
      obtain ⟨hX, gX⟩ := store3t (.int .i64 ty) (.slice s1 s2 s3) (.slice t1 t2 t3) B3
      have HX := hide hX
      have GX := hide (grown_drop G3.out gX (by omega))
      have z0 := Z0.out
      have z1 := g0.out.size
      have z2 := G2.out.size
      have OD := hide (((HO.out.more (grown_trans G12.out hg3) (by cases (Sl.v ⟨s1, s2, s3⟩).ownBlock <;> simp)).base_le (b' := w0.heap.size) (Nat.le_refl _)).more gX (row_lt HO.out.1 (by omega)))
      have OT : Hid (OwnsE _ w2.heap.size (Sl.v ⟨t1, t2, t3⟩) zs) := ht.more gX (row_lt ht.1 (by omega))
      clear hX gX B3 hg3 hmr bv ht z0 z1 z2
      go_wp2
      refine bodyPost_ret (ret_ten2 rfl _ _ (w.heap.size + 1) rfl HX.out) rfl ?_
      exact do_ok (d := ⟨s1, s2, s3⟩) (t := ⟨t1, t2, t3⟩) ED.out GX.out (OD.out.base_le (by have := g0.out.size; omega)) ⟨ownsRow_base OT.out.1 (by have := g0.out.size; have := G2.out.size; omega), OT.out.2⟩

set_option maxRecDepth 100000 in
set_option maxHeartbeats 8000000 in
theorem mdo_any (n : Nod) (u : Sl) (r : R (Int × List Int × List Int)) (w : World) (BC : ∀ wx, w.grownBy wx none → Calls Tryz.prog 17 #[nval n, .slice u.a u.n u.c, .func (.func 18) #[] #[]] wx (DoQ wx r)) :
    Calls Tryz.prog 11 #[nval n, .slice u.a u.n u.c] w (DoQ w r) := by
  obtain ⟨w0, hw0⟩ : ∃ w0, w0 = (w.alloc (.cells #[.string n.op, .string n.name, .slice n.iv.a n.iv.n n.iv.c, .string n.out, .slice n.av.a n.av.n n.av.c] 25)).alloc (.cells #[.int .i64 0, .slice none 0 0, .slice none 0 0] 32) := ⟨_, rfl⟩
  have g0 : Hid (w.grownBy w0 none) := by show w.grownBy w0 none; rw [hw0]; exact grown_trans (grown_new _ _) (grown_new _ _)
  have hbx := two_boxes w (.cells #[.string n.op, .string n.name, .slice n.iv.a n.iv.n n.iv.c, .string n.out, .slice n.av.a n.av.n n.av.c] 25) (.cells #[.int .i64 0, .slice none 0 0, .slice none 0 0] 32)
  rw [← hw0] at hbx
  have BX : Hid (∀ wx, w0.grownBy wx none → wx.heap[w.heap.size + 1]? = some (.cells #[.int .i64 0, .slice none 0 0, .slice none 0 0] 32 (0, 0))) := fun wx hg => box_kept hbx.2 hg
  have Z0 : Hid (w.heap.size + 1 < w0.heap.size) := (Array.getElem?_eq_some_iff.1 hbx.2).1
  have N1 := hide (BC w0 g0.out)
  clear hbx BC
  obtain ⟨op, nam, ⟨ia, il, ic⟩, out, ⟨ao, al, cap⟩⟩ := n
  obtain ⟨ua, un, uc⟩ := u
  unfold nval at N1 ⊢
  simp only at N1 hw0 ⊢
  go_enter Tryz.func11, Tryz.ntmps11
  go_wp2_with fail
  rw [← hw0]
  clear hw0
  refine N1.out.mono ?_
  rintro e w3 ⟨hg3, hq⟩
  have B3 := BX.out w3 hg3
  have G3 := hide (grown_trans g0.out hg3)
  obtain ⟨f0, f1, f2⟩ := ten_frozen B3
  have c0 : w3.cell? ⟨w.heap.size + 1, 0, none⟩ = some (.int .i64 0) := (cell_of_row _ _ 0 _ _ (0, 0) B3).trans rfl
  have c1 : w3.cell? ⟨w.heap.size + 1, 1, none⟩ = some (.slice none 0 0) := (cell_of_row _ _ 1 _ _ (0, 0) B3).trans rfl
  have c2 : w3.cell? ⟨w.heap.size + 1, 2, none⟩ = some (.slice none 0 0) := (cell_of_row _ _ 2 _ _ (0, 0) B3).trans rfl
  cases r with
  | error c =>
    obtain rfl := hq
    obtain ⟨hX, gX⟩ := store3t (.int .i64 0) (.slice none 0 0) (.slice none 0 0) B3
    have HX := hide hX
    have GX := hide (grown_drop G3.out gX (by omega))
    clear hX gX B3 hg3
    go_wp2
    refine bodyPost_ret (ret_ten2 rfl _ _ (w.heap.size + 1) rfl HX.out) rfl ?_
    exact do_err rfl GX.out
  | ok rr =>
    obtain ⟨ty, l, zs⟩ := rr
    obtain ⟨⟨ty', ⟨s1, s2, s3⟩, ⟨t1, t2, t3⟩⟩, e1, rfl, hd, ht⟩ := hq
    simp only at e1
    subst e1
    obtain ⟨hX, gX⟩ := store3t (.int .i64 ty') (.slice s1 s2 s3) (.slice t1 t2 t3) B3
    have HX := hide hX
    have GX := hide (grown_drop G3.out gX (by omega))
    have OD := hide (hd.more gX (row_lt hd.1 Z0.out))
    have OT := hide (ht.more gX (row_lt ht.1 Z0.out))
    clear hX gX B3 hg3 hd ht
    unfold tval
    go_wp2
    refine bodyPost_ret (ret_ten2 rfl _ _ (w.heap.size + 1) rfl HX.out) rfl ?_
    exact do_ok (d := ⟨s1, s2, s3⟩) (t := ⟨t1, t2, t3⟩) rfl GX.out (OD.out.base_le (by have := g0.out.size; omega)) ⟨ownsRow_base OT.out.1 (by have := g0.out.size; omega), OT.out.2⟩

end Go.Proofs.YtaoplfpigjkgpaaGreatDoor

namespace Go.Proofs.YtaoplfpigjkgpaaGreatDoor

open Go.RowKit

def outT (t : Int) (x : List Int) (d : R (List Int)) : R (Int × List Int) :=
  (typP t).bind fun _ => (countP x).bind fun _ => d.bind fun d => (countP d).bind fun _ => .ok (t, d)

theorem valueT (v0 : Val) (x : List Int) (d : R (List Int)) : valueP 0 true [(v0, x)] (sameP (tysOf [(v0, x)])) d [] = outT v0.ty x d := by
  unfold valueP outT
  simp only [stopP, mustP, if_true, vinP, tysOf, List.map_cons, List.map_nil, thenP, bind_assocE]
  rfl

theorem vinT {v0 : Val} {x : List Int} (h : vinP [(v0, x)] = .ok ()) : (∀ s ∈ tysOf [(v0, x)], isTypeP s = true) ∧ cntE x = 0 := by
  simp only [vinP] at h
  obtain ⟨_, h1, h⟩ := bind_ok h
  obtain ⟨_, h2, h⟩ := bind_ok h
  refine ⟨fun s hs => ?_, count_ok h2⟩
  simp only [tysOf, List.map_cons, List.map_nil, List.mem_cons, List.not_mem_nil, or_false] at hs
  subst hs
  exact isType_of h1

theorem outT_inv {t ty : Int} {x l : List Int} {d : R (List Int)} (h : outT t x d = .ok (ty, l)) : ty = t ∧ cntE x = 0 ∧ d = .ok l ∧ cntE l = 0 := by
  unfold outT at h
  obtain ⟨_, -, h⟩ := bind_ok h
  obtain ⟨_, hx, h⟩ := bind_ok h
  obtain ⟨d', hd, h⟩ := bind_ok h
  obtain ⟨_, hc, h⟩ := bind_ok h
  cases h
  exact ⟨rfl, count_ok hx, hd, count_ok hc⟩

theorem one_valT {vs : List (Val × List Int)} {t0 : Int} {x : List Int} (h1 : vs.map (·.1.ty) = [t0]) (h2 : vs.map (·.2) = [x]) : ∃ v0, vs = [(v0, x)] ∧ v0.ty = t0 := by
  match vs, h1, h2 with
  | [(v0, a)], h1, h2 =>
    simp only [List.map_cons, List.map_nil, List.cons.injEq, and_true] at h1 h2
    subst h2
    exact ⟨v0, rfl, h1⟩

theorem nz_typT {t c : Int} (h : typP t = .error c) : c ≠ 0 := by
  unfold typP at h
  split at h
  · cases h
  · cases h; decide

theorem nz_cntT {x : List Int} {c : Int} (h : countP x = .error c) : c ≠ 0 := by
  unfold countP at h
  split at h
  · cases h
  · rename_i h1
    cases h
    exact h1

end Go.Proofs.YtaoplfpigjkgpaaGreatDoor
