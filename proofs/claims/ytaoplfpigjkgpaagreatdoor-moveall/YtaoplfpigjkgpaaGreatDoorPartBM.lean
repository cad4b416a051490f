/- Joined texts: LnOut, LnEl, LnKit, MvRow. -/
import Derived.Test.YtaoplfpigjkgpaaGreatDoorPartBK
import Derived.Test.YtaoplfpigjkgpaaGreatDoorPartBF
import Derived.Test.YtaoplfpigjkgpaaGreatDoorPartBL
import Derived.Test.YtaoplfpigjkgpaaGreatDoorPartBE
import Derived.Test.YtaoplfpigjkgpaaGreatDoorPartBA
import Derived.BigQuiet
import Derived.Deep.RegionHeld3
import Derived.Deep.AppendLies
import Derived.Test.YtaoplfpigjkgpaaGreatDoorPartBD
import Derived.Test.YtaoplfpigjkgpaaGreatDoorPartBH
namespace Go.Proofs.YtaoplfpigjkgpaaGreatDoor

open Go.RowKit

theorem ended_monoE {α : Type} {w w' : World} {r : R α} {Q Q' : α → Value → World → Prop} {e : Ending} (h : Ended w r Q e w') (hq : ∀ a v, r = .ok a → Q a v w' → Q' a v w') : Ended w r Q' e w' := by
  cases r with
  | error c => exact h
  | ok a =>
    obtain ⟨hg, v, he, hv⟩ := h
    exact ⟨hg, v, he, hq a v rfl hv⟩

theorem bare_in (w : World) (op out : ByteArray) (iv : Sl) (ins : List ByteArray) (hi : IsStrs w iv.v ins) : NodeIn w ⟨op, ⟨#[]⟩, iv, out, nilS⟩ ins [] [] :=
  ⟨hi, OwnsL.isL (te := 41) (base := 0) acells_len (OwnsL.nil ..) (by simp), (fun j a h => by simp at h), by simp, (fun a h => by cases h)⟩

theorem bare_ok (w : World) (op out : ByteArray) (iv : Sl) : NodeOk w ⟨op, ⟨#[]⟩, iv, out, nilS⟩ ⟨op, [], []⟩ :=
  ⟨rfl, OwnsL.isL (te := 41) (base := 0) acells_len (OwnsL.nil ..) (by simp), (fun j a h => by simp at h), (fun a h => by cases h)⟩

theorem bind_assocE {α β γ : Type} (r : R α) (f : α → R β) (g : β → R γ) : (r.bind f).bind g = r.bind fun a => (f a).bind g := by cases r <;> rfl

theorem isType_of {t : Int} (h : typP t = .ok ()) : isTypeP t = true := by
  unfold typP at h
  by_cases hb : isTypeP t = true
  · exact hb
  · rw [if_neg hb] at h
    cases h

theorem bind_ok {α β : Type} {r : R α} {f : α → R β} {b : β} (h : r.bind f = .ok b) : ∃ a, r = .ok a ∧ f a = .ok b := by
  cases r with
  | error c => cases h
  | ok a => exact ⟨a, rfl, h⟩

theorem count_ok {x : List Int} {n : Int} (h : countP x = .ok n) : cntE x = 0 := by
  unfold countP at h
  split at h
  · assumption
  · cases h

theorem vin2 {v0 v1 : Val} {x y : List Int} (h : vinP [(v0, x), (v1, y)] = .ok ()) : (∀ s ∈ tysOf [(v0, x), (v1, y)], isTypeP s = true) ∧ cntE x = 0 ∧ cntE y = 0 := by
  simp only [vinP] at h
  obtain ⟨_, h1, h⟩ := bind_ok h
  obtain ⟨_, h2, h⟩ := bind_ok h
  obtain ⟨_, h3, h⟩ := bind_ok h
  obtain ⟨_, h4, h⟩ := bind_ok h
  refine ⟨fun s hs => ?_, count_ok h2, count_ok h4⟩
  simp only [tysOf, List.map_cons, List.map_nil, List.mem_cons, List.not_mem_nil, or_false] at hs
  rcases hs with rfl | rfl
  · exact isType_of h1
  · exact isType_of h3

end Go.Proofs.YtaoplfpigjkgpaaGreatDoor

namespace Go.Proofs.YtaoplfpigjkgpaaGreatDoor

open Go.RowKit

def Nz {α : Type} (r : R α) : Prop := ∀ c, r = .error c → c ≠ 0

theorem Nz.bind {α β : Type} {r : R α} {f : α → R β} (h : Nz r) (k : ∀ a, r = .ok a → Nz (f a)) : Nz (r.bind f) := by
  cases r with
  | error c => intro d hd; exact h d (by cases hd; rfl)
  | ok a => exact k a rfl

theorem nz_node {ps : List (Ten × Tq)} {r : R (Int × List Int)} (h : Nz r) : Nz (nodeP ps r) := by
  unfold nodeP
  split
  · exact h
  · intro c hc; cases hc; omega

theorem node_inv {ps : List (Ten × Tq)} {r : R (Int × List Int)} {a : Int × List Int} (h : nodeP ps r = .ok a) : ps.all okT = true ∧ r = .ok a := by
  unfold nodeP at h
  split at h
  · rename_i h1; exact ⟨h1, h⟩
  · cases h

theorem pb_inv {ty : Int} {x xs : List Int} (h : pbE ty x xs = 0) : cntE x = 0 ∧ (xs.length : Int) = prod x := by
  unfold pbE at h
  split at h
  · omega
  · split at h
    · rename_i h1; exact absurd h h1
    · rename_i h1
      have h1' : cntE x = 0 := by omega
      split at h
      · omega
      · rename_i h2
        refine ⟨h1', ?_⟩
        have : (xs.length : Int) = cnt x := by omega
        rw [this, cnt, if_pos h1']

def tq (t : Int) (x xs : List Int) : Ten × Tq := (⟨t, nilS, nilS⟩, (x, xs))

theorem two_valsL {vs : List (Val × List Int)} {t0 t1 : Int} {x y : List Int} (h1 : vs.map (·.1.ty) = [t0, t1]) (h2 : vs.map (·.2) = [x, y]) : ∃ v0 v1, vs = [(v0, x), (v1, y)] ∧ v0.ty = t0 ∧ v1.ty = t1 := by
  match vs, h1, h2 with
  | [(v0, a), (v1, b)], h1, h2 =>
    simp only [List.map_cons, List.map_nil, List.cons.injEq, and_true] at h1 h2
    obtain ⟨e1, e2⟩ := h1
    obtain ⟨rfl, rfl⟩ := h2
    exact ⟨v0, v1, rfl, e1, e2⟩

end Go.Proofs.YtaoplfpigjkgpaaGreatDoor

namespace Go.Proofs.YtaoplfpigjkgpaaGreatDoor

open Go.RowKit

theorem up_alloc {x : World} {i : Nat} {o : Obj} (p : Obj) (h : x.heap[i]? = some o) : (x.alloc p).heap[i]? = some o := ((grown_new x p).block i (Array.getElem?_eq_some_iff.1 h).1 (by simp)).trans h

theorem new_alloc {x : World} {i : Nat} (p : Obj) (h : x.heap.size = i) : (x.alloc p).heap[i]? = some p ∧ (x.alloc p).heap.size = i + 1 := by
  subst h
  exact ⟨heap_alloc_new x p, by simp⟩

theorem blk_ints {w : World} {B te : Nat} {zs : List Int} (h : w.heap[B]? = some (.cells (zs.map (Value.int .i64)).toArray te (0, 0))) (hl : zs.length ≤ 1000) (hz : ∀ z ∈ zs, -9223372036854775808 ≤ z ∧ z ≤ 9223372036854775807) : IsInts w (.slice (some ⟨B, 0, none⟩) zs.length zs.length) zs := by
  refine ⟨_, _, rfl, Nat.le_refl _, by omega, by omega, (fun h => by cases h), fun _ => ⟨B, 0, rfl, fun t ht => ?_⟩, hz⟩
  rw [Nat.zero_add, cell_of_row _ _ t _ _ (0, 0) h]
  simp [List.getD, ht]

theorem blk_tens {w : World} {B : Nat} {cur : Array Value} {ps : List (Ten × Tq)} (h : w.heap[B]? = some (.cells cur 32 (0, 0))) (hc : cur.toList = (ps.map (·.1)).flatMap tcells) (hs : cur.size = ps.length * 3) (hl : ps.length ≤ 1000) (hh : ∀ p ∈ ps, IsInts w p.1.dv.v p.2.1 ∧ IsInts w p.1.tv.v p.2.2) : TensIn w (.slice (some ⟨B, 0, none⟩) ps.length ps.length) ps := by
  refine ⟨?_, hh⟩
  have e : ps.length = (ps.map (·.1)).length := by rw [List.length_map]
  rw [e]
  exact lit_isLG (te := 32) (bytes := 56) tcells_len h hc (by rw [hs, e]) (by rw [← e]; omega) (by rw [← e]; omega)

theorem two_tens {w : World} {B : Nat} (X Y : Ten) {x y xs ys : List Int} (h : w.heap[B]? = some (.cells #[.int .i64 X.ty, .slice X.dv.a X.dv.n X.dv.c, .slice X.tv.a X.tv.n X.tv.c, .int .i64 Y.ty, .slice Y.dv.a Y.dv.n Y.dv.c, .slice Y.tv.a Y.tv.n Y.tv.c] 32 (0, 0))) (h1 : IsInts w X.dv.v x) (h2 : IsInts w X.tv.v xs) (h3 : IsInts w Y.dv.v y) (h4 : IsInts w Y.tv.v ys) : TensIn w (.slice (some ⟨B, 0, none⟩) 2 2) [(X, (x, xs)), (Y, (y, ys))] := by
  refine blk_tens (ps := [(X, (x, xs)), (Y, (y, ys))]) h rfl rfl (by simp) fun p hp => ?_
  simp only [List.mem_cons, List.not_mem_nil, or_false] at hp
  rcases hp with rfl | rfl
  · exact ⟨h1, h2⟩
  · exact ⟨h3, h4⟩

theorem one_ten {w : World} {B : Nat} (X : Ten) {x xs : List Int} (h : w.heap[B]? = some (.cells #[.int .i64 X.ty, .slice X.dv.a X.dv.n X.dv.c, .slice X.tv.a X.tv.n X.tv.c] 32 (0, 0))) (h1 : IsInts w X.dv.v x) (h2 : IsInts w X.tv.v xs) : TensIn w (.slice (some ⟨B, 0, none⟩) 1 1) [(X, (x, xs))] := by
  refine blk_tens (ps := [(X, (x, xs))]) h rfl rfl (by simp) fun p hp => ?_
  simp only [List.mem_cons, List.not_mem_nil, or_false] at hp
  subst hp
  exact ⟨h1, h2⟩

theorem xy_strs {w : World} {B : Nat} (h : w.heap[B]? = some (.cells #[.string ⟨#[120]⟩, .string ⟨#[121]⟩] 9 (0, 0))) : IsStrs w (.slice (some ⟨B, 0, none⟩) 2 2) [⟨#[120]⟩, ⟨#[121]⟩] := lit_isLG (te := 9) (bytes := 16) (xs := [⟨#[120]⟩, ⟨#[121]⟩]) scell_len h rfl rfl (Nat.le_of_ble_eq_true rfl) (Nat.le_of_ble_eq_true rfl)

def rTy : R (Int × List Int × List Int) → Int
  | .ok (t, _, _) => t
  | .error _ => 0
def rL : R (Int × List Int × List Int) → List Int
  | .ok (_, l, _) => l
  | .error _ => []
def rZ : R (Int × List Int × List Int) → List Int
  | .ok (_, _, z) => z
  | .error _ => []
def rC : R (Int × List Int × List Int) → Int
  | .ok _ => 0
  | .error c => c

theorem do_any {w w' : World} {r : R (Int × List Int × List Int)} {e : Ending} (h : DoQ w r e w') : w.grownBy w' none ∧ ∃ d t : Sl, e = .returned (.tuple #[.agg #[.int .i64 (rTy r), .slice d.a d.n d.c, .slice t.a t.n t.c], .int .i64 (rC r)]) ∧ IsInts w' d.v (rL r) ∧ IsInts w' t.v (rZ r) := by
  obtain ⟨hg, h⟩ := h
  refine ⟨hg, ?_⟩
  cases r with
  | error c => exact ⟨⟨none, 0, 0⟩, ⟨none, 0, 0⟩, h, (owns_nil w' 0).ints, (owns_nil w' 0).ints⟩
  | ok rr =>
    obtain ⟨ty, l, zs⟩ := rr
    obtain ⟨⟨ty', d, t⟩, e1, e2, od, ot⟩ := h
    simp only at e1
    subst e1
    exact ⟨d, t, e2, od.ints, ot.ints⟩

def Told (w : World) (e : Ending) (w' : World) : Prop := ∃ b, e = .returned (.bool b) ∧ w.grownBy w' none

end Go.Proofs.YtaoplfpigjkgpaaGreatDoor

namespace Go.Proofs.YtaoplfpigjkgpaaGreatDoor

open Go.RowKit

theorem mcount_any (v : Value) (zs : List Int) (w : World) (h : IsInts w v zs) : Calls Tryz.prog 56 #[v] w fun e w' => e = .returned (.int .i64 (cnt zs)) ∧ w = w' := by
  have CN := hide (count_any v zs w h)
  obtain ⟨a, c, rfl, -⟩ := h.sl
  clear h
  go_enter Tryz.func56, Tryz.ntmps56
  go_wp2_with fail
  refine CN.out.mono ?_
  rintro e w' ⟨rfl, rfl⟩
  go_wp2
  go_ret
  exact ⟨rfl, rfl⟩

theorem ints_tail {w : World} {b off n c : Nat} {zs : List Int} (h : IsInts w (.slice (some ⟨b, off, none⟩) n c) zs) (p m c' : Nat) (hp : p + m = zs.length) (hc : p + c' = c) : IsInts w (.slice (some ⟨b, off + p, none⟩) m c') (zs.drop p) := by
  have hl := h.sl
  obtain ⟨_, _, e, h1, -⟩ := hl
  simp only [Value.slice.injEq] at e
  obtain ⟨-, -, rfl⟩ := e
  have k := ints_part h p m c' (by omega) (by omega) (by omega)
  rw [List.take_of_length_le (by rw [List.length_drop]; omega)] at k
  exact k

theorem ints_none {w : World} {a : Addr} : IsInts w (.slice (some a) 0 0) [] := ⟨some a, 0, rfl, by simp, by simp, by simp, (fun h => by cases h), (fun h => by simp at h), fun z hz => by simp at hz⟩

set_option maxRecDepth 100000 in
set_option maxHeartbeats 8000000 in
theorem mrow_any (t : Ten) (ds ts : List Int) (ax M i W : Nat) (w : World) (hd : IsInts w t.dv.v ds) (ht : IsInts w t.tv.v ts) (h1 : 1 ≤ ds.length) (ha : ax + M = ds.length) (hW : cnt (ds.drop ax) = (W : Int)) (hW1 : 1 ≤ W) (hb : i * W + W ≤ ts.length) (hs : ts.length ≤ 65536) :
    Calls Tryz.prog 58 #[tval t, .int .i64 ax, .int .i64 i] w fun e w' => ∃ u : Sl, e = .returned u.v ∧ IsInts w' u.v ((ts.drop (i * W)).take W) ∧ w.grownBy w' none := by
  obtain ⟨ty, ⟨da, dn, dc⟩, ⟨ta, tn, tc⟩⟩ := t
  obtain ⟨_, _, e1, c1, c2, -⟩ := hd.sl
  obtain ⟨_, _, e2, c3, c4, -⟩ := ht.sl
  simp only [Sl.v, Value.slice.injEq] at e1 e2
  obtain ⟨-, rfl, rfl⟩ := e1
  obtain ⟨-, rfl, rfl⟩ := e2
  obtain ⟨b, off, rfl, -⟩ := hd.get (k := 0) (by omega)
  obtain ⟨tb, tt, rfl, -⟩ := ht.get (k := 0) (by omega)
  simp only [Sl.v] at hd ht
  obtain ⟨P, hP⟩ : ∃ P, P = i * W := ⟨_, rfl⟩
  rw [← hP] at hb ⊢
  obtain ⟨C, hC⟩ : ∃ C, dc = ax + C := ⟨dc - ax, by omega⟩
  obtain ⟨D, hD⟩ : ∃ D, tc = P + D := ⟨tc - P, by omega⟩
  have hi : i < ts.length := by
    have : i ≤ i * W := Nat.le_mul_of_pos_right _ hW1
    omega
  subst hC hD
  obtain ⟨w0, hw0⟩ : ∃ w0, w0 = w.alloc (.cells #[.int .i64 ty, .slice (some ⟨b, off, none⟩) ds.length (ax + C), .slice (some ⟨tb, tt, none⟩) ts.length (P + D)] 32) := ⟨_, rfl⟩
  have g0 : w.grownBy w0 none := by rw [hw0]; exact grown_new _ _
  have hb0 := heap_alloc_new w (.cells #[.int .i64 ty, .slice (some ⟨b, off, none⟩) ds.length (ax + C), .slice (some ⟨tb, tt, none⟩) ts.length (P + D)] 32)
  obtain ⟨x0, x1, x2⟩ := ten_cells hb0
  have IT := hide (ints_part ht P W D (by omega) (by omega) (by omega))
  have s1 : (P : Int) ≤ (P : Int) + (W : Int) := by omega
  have s2 : (0 : Int) ≤ (P : Int) + (W : Int) := by omega
  have s3 : ((P : Int) + (W : Int)).toNat = P + W := by omega
  have s4 : (W : Int) ≤ (D : Int) := by omega
  have s5 : ¬ D = 0 := by omega
  have s6 : ax ≤ ds.length := by omega
  have s7 : (ax : Int) ≤ (ds.length : Int) := by omega
  have WI : Hid (wrap64 ((i : Int) * (W : Int)) = (P : Int)) := by
    show _ = _
    rw [← Int.natCast_mul, ← hP]
    exact wrap64_id (Int.natCast_nonneg _) (Int.ofNat_le.2 (show P ≤ 1000000 by omega))
  have WJ : Hid (wrap64 (((i : Int) + 1) * (W : Int)) = (P : Int) + (W : Int)) := by
    show _ = _
    rw [Int.add_mul, Int.one_mul, ← Int.natCast_mul, ← hP, ← Int.natCast_add]
    exact wrap64_id (Int.natCast_nonneg _) (Int.ofNat_le.2 (show P + W ≤ 1000000 by omega))
  have WK : Hid (wrap64 ((i : Int) + 1) = (i : Int) + 1) := by
    show _ = _
    rw [show (i : Int) + 1 = ((i + 1 : Nat) : Int) from by omega]
    exact wrap64_id (Int.natCast_nonneg _) (Int.ofNat_le.2 (show i + 1 ≤ 1000000 by omega))
  have G0 := hide g0
  unfold tval
  simp only [Sl.v]
  by_cases hC0 : C = 0
  · subst hC0
    obtain rfl : M = 0 := by omega
    have e3 : ds.length = ax := by omega
    have CN := hide (mcount_any (.slice (some ⟨b, off, none⟩) 0 0) [] w0 ints_none)
    rw [show ds.drop ax = [] from List.drop_of_length_le (by omega)] at hW
    rw [hW] at CN
    rw [e3] at hw0 x0 x1 x2 ⊢
    simp only [Nat.add_zero] at hw0 x0 x1 x2 ⊢
    clear hd ht hb hs hi c1 c2 c3 c4 h1 ha hb0 g0 e3 hP
    have wi := WI.out
    have wj := WJ.out
    have wk := WK.out
    go_enter Tryz.func58, Tryz.ntmps58
    go_wp2_with fail
    rw [← hw0]
    refine CN.out.mono ?_
    rintro e w1 ⟨rfl, rfl⟩
    rw [hw0]
    go_wp2
    go_ret
    exact ⟨⟨_, _, _⟩, rfl, IT.out.more (by rw [← hw0]; exact G0.out), by rw [← hw0]; exact G0.out⟩
  · have CN := hide (mcount_any (.slice (some ⟨b, off + ax, none⟩) M C) (ds.drop ax) w0 ((ints_tail hd ax M C ha rfl).more g0))
    rw [hW] at CN
    rw [← ha] at hw0 x0 x1 x2 ⊢
    clear hd ht hb hs hi c1 c2 c3 c4 h1 ha hb0 g0 hP s6 s7
    have wi := WI.out
    have wj := WJ.out
    have wk := WK.out
    go_enter Tryz.func58, Tryz.ntmps58
    go_wp2_with fail
    rw [← hw0]
    refine CN.out.mono ?_
    rintro e w1 ⟨rfl, rfl⟩
    rw [hw0]
    go_wp2
    go_ret
    exact ⟨⟨_, _, _⟩, rfl, IT.out.more (by rw [← hw0]; exact G0.out), by rw [← hw0]; exact G0.out⟩

end Go.Proofs.YtaoplfpigjkgpaaGreatDoor
