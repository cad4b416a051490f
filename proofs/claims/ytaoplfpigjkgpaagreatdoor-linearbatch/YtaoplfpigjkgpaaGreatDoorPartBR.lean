/- Joined texts: LnOut, LnEl, LnKit, LnLive, LnOneP, LnRowsP, LnBatP. -/
import Derived.Test.YtaoplfpigjkgpaaGreatDoorPartBP
import Derived.Test.YtaoplfpigjkgpaaGreatDoorPartBD
import Derived.Test.YtaoplfpigjkgpaaGreatDoorPartBC
import Derived.Test.YtaoplfpigjkgpaaGreatDoorPartBQ
import Derived.Test.YtaoplfpigjkgpaaGreatDoorPartBB
namespace Go.Proofs.YtaoplfpigjkgpaaGreatDoor

open Go.RowKit

theorem ended_monoE {α : Type} {w w' : World} {r : R α} {Q Q' : α → Value → World → Prop} {e : Ending} (h : Ended w r Q e w') (hq : ∀ a v, r = .ok a → Q a v w' → Q' a v w') : Ended w r Q' e w' := by
  cases r with
  | error c => exact h
  | ok a =>
    obtain ⟨hg, v, he, hv⟩ := h
    exact ⟨hg, v, he, hq a v rfl hv⟩

theorem bare_in (w : World) (op out : ByteArray) (iv : Sl) (ins : List ByteArray) (hi : IsStrs w iv.v ins) : NodeIn w ⟨op, ⟨#[]⟩, iv, out, nilS⟩ ins [] [] :=
  ⟨hi, OwnsL.isL (te := 41) (base := 0) acells_len (OwnsL.nil ..) (by simp), (fun j a h => by simp at h), by simp, (fun a h => by cases h)⟩

theorem bare_ok (w : World) (op out : ByteArray) (iv : Sl) : NodeOk w ⟨op, ⟨#[]⟩, iv, out, nilS⟩ ⟨op, [], []⟩ :=
  ⟨rfl, OwnsL.isL (te := 41) (base := 0) acells_len (OwnsL.nil ..) (by simp), (fun j a h => by simp at h), (fun a h => by cases h)⟩

def outM (t0 t1 : Int) (x y : List Int) (d : R (List Int)) : R (Int × List Int) :=
  (typP t0).bind fun _ => (countP x).bind fun _ => (typP t1).bind fun _ => (countP y).bind fun _ => (sameP [t0, t1]).bind fun t => (mustP (t == 1)).bind fun _ => d.bind fun d => (countP d).bind fun _ => .ok (1, d)

theorem bind_assocE {α β γ : Type} (r : R α) (f : α → R β) (g : β → R γ) : (r.bind f).bind g = r.bind fun a => (f a).bind g := by cases r <;> rfl

theorem valueM (v0 v1 : Val) (x y : List Int) (d : R (List Int)) : valueP 0 true [(v0, x), (v1, y)] ((sameP (tysOf [(v0, x), (v1, y)])).bind (fun t => (mustP (t == 1)).bind (fun _ => .ok (1 : Int)))) d [] = outM v0.ty v1.ty x y d := by
  unfold valueP outM
  simp only [stopP, mustP, if_true, vinP, tysOf, List.map_cons, List.map_nil, thenP, bind_assocE]
  rfl

theorem isType_of {t : Int} (h : typP t = .ok ()) : isTypeP t = true := by
  unfold typP at h
  by_cases hb : isTypeP t = true
  · exact hb
  · rw [if_neg hb] at h
    cases h

theorem bind_ok {α β : Type} {r : R α} {f : α → R β} {b : β} (h : r.bind f = .ok b) : ∃ a, r = .ok a ∧ f a = .ok b := by
  cases r with
  | error c => cases h
  | ok a => exact ⟨a, rfl, h⟩

theorem count_ok {x : List Int} {n : Int} (h : countP x = .ok n) : cntE x = 0 := by
  unfold countP at h
  split at h
  · assumption
  · cases h

theorem vin2 {v0 v1 : Val} {x y : List Int} (h : vinP [(v0, x), (v1, y)] = .ok ()) : (∀ s ∈ tysOf [(v0, x), (v1, y)], isTypeP s = true) ∧ cntE x = 0 ∧ cntE y = 0 := by
  simp only [vinP] at h
  obtain ⟨_, h1, h⟩ := bind_ok h
  obtain ⟨_, h2, h⟩ := bind_ok h
  obtain ⟨_, h3, h⟩ := bind_ok h
  obtain ⟨_, h4, h⟩ := bind_ok h
  refine ⟨fun s hs => ?_, count_ok h2, count_ok h4⟩
  simp only [tysOf, List.map_cons, List.map_nil, List.mem_cons, List.not_mem_nil, or_false] at hs
  rcases hs with rfl | rfl
  · exact isType_of h1
  · exact isType_of h3

theorem mout (out : ByteArray) (iv : Sl) (i1 i2 : ByteArray) (hck : checkF (ruleF ⟨#[77, 97, 116, 77, 117, 108]⟩) ⟨#[77, 97, 116, 77, 117, 108]⟩ [i1, i2] out [] [] = 0) (ho : out.size ≤ 1048576) (u : Sl) (v0 v1 : Val) (x y : List Int) (w : World) (hl : Laid w) (hi : IsStrs w iv.v [i1, i2]) (hv : ValsIn w u.v [(v0, x), (v1, y)]) :
    Calls Tryz.prog 38 #[nval ⟨⟨#[77, 97, 116, 77, 117, 108]⟩, ⟨#[]⟩, iv, out, nilS⟩, .slice u.a u.n u.c] w (AttQ out w (outM v0.ty v1.ty x y (productP x y))) := by
  refine out_any ⟨⟨#[77, 97, 116, 77, 117, 108]⟩, ⟨#[]⟩, iv, out, nilS⟩ u _ w fun wx hx => ?_
  have key := valueof_any ⟨⟨#[77, 97, 116, 77, 117, 108]⟩, ⟨#[]⟩, iv, out, nilS⟩ ⟨⟨#[77, 97, 116, 77, 117, 108]⟩, [], []⟩ [i1, i2] u [(v0, x), (v1, y)] wx (hl.more hx) (bare_in wx ⟨#[77, 97, 116, 77, 117, 108]⟩ out iv _ (hi.more hx)) (hv.more hx) (by show out.size ≤ _; omega) _ _ (fun hc hll hin wy hy => ((type_float ⟨⟨#[77, 97, 116, 77, 117, 108]⟩, ⟨#[]⟩, iv, out, nilS⟩ ⟨⟨#[77, 97, 116, 77, 117, 108]⟩, [], []⟩ u [(v0, x), (v1, y)] wy (by simp) (bare_ok wy ⟨#[77, 97, 116, 77, 117, 108]⟩ out iv) (hv.more (grown_trans hx hy)) (by simp) (by simp) (vin2 hin).1).mono fun e w' he => ended_monoE he fun t v e1 e2 => ⟨e2, by
    obtain ⟨_, -, e1⟩ := bind_ok e1
    obtain ⟨_, -, e1⟩ := bind_ok e1
    cases e1
    rfl⟩)) (fun hc hll hin wy hy => dims_product ⟨⟨#[77, 97, 116, 77, 117, 108]⟩, ⟨#[]⟩, iv, out, nilS⟩ ⟨⟨#[77, 97, 116, 77, 117, 108]⟩, [], []⟩ u v0 v1 x y wy (by simp) (bare_ok wy ⟨#[77, 97, 116, 77, 117, 108]⟩ out iv) (hv.more (grown_trans hx hy)) (fine_of (vin2 hin).2.1) (fine_of (vin2 hin).2.2))
  rw [show checkF (ruleF (Nod.op ⟨⟨#[77, 97, 116, 77, 117, 108]⟩, ⟨#[]⟩, iv, out, nilS⟩)) (Nod.op ⟨⟨#[77, 97, 116, 77, 117, 108]⟩, ⟨#[]⟩, iv, out, nilS⟩) [i1, i2] (Nod.out ⟨⟨#[77, 97, 116, 77, 117, 108]⟩, ⟨#[]⟩, iv, out, nilS⟩) (At.xs ⟨⟨#[77, 97, 116, 77, 117, 108]⟩, [], []⟩) (At.cs ⟨⟨#[77, 97, 116, 77, 117, 108]⟩, [], []⟩) = 0 from hck] at key
  have e := valueM v0 v1 x y (productP x y)
  refine key.mono fun e' w' he => ?_
  rw [← e]
  exact ended_monoE he fun r v _ e2 => e2

end Go.Proofs.YtaoplfpigjkgpaaGreatDoor

namespace Go.Proofs.YtaoplfpigjkgpaaGreatDoor

open Go.RowKit

def Nz {α : Type} (r : R α) : Prop := ∀ c, r = .error c → c ≠ 0

theorem Nz.bind {α β : Type} {r : R α} {f : α → R β} (h : Nz r) (k : ∀ a, r = .ok a → Nz (f a)) : Nz (r.bind f) := by
  cases r with
  | error c => intro d hd; exact h d (by cases hd; rfl)
  | ok a => exact k a rfl

theorem nz_ok {α : Type} (a : α) : Nz (Except.ok a : R α) := fun c h => by cases h
theorem nz_typ (t : Int) : Nz (typP t) := by
  intro c h
  unfold typP at h
  split at h
  · cases h
  · cases h; omega
theorem nz_must (b : Bool) : Nz (mustP b) := by
  intro c h
  unfold mustP at h
  split at h
  · cases h
  · cases h; omega
theorem nz_count (x : List Int) : Nz (countP x) := by
  intro c h
  unfold countP at h
  split at h
  · cases h
  · rename_i h1; cases h; exact h1
theorem nz_spread (x y : List Int) : Nz (spreadP x y) := by
  intro c h
  unfold spreadP at h
  split at h
  · cases h
  · rename_i h1; cases h; exact h1
theorem nz_same (t0 t1 : Int) : Nz (sameP [t0, t1]) := by
  intro c h
  simp only [sameP] at h
  split at h
  · cases h
  · cases h; omega

theorem nz_product (x y : List Int) : Nz (productP x y) := by
  unfold productP
  exact (nz_must _).bind fun _ _ => (nz_must _).bind fun _ _ => (nz_spread _ _).bind fun _ _ => nz_ok _

theorem nz_outM (t0 t1 : Int) (x y : List Int) (d : R (List Int)) (hd : Nz d) : Nz (outM t0 t1 x y d) :=
  (nz_typ _).bind fun _ _ => (nz_count _).bind fun _ _ => (nz_typ _).bind fun _ _ => (nz_count _).bind fun _ _ => (nz_same _ _).bind fun _ _ => (nz_must _).bind fun _ _ => hd.bind fun _ _ => (nz_count _).bind fun _ _ => nz_ok _

theorem nz_node {ps : List (Ten × Tq)} {r : R (Int × List Int)} (h : Nz r) : Nz (nodeP ps r) := by
  unfold nodeP
  split
  · exact h
  · intro c hc; cases hc; omega

theorem node_inv {ps : List (Ten × Tq)} {r : R (Int × List Int)} {a : Int × List Int} (h : nodeP ps r = .ok a) : ps.all okT = true ∧ r = .ok a := by
  unfold nodeP at h
  split at h
  · rename_i h1; exact ⟨h1, h⟩
  · cases h

theorem must_ok {b : Bool} {a : Unit} (h : mustP b = .ok a) : b = true := by
  unfold mustP at h
  split at h
  · assumption
  · cases h

theorem pb_inv {ty : Int} {x xs : List Int} (h : pbE ty x xs = 0) : cntE x = 0 ∧ (xs.length : Int) = prod x := by
  unfold pbE at h
  split at h
  · omega
  · split at h
    · rename_i h1; exact absurd h h1
    · rename_i h1
      have h1' : cntE x = 0 := by omega
      split at h
      · omega
      · rename_i h2
        refine ⟨h1', ?_⟩
        have : (xs.length : Int) = cnt x := by omega
        rw [this, cnt, if_pos h1']

def Twin (x y : List Int) : Prop := ∃ A p0 q0 p1 q1, A.length ≤ 1 ∧ x = A ++ [p0, q0] ∧ y = A ++ [p1, q1]

theorem fine_front {A B : List Int} (h : cntE (A ++ B) = 0) : cntE A = 0 := by
  have F := fine_of h
  refine cntE_ok (fun z hz => F.pos z (by simp [hz])) (by have := F.few; rw [List.length_append] at this; omega) ?_
  have h1 := F.le
  rw [prod_append] at h1
  have h2 : 1 ≤ prod B := prod_pos _ (fun z hz => F.pos z (by simp [hz]))
  have h3 : 1 ≤ prod A := prod_pos _ (fun z hz => F.pos z (by simp [hz]))
  have := le_mul_right h2 (show (0 : Int) ≤ prod A by omega)
  omega

theorem prod_twin (A : List Int) (p0 q0 p1 q1 : Int) (hA : cntE A = 0) : productP (A ++ [p0, q0]) (A ++ [p1, q1]) = if q0 = p1 then .ok (A ++ [p0, q1]) else .error 4 := by
  unfold productP
  have l0 : ∀ p q : Int, (A ++ [p, q]).length = A.length + 2 := fun p q => by simp
  have eg : ∀ p q : Int, (A ++ [p, q]).getD A.length 0 = p ∧ (A ++ [p, q]).getD (A.length + 1) 0 = q := fun p q => by simp [List.getD]
  obtain ⟨b1, b2⟩ := bc_self hA
  rw [l0, l0, show A.length + 2 - 1 = A.length + 1 from rfl, show A.length + 2 - 2 = A.length from rfl, (eg p0 q0).1, (eg p0 q0).2, (eg p1 q1).1, (eg p1 q1).2, List.take_left' rfl, List.take_left' rfl, show spreadP A A = .ok A from by unfold spreadP; rw [if_pos b1, b2]]
  simp only [mustP, show decide (2 ≤ A.length + 2 ∧ 2 ≤ A.length + 2) = true from by simp, if_true]
  by_cases h : q0 = p1
  · rw [if_pos (by simp [h]), if_pos h]
    rfl
  · rw [if_neg (by simp [h]), if_neg h]
    rfl

theorem outM_inv {t0 t1 ty : Int} {x y l : List Int} {d : R (List Int)} (h : outM t0 t1 x y d = .ok (ty, l)) : ty = 1 ∧ t0 = 1 ∧ t1 = 1 ∧ cntE x = 0 ∧ cntE y = 0 ∧ d = .ok l ∧ cntE l = 0 := by
  unfold outM at h
  obtain ⟨_, -, h⟩ := bind_ok h
  obtain ⟨_, hx, h⟩ := bind_ok h
  obtain ⟨_, -, h⟩ := bind_ok h
  obtain ⟨_, hy, h⟩ := bind_ok h
  obtain ⟨t, hs, h⟩ := bind_ok h
  obtain ⟨_, hm, h⟩ := bind_ok h
  obtain ⟨d', hd, h⟩ := bind_ok h
  obtain ⟨_, hc, h⟩ := bind_ok h
  cases h
  have e := must_ok hm
  simp only [beq_iff_eq] at e
  subst e
  simp only [sameP, List.all_cons, List.all_nil, Bool.and_true, beq_iff_eq] at hs
  split at hs
  · rename_i h1
    cases hs
    exact ⟨rfl, rfl, h1, count_ok hx, count_ok hy, hd, count_ok hc⟩
  · cases hs

theorem twin_shp {x y l : List Int} (ht : Twin x y) (hx : cntE x = 0) (hy : cntE y = 0) (hp : productP x y = .ok l) (hl : cntE l = 0) : ∃ A a k b, ShpM x y A a k b ∧ l = A ++ [(a : Int), (b : Int)] := by
  obtain ⟨A, p0, q0, p1, q1, hA, rfl, rfl⟩ := ht
  rw [prod_twin _ _ _ _ _ (fine_front hx)] at hp
  have FX := fine_of hx
  have FY := fine_of hy
  have h1 := FX.pos p0 (by simp)
  have h2 := FX.pos q0 (by simp)
  have h3 := FY.pos q1 (by simp)
  split at hp
  · rename_i he
    subst he
    cases hp
    obtain ⟨a, rfl⟩ : ∃ a : Nat, p0 = a := ⟨p0.toNat, by omega⟩
    obtain ⟨k, rfl⟩ : ∃ k : Nat, q0 = k := ⟨q0.toNat, by omega⟩
    obtain ⟨b, rfl⟩ : ∃ b : Nat, q1 = b := ⟨q1.toNat, by omega⟩
    exact ⟨A, a, k, b, ⟨rfl, rfl, hA, hx, hy, hl⟩, rfl⟩
  · cases hp

def tq (t : Int) (x xs : List Int) : Ten × Tq := (⟨t, nilS, nilS⟩, (x, xs))

def mmR (t0 t1 : Int) (x y xs ys : List Int) : R (Int × List Int × List Int) :=
  doR (nodeP [tq t0 x xs, tq t1 y ys] (outM t0 t1 x y (productP x y))) fun _ => .ok (mmL x xs y ys)

theorem two_valsL {vs : List (Val × List Int)} {t0 t1 : Int} {x y : List Int} (h1 : vs.map (·.1.ty) = [t0, t1]) (h2 : vs.map (·.2) = [x, y]) : ∃ v0 v1, vs = [(v0, x), (v1, y)] ∧ v0.ty = t0 ∧ v1.ty = t1 := by
  match vs, h1, h2 with
  | [(v0, a), (v1, b)], h1, h2 =>
    simp only [List.map_cons, List.map_nil, List.cons.injEq, and_true] at h1 h2
    obtain ⟨e1, e2⟩ := h1
    obtain ⟨rfl, rfl⟩ := h2
    exact ⟨v0, v1, rfl, e1, e2⟩

theorem matmul_do (out : ByteArray) (iv : Sl) (i1 i2 : ByteArray) (hck : checkF (ruleF ⟨#[77, 97, 116, 77, 117, 108]⟩) ⟨#[77, 97, 116, 77, 117, 108]⟩ [i1, i2] out [] [] = 0) (ho : out.size ≤ 1048576) (u : Sl) (T0 T1 : Ten) (x y xs ys : List Int) (w : World) (ht : Twin x y) (hl : Laid w) (hi : IsStrs w iv.v [i1, i2]) (hv : TensIn w u.v [(T0, (x, xs)), (T1, (y, ys))]) :
    Calls Tryz.prog 16 #[nval ⟨⟨#[77, 97, 116, 77, 117, 108]⟩, ⟨#[]⟩, iv, out, nilS⟩, .slice u.a u.n u.c] w (DoQ w (mmR T0.ty T1.ty x y xs ys)) := by
  refine ldo_any _ u _ w fun wx hx => lbdo_any _ u _ _ wx (nz_node (nz_outM _ _ _ _ _ (nz_product _ _))) (fun l => nz_ok _) (fun wy hy => ?_) (fun wy ty dv l hy hr hd => ?_)
  · refine bnode_any ⟨⟨#[77, 97, 116, 77, 117, 108]⟩, ⟨#[]⟩, iv, out, nilS⟩ u [(T0, (x, xs)), (T1, (y, ys))] _ wy (hv.more (grown_trans hx hy)) (by simp) fun wz s vs hz hvs h1 h2 => ?_
    obtain ⟨v0, v1, rfl, e0, e1⟩ := two_valsL h1 h2
    have key := mout out iv i1 i2 hck ho s v0 v1 x y wz (hl.more (grown_trans (grown_trans hx hy) hz)) (hi.more (grown_trans (grown_trans hx hy) hz)) hvs
    rw [e0, e1] at key
    exact key
  · have hvy := hv.more (grown_trans hx hy)
    obtain ⟨hall, hr⟩ := node_inv hr
    obtain ⟨-, -, -, c1, c2, hp, c3⟩ := outM_inv hr
    obtain ⟨A, a, k, b, hs, hle⟩ := twin_shp ht c1 c2 hp c3
    simp only [okT, List.all_cons, List.all_nil, Bool.and_true, Bool.and_eq_true, beq_iff_eq] at hall
    exact made_mat ⟨⟨#[77, 97, 116, 77, 117, 108]⟩, ⟨#[]⟩, iv, out, nilS⟩ rfl u T0 T1 x y xs ys A a k b _ ty dv l wy hs hle hvy hd (pb_inv hall.1).2 (pb_inv hall.2).2

end Go.Proofs.YtaoplfpigjkgpaaGreatDoor

namespace Go.Proofs.YtaoplfpigjkgpaaGreatDoor

open Go.RowKit

theorem up_alloc {x : World} {i : Nat} {o : Obj} (p : Obj) (h : x.heap[i]? = some o) : (x.alloc p).heap[i]? = some o := ((grown_new x p).block i (Array.getElem?_eq_some_iff.1 h).1 (by simp)).trans h

theorem new_alloc {x : World} {i : Nat} (p : Obj) (h : x.heap.size = i) : (x.alloc p).heap[i]? = some p ∧ (x.alloc p).heap.size = i + 1 := by
  subst h
  exact ⟨heap_alloc_new x p, by simp⟩

theorem blk_ints {w : World} {B te : Nat} {zs : List Int} (h : w.heap[B]? = some (.cells (zs.map (Value.int .i64)).toArray te (0, 0))) (hl : zs.length ≤ 1000) (hz : ∀ z ∈ zs, -9223372036854775808 ≤ z ∧ z ≤ 9223372036854775807) : IsInts w (.slice (some ⟨B, 0, none⟩) zs.length zs.length) zs := by
  refine ⟨_, _, rfl, Nat.le_refl _, by omega, by omega, (fun h => by cases h), fun _ => ⟨B, 0, rfl, fun t ht => ?_⟩, hz⟩
  rw [Nat.zero_add, cell_of_row _ _ t _ _ (0, 0) h]
  simp [List.getD, ht]

theorem blk_tens {w : World} {B : Nat} {cur : Array Value} {ps : List (Ten × Tq)} (h : w.heap[B]? = some (.cells cur 32 (0, 0))) (hc : cur.toList = (ps.map (·.1)).flatMap tcells) (hs : cur.size = ps.length * 3) (hl : ps.length ≤ 1000) (hh : ∀ p ∈ ps, IsInts w p.1.dv.v p.2.1 ∧ IsInts w p.1.tv.v p.2.2) : TensIn w (.slice (some ⟨B, 0, none⟩) ps.length ps.length) ps := by
  refine ⟨?_, hh⟩
  have e : ps.length = (ps.map (·.1)).length := by rw [List.length_map]
  rw [e]
  exact lit_isLG (te := 32) (bytes := 56) tcells_len h hc (by rw [hs, e]) (by rw [← e]; omega) (by rw [← e]; omega)

theorem two_tens {w : World} {B : Nat} (X Y : Ten) {x y xs ys : List Int} (h : w.heap[B]? = some (.cells #[.int .i64 X.ty, .slice X.dv.a X.dv.n X.dv.c, .slice X.tv.a X.tv.n X.tv.c, .int .i64 Y.ty, .slice Y.dv.a Y.dv.n Y.dv.c, .slice Y.tv.a Y.tv.n Y.tv.c] 32 (0, 0))) (h1 : IsInts w X.dv.v x) (h2 : IsInts w X.tv.v xs) (h3 : IsInts w Y.dv.v y) (h4 : IsInts w Y.tv.v ys) : TensIn w (.slice (some ⟨B, 0, none⟩) 2 2) [(X, (x, xs)), (Y, (y, ys))] := by
  refine blk_tens (ps := [(X, (x, xs)), (Y, (y, ys))]) h rfl rfl (by simp) fun p hp => ?_
  simp only [List.mem_cons, List.not_mem_nil, or_false] at hp
  rcases hp with rfl | rfl
  · exact ⟨h1, h2⟩
  · exact ⟨h3, h4⟩

theorem xy_strs {w : World} {B : Nat} (h : w.heap[B]? = some (.cells #[.string ⟨#[120]⟩, .string ⟨#[121]⟩] 9 (0, 0))) : IsStrs w (.slice (some ⟨B, 0, none⟩) 2 2) [⟨#[120]⟩, ⟨#[121]⟩] := lit_isLG (te := 9) (bytes := 16) (xs := [⟨#[120]⟩, ⟨#[121]⟩]) scell_len h rfl rfl (Nat.le_of_ble_eq_true rfl) (Nat.le_of_ble_eq_true rfl)

def rTy : R (Int × List Int × List Int) → Int
  | .ok (t, _, _) => t
  | .error _ => 0
def rL : R (Int × List Int × List Int) → List Int
  | .ok (_, l, _) => l
  | .error _ => []
def rZ : R (Int × List Int × List Int) → List Int
  | .ok (_, _, z) => z
  | .error _ => []
def rC : R (Int × List Int × List Int) → Int
  | .ok _ => 0
  | .error c => c

theorem do_any {w w' : World} {r : R (Int × List Int × List Int)} {e : Ending} (h : DoQ w r e w') : w.grownBy w' none ∧ ∃ d t : Sl, e = .returned (.tuple #[.agg #[.int .i64 (rTy r), .slice d.a d.n d.c, .slice t.a t.n t.c], .int .i64 (rC r)]) ∧ IsInts w' d.v (rL r) ∧ IsInts w' t.v (rZ r) := by
  obtain ⟨hg, h⟩ := h
  refine ⟨hg, ?_⟩
  cases r with
  | error c => exact ⟨⟨none, 0, 0⟩, ⟨none, 0, 0⟩, h, (owns_nil w' 0).ints, (owns_nil w' 0).ints⟩
  | ok rr =>
    obtain ⟨ty, l, zs⟩ := rr
    obtain ⟨⟨ty', d, t⟩, e1, e2, od, ot⟩ := h
    simp only at e1
    subst e1
    exact ⟨d, t, e2, od.ints, ot.ints⟩

def Told (w : World) (e : Ending) (w' : World) : Prop := ∃ b, e = .returned (.bool b) ∧ w.grownBy w' none

set_option maxRecDepth 100000 in
set_option maxHeartbeats 4000000 in
theorem small12_any (u : Sl) (ps : List (Ten × Tq)) (w : World) (hv : TensIn w u.v ps) : Calls Tryz.prog 14 #[.slice u.a u.n u.c] w (Told w) := by
  obtain ⟨xa, xc, e1, p1, p2, p3⟩ := hv.vals.form
  rw [List.length_map] at e1 p1 p3
  obtain ⟨ua, un, uc⟩ := u
  simp only [Sl.v, Value.slice.injEq] at e1
  obtain ⟨rfl, rfl, rfl⟩ := e1
  have HV := hide hv
  clear hv
  go_enter Tryz.func14, Tryz.ntmps14
  go_wp2_with fail
  go_loopw [3] (fun i wr => w.grownBy wr none ∧ ∃ (k : Nat), k ≤ ps.length ∧ i = .int .i64 k) (fun i _ => ps.length - (intOf i).toNat)
  case atStart => exact ⟨grown_refl _, 0, Nat.zero_le _, rfl⟩
  case round =>
    obtain ⟨hg, k, hk, rfl⟩ := hrel
    have HG := hide hg
    by_cases hlt : k < ps.length
    · obtain ⟨b, off, rfl⟩ := HV.out.vals.addr (k := k) (by rw [List.length_map]; exact hlt)
      obtain ⟨-, -, a2⟩ := (HV.out.more hg).at k hlt
      obtain ⟨⟨ta, tn, tc⟩, hp⟩ : ∃ p, p = ps[k].1.tv := ⟨_, rfl⟩
      rw [← hp] at a2
      simp only at a2
      clear hp hg
      by_cases hb : 600 < tn
      · have hb' : (600 : Int) < tn := by omega
        go_wp2
        go_ret
        exact ⟨_, rfl, HG.out⟩
      · have hb' : ¬ (600 : Int) < tn := by omega
        go_wp2_with fail
        go_roundw
        case rel => exact ⟨HG.out, k + 1, by omega, by go_num⟩
        case measure => simp [intOf]; omega
    · obtain rfl : k = ps.length := by omega
      clear hg
      go_wp2
      go_ret
      exact ⟨_, rfl, HG.out⟩

end Go.Proofs.YtaoplfpigjkgpaaGreatDoor

namespace Go.Proofs.YtaoplfpigjkgpaaGreatDoor

open Go.RowKit

theorem live_mm : mmR 1 1 [1, 2] [2, 1] [1065353216, 1073741824] [1077936128, 1082130432] = .ok (1, [1, 1], [1093664768]) := by kernel_rfl

theorem six (w : World) (o0 o1 o2 o3 o4 o5 : Obj) : ∀ W, W = (((((w.alloc o0).alloc o1).alloc o2).alloc o3).alloc o4).alloc o5 →
    W.heap[w.heap.size]? = some o0 ∧ W.heap[w.heap.size + 1]? = some o1 ∧ W.heap[w.heap.size + 1 + 1]? = some o2 ∧ W.heap[w.heap.size + 1 + 1 + 1]? = some o3 ∧ W.heap[w.heap.size + 1 + 1 + 1 + 1]? = some o4 ∧ W.heap[w.heap.size + 1 + 1 + 1 + 1 + 1]? = some o5 ∧ w.grownBy W none := by
  rintro W rfl
  obtain ⟨a0, z0⟩ := new_alloc o0 (x := w) rfl
  obtain ⟨a1, z1⟩ := new_alloc o1 z0
  obtain ⟨a2, z2⟩ := new_alloc o2 z1
  obtain ⟨a3, z3⟩ := new_alloc o3 z2
  obtain ⟨a4, z4⟩ := new_alloc o4 z3
  obtain ⟨a5, z5⟩ := new_alloc o5 z4
  refine ⟨?_, ?_, ?_, ?_, ?_, a5, ?_⟩
  · exact up_alloc _ (up_alloc _ (up_alloc _ (up_alloc _ (up_alloc _ a0))))
  · exact up_alloc _ (up_alloc _ (up_alloc _ (up_alloc _ a1)))
  · exact up_alloc _ (up_alloc _ (up_alloc _ a2))
  · exact up_alloc _ (up_alloc _ a3)
  · exact up_alloc _ a4
  · exact grown_trans (grown_trans (grown_trans (grown_trans (grown_trans (grown_new _ _) (grown_new _ _)) (grown_new _ _)) (grown_new _ _)) (grown_new _ _)) (grown_new _ _)

set_option maxRecDepth 100000 in
set_option maxHeartbeats 8000000 in
theorem live12_any (w : World) (hl : Laid w) : Calls Tryz.prog 15 #[] w fun e w' => e = .returned (.bool true) ∧ w.grownBy w' none := by
  have HL := hide hl
  clear hl
  obtain ⟨W, hW⟩ : ∃ W, W = (((((w.alloc (.cells #[.string ⟨#[120]⟩, .string ⟨#[121]⟩] 9)).alloc (.cells #[.int .i64 1, .int .i64 2] 3)).alloc (.cells #[.int .i64 1065353216, .int .i64 1073741824] 2)).alloc (.cells #[.int .i64 2, .int .i64 1] 3)).alloc (.cells #[.int .i64 1077936128, .int .i64 1082130432] 2)).alloc (.cells #[.int .i64 1, .slice (some ⟨w.heap.size + 1, 0, none⟩) 2 2, .slice (some ⟨w.heap.size + 1 + 1, 0, none⟩) 2 2, .int .i64 1, .slice (some ⟨w.heap.size + 1 + 1 + 1, 0, none⟩) 2 2, .slice (some ⟨w.heap.size + 1 + 1 + 1 + 1, 0, none⟩) 2 2] 32) := ⟨_, rfl⟩
  obtain ⟨b0, b1, b2, b3, b4, b5, gW⟩ := six w _ _ _ _ _ _ W hW
  have GW := hide gW
  have E1 := hide (matmul_do ⟨#[122]⟩ ⟨some ⟨w.heap.size, 0, none⟩, 2, 2⟩ ⟨#[120]⟩ ⟨#[121]⟩ (by kernel_rfl) (by decide) ⟨some ⟨w.heap.size + 1 + 1 + 1 + 1 + 1, 0, none⟩, 2, 2⟩ ⟨1, ⟨some ⟨w.heap.size + 1, 0, none⟩, 2, 2⟩, ⟨some ⟨w.heap.size + 1 + 1, 0, none⟩, 2, 2⟩⟩ ⟨1, ⟨some ⟨w.heap.size + 1 + 1 + 1, 0, none⟩, 2, 2⟩, ⟨some ⟨w.heap.size + 1 + 1 + 1 + 1, 0, none⟩, 2, 2⟩⟩ [1, 2] [2, 1] [1065353216, 1073741824] [1077936128, 1082130432] W ⟨[], 1, 2, 2, 1, by simp, rfl, rfl⟩ (HL.out.more gW) (xy_strs b0) (two_tens _ _ b5 (blk_ints (zs := [1, 2]) b1 (by simp) (by simp)) (blk_ints (zs := [1065353216, 1073741824]) b2 (by simp) (by simp)) (blk_ints (zs := [2, 1]) b3 (by simp) (by simp)) (blk_ints (zs := [1077936128, 1082130432]) b4 (by simp) (by simp))))
  rw [show mmR (Ten.ty ⟨1, ⟨some ⟨w.heap.size + 1, 0, none⟩, 2, 2⟩, ⟨some ⟨w.heap.size + 1 + 1, 0, none⟩, 2, 2⟩⟩) (Ten.ty ⟨1, ⟨some ⟨w.heap.size + 1 + 1 + 1, 0, none⟩, 2, 2⟩, ⟨some ⟨w.heap.size + 1 + 1 + 1 + 1, 0, none⟩, 2, 2⟩⟩) [1, 2] [2, 1] [1065353216, 1073741824] [1077936128, 1082130432] = .ok (1, [1, 1], [1093664768]) from live_mm] at E1
  unfold nval nilS at E1
  simp only at E1
  clear b0 b1 b2 b3 b4 b5 gW
  go_enter Tryz.func15, Tryz.ntmps15
  go_wp2_with fail
  rw [← hW]
  clear hW
  refine E1.out.mono ?_
  rintro e w1 ⟨hg1, ⟨ty, ⟨da, dn, dc⟩, ⟨ta, tn, tc⟩⟩, ht, rfl, od, ot⟩
  simp only at ht
  subst ht
  unfold tval
  simp only
  obtain ⟨p, hp⟩ : ∃ p, p = ((w1.alloc (.cells #[.int .i64 1, .slice da dn dc, .slice ta tn tc] 32)).alloc (.cells #[.int .i64 1, .int .i64 1] 3)).alloc (.cells #[.int .i64 1093664768] 2) := ⟨_, rfl⟩
  obtain ⟨c0, c1, c2⟩ := three_boxes w1 (.cells #[.int .i64 1, .slice da dn dc, .slice ta tn tc] 32) (.cells #[.int .i64 1, .int .i64 1] 3) (.cells #[.int .i64 1093664768] 2)
  have gp : w1.grownBy p none := by rw [hp]; exact grown_trans (grown_trans (grown_new _ _) (grown_new _ _)) (grown_new _ _)
  rw [← hp] at c0 c1 c2
  have x0 := ten_cells (heap_alloc_new w1 (.cells #[.int .i64 1, .slice da dn dc, .slice ta tn tc] 32))
  obtain ⟨x0, x1, x2⟩ := x0
  have SA := hide (sameten_eq 1 _ _ _ _ [1, 1] [1093664768] p (od.ints.more gp) (ot.ints.more gp) (blk_ints (zs := [1, 1]) c1 (by simp) (by simp)) (blk_ints (zs := [1093664768]) c2 (by simp) (by simp)))
  simp only [Sl.v, List.length_cons, List.length_nil] at SA
  have GP := hide (grown_trans (grown_trans GW.out hg1) gp)
  clear c0 c1 c2 gp hg1 od ot E1
  go_wp2_with (first | (go_at_call 12; rw [← hp]; refine SA.out.mono ?_; rintro e w7 ⟨rfl, hg7⟩) | fail)
  go_ret
  exact ⟨rfl, grown_trans GP.out hg7⟩

end Go.Proofs.YtaoplfpigjkgpaaGreatDoor

namespace Go.Proofs.YtaoplfpigjkgpaaGreatDoor

open Go.RowKit

theorem plc_two (b k : Nat) : Vw.plc [(b : Int), (k : Int)] [1, (b : Int)] 0 = (List.range b).flatMap fun j => (List.range k).map fun i => ((i * b + j : Nat) : Int) := by
  simp only [Vw.plc, Int.toNat_natCast]
  unfold List.flatMap
  congr 1
  refine List.map_congr_left fun j _ => ?_
  induction (List.range k) with
  | nil => rfl
  | cons i l ih =>
    simp only [List.map_cons, List.flatten_cons] at ih ⊢
    rw [ih]
    simp only [List.singleton_append, List.cons.injEq, and_true]
    omega

theorem yt_two {k b : Nat} {ys : List Int} (hc : cntE [(k : Int), (b : Int)] = 0) (hl : (ys.length : Int) = prod [(k : Int), (b : Int)]) : ytL [(k : Int), (b : Int)] ys = trn k b ys := by
  have h := rd_turned (A := []) (k := k) (b := b) (by simp) hc hl
  have e1 : Vw.pickL [(k : Int), (b : Int)] (swapP 0) = [(b : Int), (k : Int)] := by simp [Vw.pickL, swapP, upToP, List.range, List.range.loop]
  have e2 : Vw.pickL (strd [(k : Int), (b : Int)]) (swapP 0) = [1, (b : Int)] := by simp [strd, prod, Vw.pickL, swapP, upToP, List.range, List.range.loop]
  simp only [List.length_nil, List.nil_append] at h
  rw [e1, e2] at h
  unfold ytL
  simp only [List.length_cons, List.length_nil, Nat.zero_add, Nat.reduceAdd, Nat.sub_self]
  rw [e1, e2, Vw.rdL, if_pos h, Vw.shows, plc_two, trn, List.map_flatMap]
  unfold List.flatMap
  congr 1
  refine List.map_congr_left fun j _ => ?_
  rw [List.map_map]
  refine List.map_congr_left fun i _ => ?_
  simp only [Function.comp_apply, Int.toNat_natCast]

end Go.Proofs.YtaoplfpigjkgpaaGreatDoor

namespace Go.Proofs.YtaoplfpigjkgpaaGreatDoor

open Go.RowKit

theorem pb_parts {ty : Int} {x xs : List Int} (h : pbE ty x xs = 0) : ty = ty ∧ xs.all (chk ty) = true := by
  refine ⟨rfl, ?_⟩
  unfold pbE at h
  split at h
  · omega
  · split at h
    · rename_i h1; exact absurd h h1
    · split at h
      · omega
      · split at h
        · assumption
        · omega

theorem pb_mk {x xs : List Int} (hc : cntE x = 0) (hl : (xs.length : Int) = prod x) (ha : xs.all (chk 1) = true) : pbE 1 x xs = 0 := by
  unfold pbE
  rw [if_neg (by simp [chk]), if_neg (by simp [hc]), if_neg (by rw [cnt, if_pos hc, hl]; simp), if_pos ha]

theorem mm_ok {a k b : Nat} {xs ys : List Int} (hs : ShpM [(a : Int), (k : Int)] [(k : Int), (b : Int)] [] a k b) (px : pbE 1 [(a : Int), (k : Int)] xs = 0) (py : pbE 1 [(k : Int), (b : Int)] ys = 0) : mmR 1 1 [(a : Int), (k : Int)] [(k : Int), (b : Int)] xs ys = .ok (1, [(a : Int), (b : Int)], matL xs (ytL [(k : Int), (b : Int)] ys) 1 a k b) := by
  have hn : nodeP [tq 1 [(a : Int), (k : Int)] xs, tq 1 [(k : Int), (b : Int)] ys] (outM 1 1 [(a : Int), (k : Int)] [(k : Int), (b : Int)] (productP [(a : Int), (k : Int)] [(k : Int), (b : Int)])) = .ok (1, [(a : Int), (b : Int)]) := by
    unfold nodeP
    rw [if_pos (by simp [tq, okT, px, py])]
    have e := prod_twin [] (a : Int) k k b (by decide)
    simp only [List.nil_append, if_true] at e
    rw [e]
    unfold outM
    rw [show countP [(a : Int), (k : Int)] = .ok (prod [(a : Int), (k : Int)]) from if_pos hs.cx, show countP [(k : Int), (b : Int)] = .ok (prod [(k : Int), (b : Int)]) from if_pos hs.cy]
    show (Except.bind (countP [(a : Int), (b : Int)]) fun _ => (Except.ok (1, [(a : Int), (b : Int)]) : R (Int × List Int))) = _
    rw [show countP [(a : Int), (b : Int)] = .ok (prod [(a : Int), (b : Int)]) from if_pos hs.cz]
    rfl
  unfold mmR doR
  rw [hn]
  simp only [hs.mm, Except.map]
  rfl

end Go.Proofs.YtaoplfpigjkgpaaGreatDoor

namespace Go.Proofs.YtaoplfpigjkgpaaGreatDoor

open Go.RowKit

theorem plc_from (b k : Nat) (p : Nat) : Vw.plc [(b : Int), (k : Int)] [1, (b : Int)] (p : Int) = (List.range b).flatMap fun j => (List.range k).map fun i => ((p + (i * b + j) : Nat) : Int) := by
  simp only [Vw.plc, Int.toNat_natCast]
  unfold List.flatMap
  congr 1
  refine List.map_congr_left fun j _ => ?_
  induction (List.range k) with
  | nil => rfl
  | cons i l ih =>
    simp only [List.map_cons, List.flatten_cons] at ih ⊢
    rw [ih]
    simp only [List.singleton_append, List.cons.injEq, and_true]
    push_cast
    omega

theorem getD_drop (l : List Int) (m i : Nat) : (l.drop m).getD i 0 = l.getD (m + i) 0 := by simp [List.getD, List.getElem?_drop]

theorem yt_three {n k b : Nat} {ys : List Int} (hc : cntE [(n : Int), (k : Int), (b : Int)] = 0) (hl : (ys.length : Int) = prod [(n : Int), (k : Int), (b : Int)]) : ytL [(n : Int), (k : Int), (b : Int)] ys = (List.range n).flatMap fun i => trn k b (ys.drop (i * (k * b))) := by
  have h := rd_turned (A := [(n : Int)]) (k := k) (b := b) (by simp) hc hl
  have e1 : Vw.pickL [(n : Int), (k : Int), (b : Int)] (swapP 1) = [(n : Int), (b : Int), (k : Int)] := rfl
  have e2 : Vw.pickL (strd [(n : Int), (k : Int), (b : Int)]) (swapP 1) = [((k * b : Nat) : Int), 1, (b : Int)] := by simp [strd, prod, Vw.pickL, swapP, upToP, List.range, List.range.loop]
  simp only [List.length_cons, List.length_nil, List.cons_append, List.nil_append, Nat.zero_add] at h
  rw [e1, e2] at h
  unfold ytL
  simp only [List.length_cons, List.length_nil, Nat.zero_add, Nat.reduceAdd, Nat.reduceSub]
  rw [e1, e2, Vw.rdL, if_pos h, Vw.shows, Vw.plc, List.map_flatMap, Int.toNat_natCast]
  unfold List.flatMap
  congr 1
  refine List.map_congr_left fun t _ => ?_
  rw [show (0 : Int) + (t : Int) * ((k * b : Nat) : Int) = ((t * (k * b) : Nat) : Int) from by rw [Int.zero_add, Int.natCast_mul t], plc_from, trn, List.map_flatMap]
  unfold List.flatMap
  congr 1
  refine List.map_congr_left fun j _ => ?_
  rw [List.map_map]
  refine List.map_congr_left fun i _ => ?_
  simp only [Function.comp_apply, Int.toNat_natCast]
  rw [getD_drop]

theorem trn_take (k b : Nat) (zs : List Int) : trn k b (zs.take (k * b)) = trn k b zs := by
  unfold trn List.flatMap
  congr 1
  refine List.map_congr_left fun j hj => ?_
  refine List.map_congr_left fun i hi => ?_
  have hj : j < b := by simpa using hj
  have hi : i < k := by simpa using hi
  have hb : i * b + j < k * b := by
    have : i * b + b ≤ k * b := by
      rw [show i * b + b = (i + 1) * b from by rw [Nat.add_mul]; omega]
      exact Nat.mul_le_mul_right _ (by omega)
    omega
  simp only [List.getD]
  rw [List.getElem?_take_of_lt hb]

theorem yt_part {n k b t : Nat} {ys : List Int} (hc : cntE [(n : Int), (k : Int), (b : Int)] = 0) (hl : (ys.length : Int) = prod [(n : Int), (k : Int), (b : Int)]) (hc2 : cntE [(k : Int), (b : Int)] = 0) (ht : t < n) :
    ((ytL [(n : Int), (k : Int), (b : Int)] ys).drop (t * (b * k))).take (b * k) = ytL [(k : Int), (b : Int)] ((ys.drop (t * (k * b))).take (k * b)) := by
  have hl' : ys.length = n * (k * b) := by
    rw [show prod [(n : Int), (k : Int), (b : Int)] = ((n * (k * b) : Nat) : Int) from by simp [prod]] at hl
    omega
  have hb : t * (k * b) + k * b ≤ n * (k * b) := by
    rw [show t * (k * b) + k * b = (t + 1) * (k * b) from by rw [Nat.add_mul]; omega]
    exact Nat.mul_le_mul_right _ (by omega)
  rw [yt_three hc hl, flat_part _ (b * k) n (fun i _ => trn_length _ _ _) t ht, yt_two hc2 ?_, trn_take]
  rw [List.length_take, List.length_drop, hl', show prod [(k : Int), (b : Int)] = ((k * b : Nat) : Int) from by simp [prod]]
  omega

theorem mm_inv3 {tx ty t : Int} {x y xs ys l zs : List Int} (hx : x.length = 3) (hy : y.length = 3) (hxy : x.getD 0 0 = y.getD 0 0) (h : mmR tx ty x y xs ys = .ok (t, l, zs)) :
    ∃ n a k b : Nat, ShpM x y [(n : Int)] a k b ∧ x = [(n : Int), (a : Int), (k : Int)] ∧ y = [(n : Int), (k : Int), (b : Int)] ∧ t = 1 ∧ tx = 1 ∧ ty = 1 ∧ l = [(n : Int), (a : Int), (b : Int)] ∧ zs = matL xs (ytL y ys) n a k b ∧ xs.length = n * (a * k) ∧ ys.length = n * (k * b) ∧ pbE 1 x xs = 0 ∧ pbE 1 y ys = 0 := by
  unfold mmR doR at h
  split at h
  · rename_i ty' l' hn
    obtain ⟨hall, ho⟩ := node_inv hn
    obtain ⟨e1, e2, e3, c1, c2, hp, c3⟩ := outM_inv ho
    cases h
    subst e1 e2 e3
    have ht : Twin x y := by
      match x, y, hx, hy, hxy with
      | [z, p0, q0], [z', p1, q1], _, _, e =>
        simp only [List.getD_cons_zero] at e
        subst e
        exact ⟨[z], p0, q0, p1, q1, by simp, rfl, rfl⟩
    obtain ⟨A, a, k, b, hs, hle⟩ := twin_shp ht c1 c2 hp c3
    obtain ⟨z, rfl⟩ : ∃ z, A = [z] := by
      have := hs.len.1
      rw [hx] at this
      exact List.length_eq_one_iff.1 (by omega)
    have F := fine_of c1
    rw [hs.ex] at F
    have hz := F.pos z (by simp)
    obtain ⟨n, rfl⟩ : ∃ n : Nat, z = n := ⟨z.toNat, by omega⟩
    simp only [tq, okT, List.all_cons, List.all_nil, Bool.and_true, Bool.and_eq_true, beq_iff_eq] at hall
    have hxe : x = [(n : Int), (a : Int), (k : Int)] := by have := hs.ex; simpa using this
    have hye : y = [(n : Int), (k : Int), (b : Int)] := by have := hs.ey; simpa using this
    have lx := (pb_inv hall.1).2
    have ly := (pb_inv hall.2).2
    refine ⟨n, a, k, b, hs, hxe, hye, rfl, rfl, rfl, by rw [hle]; rfl, by rw [hs.mm, show (prod [(n : Int)]).toNat = n from by simp [prod]], ?_, ?_, hall.1, hall.2⟩
    · rw [hxe, show prod [(n : Int), (a : Int), (k : Int)] = ((n * (a * k) : Nat) : Int) from by simp [prod]] at lx
      omega
    · rw [hye, show prod [(n : Int), (k : Int), (b : Int)] = ((n * (k * b) : Nat) : Int) from by simp [prod]] at ly
      omega
  · cases h

theorem cnt_tail {z : Int} {l : List Int} (h : cntE (z :: l) = 0) : cntE l = 0 := by
  have F := fine_of h
  refine cntE_ok (fun q hq => F.pos q (by simp [hq])) (by have := F.few; simp at this; omega) ?_
  have h1 := F.le
  simp only [prod] at h1
  have h2 : 1 ≤ prod l := prod_pos _ (fun q hq => F.pos q (by simp [hq]))
  have := le_mul_left (F.pos z (by simp)) (show (0 : Int) ≤ prod l by omega)
  omega

theorem batch_answer {n a k b t : Nat} {xs ys : List Int} (hs : ShpM [(n : Int), (a : Int), (k : Int)] [(n : Int), (k : Int), (b : Int)] [(n : Int)] a k b) (px : pbE 1 [(n : Int), (a : Int), (k : Int)] xs = 0) (py : pbE 1 [(n : Int), (k : Int), (b : Int)] ys = 0) (hl : xs.length = n * (a * k)) (hly : ys.length = n * (k * b)) (ht : t < n) :
    mmR 1 1 [(a : Int), (k : Int)] [(k : Int), (b : Int)] ((xs.drop (t * (a * k))).take (a * k)) ((ys.drop (t * (k * b))).take (k * b)) = .ok (1, [(a : Int), (b : Int)], ((matL xs (ytL [(n : Int), (k : Int), (b : Int)] ys) n a k b).drop (t * (a * b))).take (a * b)) := by
  have c1 := cnt_tail hs.cx
  have c2 := cnt_tail hs.cy
  have c3 : cntE [(a : Int), (b : Int)] = 0 := cnt_tail (z := (n : Int)) hs.cz
  have hs' : ShpM [(a : Int), (k : Int)] [(k : Int), (b : Int)] [] a k b := ⟨rfl, rfl, by simp, c1, c2, c3⟩
  have part : ∀ (zs : List Int) (p q : Nat), zs.length = n * (p * q) → cntE [(p : Int), (q : Int)] = 0 → zs.all (chk 1) = true → pbE 1 [(p : Int), (q : Int)] ((zs.drop (t * (p * q))).take (p * q)) = 0 := by
    intro zs p q hz hc ha
    have hb : t * (p * q) + p * q ≤ n * (p * q) := by
      rw [show t * (p * q) + p * q = (t + 1) * (p * q) from by rw [Nat.add_mul]; omega]
      exact Nat.mul_le_mul_right _ (by omega)
    refine pb_mk hc ?_ ?_
    · rw [List.length_take, List.length_drop, hz, show prod [(p : Int), (q : Int)] = ((p * q : Nat) : Int) from by simp [prod]]
      omega
    · rw [List.all_eq_true]
      intro z hz
      exact List.all_eq_true.1 ha z (List.mem_of_mem_drop (List.mem_of_mem_take hz))
  have h := mm_ok hs' (part xs a k hl c1 (pb_parts px).2) (part ys k b hly c2 (pb_parts py).2)
  rw [h, batch_law _ _ _ _ _ _ _ ht, yt_part hs.cy (by rw [hly]; simp [prod]) c2 ht]

end Go.Proofs.YtaoplfpigjkgpaaGreatDoor
