/- elem.Do at a node of two, and of one: what it answers. -/
import Derived.Test.YteigfipgmghgmaaGreatDoorEOut
namespace Go.Proofs.YteigfipgmghgmaaGreatDoor
open Go.RowKit

theorem asL_len {ds ts l : List Int} (h : asE ds ts l = 0) : (asL ds ts l).length = (prod l).toNat ∧ (prod l).toNat ≤ 65536 := by
  have h0 := h
  unfold asE at h
  by_cases h1 : cntE ds ≠ 0
  · rw [if_pos h1] at h; exact absurd h h1
  rw [if_neg h1] at h
  by_cases h2 : bcE ds l ≠ 0
  · rw [if_pos h2] at h; exact absurd h h2
  rw [if_neg h2] at h
  by_cases h3 : bcR ds l = l
  · rw [if_pos h3] at h
    unfold asL
    rw [if_pos h0]
    unfold Vw.rdE at h
    by_cases h4 : Vw.rdOk 0 l (Vw.spr ds (strd ds) l) ts = true
    · have hm : Vw.mayB 0 l (Vw.spr ds (strd ds) l) = true := by
        unfold Vw.rdOk at h4
        exact (Bool.and_eq_true_iff.1 h4).1
      have hm := Vw.mayB_iff.1 hm
      unfold Vw.rdL
      rw [if_pos h4]
      unfold Vw.shows
      rw [List.length_map, Vw.plc_length _ _ _ hm.len hm.fine.pos]
      exact ⟨rfl, by have := hm.fine.le; omega⟩
    · rw [if_neg h4] at h; omega
  · rw [if_neg h3] at h; omega

/-- An error that is one. -/
def Nz {α : Type} (r : R α) : Prop := ∀ c, r = .error c → c ≠ 0

theorem Nz.bind {α β : Type} {r : R α} {f : α → R β} (h : Nz r) (k : ∀ a, r = .ok a → Nz (f a)) : Nz (r.bind f) := by
  cases r with
  | error c => intro d hd; exact h d (by cases hd; rfl)
  | ok a => exact k a rfl

theorem bind_ok {α β : Type} {r : R α} {f : α → R β} {b : β} (h : r.bind f = .ok b) : ∃ a, r = .ok a ∧ f a = .ok b := by
  cases r with
  | error c => cases h
  | ok a => exact ⟨a, rfl, h⟩

theorem must_ok {b : Bool} {a : Unit} (h : mustP b = .ok a) : b = true := by
  unfold mustP at h
  split at h
  · assumption
  · cases h

theorem count_ok {x : List Int} {n : Int} (h : countP x = .ok n) : cntE x = 0 := by
  unfold countP at h
  split at h
  · assumption
  · cases h

theorem same_ok {t0 t1 t : Int} (h : sameP [t0, t1] = .ok t) : t1 = t0 ∧ t = t0 := by
  simp only [sameP, List.all_cons, List.all_nil, Bool.and_true, beq_iff_eq] at h
  split at h
  · rename_i h1; cases h; exact ⟨h1, rfl⟩
  · cases h

theorem out2_inv {op : ByteArray} {t0 t1 t : Int} {x y d : List Int} (h : out2F op t0 t1 x y = .ok (t, d)) : t = t0 ∧ t1 = t0 ∧ twoOK op.toList t0 = true ∧ cntE x = 0 ∧ cntE y = 0 ∧ spreadP x y = .ok d ∧ cntE d = 0 := by
  unfold out2F at h
  obtain ⟨_, -, h⟩ := bind_ok h
  obtain ⟨_, hx, h⟩ := bind_ok h
  obtain ⟨_, -, h⟩ := bind_ok h
  obtain ⟨_, hy, h⟩ := bind_ok h
  obtain ⟨t', ht, h⟩ := bind_ok h
  obtain ⟨_, hm, h⟩ := bind_ok h
  obtain ⟨d', hd, h⟩ := bind_ok h
  obtain ⟨_, hc, h⟩ := bind_ok h
  cases h
  obtain ⟨e1, e2⟩ := same_ok ht
  subst e2
  exact ⟨rfl, e1, must_ok hm, count_ok hx, count_ok hy, hd, count_ok hc⟩

theorem out1_inv {op : ByteArray} {t0 t : Int} {x d : List Int} (h : out1F op t0 x = .ok (t, d)) : t = t0 ∧ oneOK op.toList t0 = true ∧ cntE x = 0 ∧ d = x := by
  unfold out1F at h
  obtain ⟨_, -, h⟩ := bind_ok h
  obtain ⟨_, hx, h⟩ := bind_ok h
  obtain ⟨_, hm, h⟩ := bind_ok h
  cases h
  exact ⟨rfl, must_ok hm, count_ok hx, rfl⟩

theorem node_inv {ps : List (Ten × Tq)} {r : R (Int × List Int)} {a : Int × List Int} (h : nodeP ps r = .ok a) : ps.all okT = true ∧ r = .ok a := by
  unfold nodeP at h
  split at h
  · rename_i h1; exact ⟨h1, h⟩
  · cases h

theorem nz_ok {α : Type} (a : α) : Nz (Except.ok a : R α) := fun c h => by cases h
theorem nz_typ (t : Int) : Nz (typP t) := by
  intro c h
  unfold typP at h
  split at h
  · cases h
  · cases h; omega
theorem nz_must (b : Bool) : Nz (mustP b) := by
  intro c h
  unfold mustP at h
  split at h
  · cases h
  · cases h; omega
theorem nz_count (x : List Int) : Nz (countP x) := by
  intro c h
  unfold countP at h
  split at h
  · cases h
  · rename_i h1; cases h; exact h1
theorem nz_spread (x y : List Int) : Nz (spreadP x y) := by
  intro c h
  unfold spreadP at h
  split at h
  · cases h
  · rename_i h1; cases h; exact h1
theorem nz_same (t0 t1 : Int) : Nz (sameP [t0, t1]) := by
  intro c h
  simp only [sameP] at h
  split at h
  · cases h
  · cases h; omega

theorem nz_out2 (op : ByteArray) (t0 t1 : Int) (x y : List Int) : Nz (out2F op t0 t1 x y) :=
  (nz_typ _).bind fun _ _ => (nz_count _).bind fun _ _ => (nz_typ _).bind fun _ _ => (nz_count _).bind fun _ _ => (nz_same _ _).bind fun _ _ => (nz_must _).bind fun _ _ => (nz_spread _ _).bind fun _ _ => (nz_count _).bind fun _ _ => nz_ok _

theorem nz_out1 (op : ByteArray) (t0 : Int) (x : List Int) : Nz (out1F op t0 x) :=
  (nz_typ _).bind fun _ _ => (nz_count _).bind fun _ _ => (nz_must _).bind fun _ _ => nz_ok _

theorem nz_node {ps : List (Ten × Tq)} {r : R (Int × List Int)} (h : Nz r) : Nz (nodeP ps r) := by
  unfold nodeP
  split
  · exact h
  · intro c hc; cases hc; omega

theorem nz_ev (F : List Int → Int × Int) (cs : List (List Int)) : ∀ (m k : Nat), Nz (evL F cs k m)
  | 0, _ => nz_ok _
  | m + 1, k => by
    intro c h
    simp only [evL] at h
    split at h
    · cases he : evL F cs (k + 1) m with
      | error d => rw [he] at h; cases h; exact nz_ev F cs m (k + 1) _ he
      | ok a => rw [he] at h; cases h
    · rename_i h1; cases h; exact h1

theorem firstA_nz {l : List Int} : ∀ {ps : List (Ten × Tq)}, ps.all (asOk l) = false → firstA l ps ≠ 0
  | [], h => by simp at h
  | p :: ps, h => by
    unfold firstA
    by_cases hp : asOk l p = true
    · rw [if_pos hp]
      exact firstA_nz (by simpa [hp] using h)
    · rw [if_neg hp]
      simpa [asOk] using hp

theorem nz_made (F : List Int → Int × Int) (ps : List (Ten × Tq)) (l : List Int) (N : Nat) : Nz (madeR F ps l N) := by
  unfold madeR
  split
  · exact nz_ev _ _ _ _
  · rename_i h
    intro c hc
    cases hc
    exact firstA_nz (by simpa using h)

def F2 (k : Nat) (t : Int) (xs : List Int) : Int × Int := Nu.bin k t (xs.getD 0 0) (xs.getD 1 0)
def F1 (k : Nat) (t : Int) (xs : List Int) : Int × Int := Nu.un k t (xs.getD 0 0)

def tq (t : Int) (x xs : List Int) : Ten × Tq := (⟨t, nilS, nilS⟩, (x, xs))

/-- What Do answers of two tensors. -/
def el2 (op : ByteArray) (k : Nat) (t0 t1 : Int) (x y xs ys : List Int) : R (Int × List Int × List Int) :=
  doR (nodeP [tq t0 x xs, tq t1 y ys] (out2F op t0 t1 x y)) fun l => madeR (F2 k t0) [tq t0 x xs, tq t1 y ys] l (prod l).toNat

/-- What Do answers of one tensor. -/
def el1 (op : ByteArray) (k : Nat) (t0 : Int) (x xs : List Int) : R (Int × List Int × List Int) :=
  doR (nodeP [tq t0 x xs] (out1F op t0 x)) fun l => madeR (F1 k t0) [tq t0 x xs] l (prod l).toNat

/-- What a closure of two does. -/
def Work2 (op : ByteArray) (k : Nat) : Prop := ∀ (n : Nod) (_ : n.op = op) (p1 p2 B : Nat) (ub uo un uc : Nat) (ty x y : Int) (w : World) (_ : BoxN w p1 n) (_ : BoxT w p2 ⟨some ⟨ub, uo, none⟩, un, uc⟩) (_ : 0 < un) (_ : w.cell? ⟨ub, uo, none⟩ = some (.int .i64 ty)) (_ : w.cell? ⟨B, 0, none⟩ = some (.int .i64 x)) (_ : w.cell? ⟨B, 1, none⟩ = some (.int .i64 y)),
    Calls Tryz.prog 30 #[.slice (some ⟨B, 0, none⟩) 2 2, .pointer (some ⟨p1, 0, none⟩), .pointer (some ⟨p2, 0, none⟩)] w fun e w' => e = .returned (.tuple #[.int .i64 (Nu.bin k ty x y).1, .int .i64 (Nu.bin k ty x y).2]) ∧ ∃ q, w' = w.drewN q

theorem two_vals {vs : List (Val × List Int)} {t0 t1 : Int} {x y : List Int} (h1 : vs.map (·.1.ty) = [t0, t1]) (h2 : vs.map (·.2) = [x, y]) : ∃ v0 v1 : Val, vs = [(v0, x), (v1, y)] ∧ v0.ty = t0 ∧ v1.ty = t1 := by
  match vs, h1, h2 with
  | [(v0, a), (v1, b)], h1, h2 =>
    simp only [List.map_cons, List.map_nil, List.cons.injEq, and_true] at h1 h2
    obtain ⟨rfl, rfl⟩ := h1
    obtain ⟨rfl, rfl⟩ := h2
    exact ⟨v0, v1, rfl, rfl, rfl⟩

theorem one_val {vs : List (Val × List Int)} {t0 : Int} {x : List Int} (h1 : vs.map (·.1.ty) = [t0]) (h2 : vs.map (·.2) = [x]) : ∃ v0 : Val, vs = [(v0, x)] ∧ v0.ty = t0 := by
  match vs, h1, h2 with
  | [(v0, a)], h1, h2 =>
    simp only [List.map_cons, List.map_nil, List.cons.injEq, and_true] at h1 h2
    subst h1 h2
    exact ⟨v0, rfl, rfl⟩

theorem elem2 (op out : ByteArray) (iv : Sl) (i1 i2 : ByteArray) (k : Nat) (hop : op ∈ ([⟨#[65, 100, 100]⟩, ⟨#[68, 105, 118]⟩, ⟨#[65, 110, 100]⟩, ⟨#[79, 114]⟩, ⟨#[77, 117, 108]⟩] : List ByteArray)) (WK : Work2 op k) (hck : checkF (ruleF op) op [i1, i2] out [] [] = 0) (ho : out.size ≤ 1048576) (u : Sl) (T0 T1 : Ten) (x y xs ys : List Int) (w : World) (hl : Laid w) (hi : IsStrs w iv.v [i1, i2]) (hv : TensIn w u.v [(T0, (x, xs)), (T1, (y, ys))]) (hF : ∀ a b, -9223372036854775808 ≤ (Nu.bin k T0.ty a b).1 ∧ (Nu.bin k T0.ty a b).1 ≤ 9223372036854775807) :
    Calls Tryz.prog 8 #[nval ⟨op, ⟨#[]⟩, iv, out, nilS⟩, .slice u.a u.n u.c] w (DoQ w (el2 op k T0.ty T1.ty x y xs ys)) := by
  refine edo_any _ u _ w fun wx hx => bdo_any _ u _ _ wx (nz_node (nz_out2 _ _ _ _ _)) (fun l => nz_made _ _ _ _) (fun wy hy => ?_) (fun wy ty dv l hy hr hd => ?_)
  · refine bnode_any ⟨op, ⟨#[]⟩, iv, out, nilS⟩ u [(T0, (x, xs)), (T1, (y, ys))] _ wy (hv.more (grown_trans hx hy)) (by simp) fun wz s vs hz hvs h1 h2 => ?_
    obtain ⟨v0, v1, rfl, e0, e1⟩ := two_vals h1 h2
    have key := eout2 op out iv i1 i2 hop hck ho s v0 v1 x y wz (hl.more (grown_trans (grown_trans hx hy) hz)) (hi.more (grown_trans (grown_trans hx hy) hz)) hvs
    rw [e0, e1] at key
    exact key
  · have hvy := hv.more (grown_trans hx hy)
    refine made_two ⟨op, ⟨#[]⟩, iv, out, nilS⟩ (sub12 hop) u [(T0, (x, xs)), (T1, (y, ys))] _ ty dv l (F2 k T0.ty) (prod l).toNat wy hvy (by simp) (by simp) hd ?_ (fun p hp ha => (asL_len (by simpa [asOk] using ha)).1) (fun zs => hF _ _) fun wz p1 p2 B zs hz hb1 hb2 hzl hzi => ?_
    · have := (fine_of (out2_inv (node_inv hr).2).2.2.2.2.2.2).le
      omega
    · obtain ⟨ua, un, uc⟩ := u
      obtain ⟨ub, uo, rfl⟩ := hvy.vals.addr (k := 0) (by simp)
      obtain ⟨xa, xc, e1, -⟩ := hvy.vals.form
      simp only [Sl.v, List.map_cons, List.map_nil, List.length_cons, List.length_nil, Value.slice.injEq] at e1
      obtain ⟨-, rfl, -⟩ := e1
      obtain ⟨c0, -, -⟩ := (hvy.more hz).at 0 (by simp)
      obtain ⟨zb, zo, ez, hc⟩ := hzi.get (k := 0) (by simp at hzl; omega)
      cases ez
      have d0 := hc 0 (by simp at hzl; omega)
      have d1 := hc 1 (by simp at hzl; omega)
      exact WK ⟨op, ⟨#[]⟩, iv, out, nilS⟩ rfl p1 p2 B ub uo _ uc T0.ty (zs.getD 0 0) (zs.getD 1 0) wz hb1 hb2 (by omega) (by simpa using c0) (by simpa using d0) (by simpa using d1)

/-- What a closure of one does. -/
def Work1 (op : ByteArray) (k : Nat) : Prop := ∀ (n : Nod) (_ : n.op = op) (p1 p2 B : Nat) (ub uo un uc : Nat) (ty x : Int) (w : World) (_ : BoxN w p1 n) (_ : BoxT w p2 ⟨some ⟨ub, uo, none⟩, un, uc⟩) (_ : 0 < un) (_ : w.cell? ⟨ub, uo, none⟩ = some (.int .i64 ty)) (_ : w.cell? ⟨B, 0, none⟩ = some (.int .i64 x)),
    Calls Tryz.prog 28 #[.slice (some ⟨B, 0, none⟩) 1 1, .pointer (some ⟨p1, 0, none⟩), .pointer (some ⟨p2, 0, none⟩)] w fun e w' => e = .returned (.tuple #[.int .i64 (Nu.un k ty x).1, .int .i64 (Nu.un k ty x).2]) ∧ ∃ q, w' = w.drewN q

theorem elem1 (op out : ByteArray) (iv : Sl) (i1 : ByteArray) (k : Nat) (hop : op ∈ ([⟨#[78, 111, 116]⟩] : List ByteArray)) (WK : Work1 op k) (hck : checkF (ruleF op) op [i1] out [] [] = 0) (ho : out.size ≤ 1048576) (u : Sl) (T0 : Ten) (x xs : List Int) (w : World) (hl : Laid w) (hi : IsStrs w iv.v [i1]) (hv : TensIn w u.v [(T0, (x, xs))]) (hF : ∀ a, -9223372036854775808 ≤ (Nu.un k T0.ty a).1 ∧ (Nu.un k T0.ty a).1 ≤ 9223372036854775807) :
    Calls Tryz.prog 8 #[nval ⟨op, ⟨#[]⟩, iv, out, nilS⟩, .slice u.a u.n u.c] w (DoQ w (el1 op k T0.ty x xs)) := by
  refine edo_any _ u _ w fun wx hx => bdo_any _ u _ _ wx (nz_node (nz_out1 _ _ _)) (fun l => nz_made _ _ _ _) (fun wy hy => ?_) (fun wy ty dv l hy hr hd => ?_)
  · refine bnode_any ⟨op, ⟨#[]⟩, iv, out, nilS⟩ u [(T0, (x, xs))] _ wy (hv.more (grown_trans hx hy)) (by simp) fun wz s vs hz hvs h1 h2 => ?_
    obtain ⟨v0, rfl, e0⟩ := one_val h1 h2
    have key := eout1 op out iv i1 hop hck ho s v0 x wz (hl.more (grown_trans (grown_trans hx hy) hz)) (hi.more (grown_trans (grown_trans hx hy) hz)) hvs
    rw [e0] at key
    exact key
  · have hvy := hv.more (grown_trans hx hy)
    refine made_one ⟨op, ⟨#[]⟩, iv, out, nilS⟩ hop u [(T0, (x, xs))] _ ty dv l (F1 k T0.ty) (prod l).toNat wy hvy (by simp) (by simp) hd ?_ (fun p hp ha => (asL_len (by simpa [asOk] using ha)).1) (fun zs => hF _) fun wz p1 p2 B zs hz hb1 hb2 hzl hzi => ?_
    · obtain ⟨-, -, h1, rfl⟩ := out1_inv (node_inv hr).2
      have := (fine_of h1).le
      omega
    · obtain ⟨ua, un, uc⟩ := u
      obtain ⟨ub, uo, rfl⟩ := hvy.vals.addr (k := 0) (by simp)
      obtain ⟨xa, xc, e1, -⟩ := hvy.vals.form
      simp only [Sl.v, List.map_cons, List.map_nil, List.length_cons, List.length_nil, Value.slice.injEq] at e1
      obtain ⟨-, rfl, -⟩ := e1
      obtain ⟨c0, -, -⟩ := (hvy.more hz).at 0 (by simp)
      obtain ⟨zb, zo, ez, hc⟩ := hzi.get (k := 0) (by simp at hzl; omega)
      cases ez
      have d0 := hc 0 (by simp at hzl; omega)
      exact WK ⟨op, ⟨#[]⟩, iv, out, nilS⟩ rfl p1 p2 B ub uo _ uc T0.ty (zs.getD 0 0) wz hb1 hb2 (by omega) (by simpa using c0) (by simpa using d0)
end Go.Proofs.YteigfipgmghgmaaGreatDoor
