/- Joined texts: LnEl, LnOneP, MvTrDo, LnKit, MvInts, LnRowsP. -/
import Derived.Test.YtkefdkboejimeaaGreatDoorPartBG
import Derived.Test.YtkefdkboejimeaaGreatDoorPartBF
import Derived.Test.YtkefdkboejimeaaGreatDoorPartAW
import Derived.Test.YtkefdkboejimeaaGreatDoorPartAQ
import Derived.Test.YtkefdkboejimeaaGreatDoorPartBC
import Derived.Test.YtkefdkboejimeaaGreatDoorPartAZ
import Derived.Test.YtkefdkboejimeaaGreatDoorPartAB
namespace Go.Proofs.YtkefdkboejimeaaGreatDoor

open Go.RowKit

def Nz {α : Type} (r : R α) : Prop := ∀ c, r = .error c → c ≠ 0

theorem Nz.bind {α β : Type} {r : R α} {f : α → R β} (h : Nz r) (k : ∀ a, r = .ok a → Nz (f a)) : Nz (r.bind f) := by
  cases r with
  | error c => intro d hd; exact h d (by cases hd; rfl)
  | ok a => exact k a rfl

theorem nz_ok {α : Type} (a : α) : Nz (Except.ok a : R α) := fun c h => by cases h
theorem nz_typ (t : Int) : Nz (typP t) := by
  intro c h
  unfold typP at h
  split at h
  · cases h
  · cases h; omega
theorem nz_must (b : Bool) : Nz (mustP b) := by
  intro c h
  unfold mustP at h
  split at h
  · cases h
  · cases h; omega
theorem nz_count (x : List Int) : Nz (countP x) := by
  intro c h
  unfold countP at h
  split at h
  · cases h
  · rename_i h1; cases h; exact h1
theorem nz_spread (x y : List Int) : Nz (spreadP x y) := by
  intro c h
  unfold spreadP at h
  split at h
  · cases h
  · rename_i h1; cases h; exact h1
theorem nz_same (t0 t1 : Int) : Nz (sameP [t0, t1]) := by
  intro c h
  simp only [sameP] at h
  split at h
  · cases h
  · cases h; omega

theorem nz_product (x y : List Int) : Nz (productP x y) := by
  unfold productP
  exact (nz_must _).bind fun _ _ => (nz_must _).bind fun _ _ => (nz_spread _ _).bind fun _ _ => nz_ok _

theorem nz_outM (t0 t1 : Int) (x y : List Int) (d : R (List Int)) (hd : Nz d) : Nz (outM t0 t1 x y d) :=
  (nz_typ _).bind fun _ _ => (nz_count _).bind fun _ _ => (nz_typ _).bind fun _ _ => (nz_count _).bind fun _ _ => (nz_same _ _).bind fun _ _ => (nz_must _).bind fun _ _ => hd.bind fun _ _ => (nz_count _).bind fun _ _ => nz_ok _

theorem nz_node {ps : List (Ten × Tq)} {r : R (Int × List Int)} (h : Nz r) : Nz (nodeP ps r) := by
  unfold nodeP
  split
  · exact h
  · intro c hc; cases hc; omega

theorem node_inv {ps : List (Ten × Tq)} {r : R (Int × List Int)} {a : Int × List Int} (h : nodeP ps r = .ok a) : ps.all okT = true ∧ r = .ok a := by
  unfold nodeP at h
  split at h
  · rename_i h1; exact ⟨h1, h⟩
  · cases h

theorem must_ok {b : Bool} {a : Unit} (h : mustP b = .ok a) : b = true := by
  unfold mustP at h
  split at h
  · assumption
  · cases h

theorem pb_inv {ty : Int} {x xs : List Int} (h : pbE ty x xs = 0) : cntE x = 0 ∧ (xs.length : Int) = prod x := by
  unfold pbE at h
  split at h
  · omega
  · split at h
    · rename_i h1; exact absurd h h1
    · rename_i h1
      have h1' : cntE x = 0 := by omega
      split at h
      · omega
      · rename_i h2
        refine ⟨h1', ?_⟩
        have : (xs.length : Int) = cnt x := by omega
        rw [this, cnt, if_pos h1']

def Twin (x y : List Int) : Prop := ∃ A p0 q0 p1 q1, A.length ≤ 1 ∧ x = A ++ [p0, q0] ∧ y = A ++ [p1, q1]

theorem fine_front {A B : List Int} (h : cntE (A ++ B) = 0) : cntE A = 0 := by
  have F := fine_of h
  refine cntE_ok (fun z hz => F.pos z (by simp [hz])) (by have := F.few; rw [List.length_append] at this; omega) ?_
  have h1 := F.le
  rw [prod_append] at h1
  have h2 : 1 ≤ prod B := prod_pos _ (fun z hz => F.pos z (by simp [hz]))
  have h3 : 1 ≤ prod A := prod_pos _ (fun z hz => F.pos z (by simp [hz]))
  have := le_mul_right h2 (show (0 : Int) ≤ prod A by omega)
  omega

theorem prod_twin (A : List Int) (p0 q0 p1 q1 : Int) (hA : cntE A = 0) : productP (A ++ [p0, q0]) (A ++ [p1, q1]) = if q0 = p1 then .ok (A ++ [p0, q1]) else .error 4 := by
  unfold productP
  have l0 : ∀ p q : Int, (A ++ [p, q]).length = A.length + 2 := fun p q => by simp
  have eg : ∀ p q : Int, (A ++ [p, q]).getD A.length 0 = p ∧ (A ++ [p, q]).getD (A.length + 1) 0 = q := fun p q => by simp [List.getD]
  obtain ⟨b1, b2⟩ := bc_self hA
  rw [l0, l0, show A.length + 2 - 1 = A.length + 1 from rfl, show A.length + 2 - 2 = A.length from rfl, (eg p0 q0).1, (eg p0 q0).2, (eg p1 q1).1, (eg p1 q1).2, List.take_left' rfl, List.take_left' rfl, show spreadP A A = .ok A from by unfold spreadP; rw [if_pos b1, b2]]
  simp only [mustP, show decide (2 ≤ A.length + 2 ∧ 2 ≤ A.length + 2) = true from by simp, if_true]
  by_cases h : q0 = p1
  · rw [if_pos (by simp [h]), if_pos h]
    rfl
  · rw [if_neg (by simp [h]), if_neg h]
    rfl

theorem outM_inv {t0 t1 ty : Int} {x y l : List Int} {d : R (List Int)} (h : outM t0 t1 x y d = .ok (ty, l)) : ty = 1 ∧ t0 = 1 ∧ t1 = 1 ∧ cntE x = 0 ∧ cntE y = 0 ∧ d = .ok l ∧ cntE l = 0 := by
  unfold outM at h
  obtain ⟨_, -, h⟩ := bind_ok h
  obtain ⟨_, hx, h⟩ := bind_ok h
  obtain ⟨_, -, h⟩ := bind_ok h
  obtain ⟨_, hy, h⟩ := bind_ok h
  obtain ⟨t, hs, h⟩ := bind_ok h
  obtain ⟨_, hm, h⟩ := bind_ok h
  obtain ⟨d', hd, h⟩ := bind_ok h
  obtain ⟨_, hc, h⟩ := bind_ok h
  cases h
  have e := must_ok hm
  simp only [beq_iff_eq] at e
  subst e
  simp only [sameP, List.all_cons, List.all_nil, Bool.and_true, beq_iff_eq] at hs
  split at hs
  · rename_i h1
    cases hs
    exact ⟨rfl, rfl, h1, count_ok hx, count_ok hy, hd, count_ok hc⟩
  · cases hs

theorem twin_shp {x y l : List Int} (ht : Twin x y) (hx : cntE x = 0) (hy : cntE y = 0) (hp : productP x y = .ok l) (hl : cntE l = 0) : ∃ A a k b, ShpM x y A a k b ∧ l = A ++ [(a : Int), (b : Int)] := by
  obtain ⟨A, p0, q0, p1, q1, hA, rfl, rfl⟩ := ht
  rw [prod_twin _ _ _ _ _ (fine_front hx)] at hp
  have FX := fine_of hx
  have FY := fine_of hy
  have h1 := FX.pos p0 (by simp)
  have h2 := FX.pos q0 (by simp)
  have h3 := FY.pos q1 (by simp)
  split at hp
  · rename_i he
    subst he
    cases hp
    obtain ⟨a, rfl⟩ : ∃ a : Nat, p0 = a := ⟨p0.toNat, by omega⟩
    obtain ⟨k, rfl⟩ : ∃ k : Nat, q0 = k := ⟨q0.toNat, by omega⟩
    obtain ⟨b, rfl⟩ : ∃ b : Nat, q1 = b := ⟨q1.toNat, by omega⟩
    exact ⟨A, a, k, b, ⟨rfl, rfl, hA, hx, hy, hl⟩, rfl⟩
  · cases hp

def tq (t : Int) (x xs : List Int) : Ten × Tq := (⟨t, nilS, nilS⟩, (x, xs))

def mmR (t0 t1 : Int) (x y xs ys : List Int) : R (Int × List Int × List Int) :=
  doR (nodeP [tq t0 x xs, tq t1 y ys] (outM t0 t1 x y (productP x y))) fun _ => .ok (mmL x xs y ys)

theorem two_valsL {vs : List (Val × List Int)} {t0 t1 : Int} {x y : List Int} (h1 : vs.map (·.1.ty) = [t0, t1]) (h2 : vs.map (·.2) = [x, y]) : ∃ v0 v1, vs = [(v0, x), (v1, y)] ∧ v0.ty = t0 ∧ v1.ty = t1 := by
  match vs, h1, h2 with
  | [(v0, a), (v1, b)], h1, h2 =>
    simp only [List.map_cons, List.map_nil, List.cons.injEq, and_true] at h1 h2
    obtain ⟨e1, e2⟩ := h1
    obtain ⟨rfl, rfl⟩ := h2
    exact ⟨v0, v1, rfl, e1, e2⟩

theorem matmul_do (out : ByteArray) (iv : Sl) (i1 i2 : ByteArray) (hck : checkF (ruleF ⟨#[77, 97, 116, 77, 117, 108]⟩) ⟨#[77, 97, 116, 77, 117, 108]⟩ [i1, i2] out [] [] = 0) (ho : out.size ≤ 1048576) (u : Sl) (T0 T1 : Ten) (x y xs ys : List Int) (w : World) (ht : Twin x y) (hl : Laid w) (hi : IsStrs w iv.v [i1, i2]) (hv : TensIn w u.v [(T0, (x, xs)), (T1, (y, ys))]) :
    Calls Tryz.prog 11 #[nval ⟨⟨#[77, 97, 116, 77, 117, 108]⟩, ⟨#[]⟩, iv, out, nilS⟩, .slice u.a u.n u.c] w (DoQ w (mmR T0.ty T1.ty x y xs ys)) := by
  refine ldo_any _ u _ w fun wx hx => lbdo_any _ u _ _ wx (nz_node (nz_outM _ _ _ _ _ (nz_product _ _))) (fun l => nz_ok _) (fun wy hy => ?_) (fun wy ty dv l hy hr hd => ?_)
  · refine bnode_any ⟨⟨#[77, 97, 116, 77, 117, 108]⟩, ⟨#[]⟩, iv, out, nilS⟩ u [(T0, (x, xs)), (T1, (y, ys))] _ wy (hv.more (grown_trans hx hy)) (by simp) fun wz s vs hz hvs h1 h2 => ?_
    obtain ⟨v0, v1, rfl, e0, e1⟩ := two_valsL h1 h2
    have key := mout out iv i1 i2 hck ho s v0 v1 x y wz (hl.more (grown_trans (grown_trans hx hy) hz)) (hi.more (grown_trans (grown_trans hx hy) hz)) hvs
    rw [e0, e1] at key
    exact key
  · have hvy := hv.more (grown_trans hx hy)
    obtain ⟨hall, hr⟩ := node_inv hr
    obtain ⟨-, -, -, c1, c2, hp, c3⟩ := outM_inv hr
    obtain ⟨A, a, k, b, hs, hle⟩ := twin_shp ht c1 c2 hp c3
    simp only [okT, List.all_cons, List.all_nil, Bool.and_true, Bool.and_eq_true, beq_iff_eq] at hall
    exact made_mat ⟨⟨#[77, 97, 116, 77, 117, 108]⟩, ⟨#[]⟩, iv, out, nilS⟩ rfl u T0 T1 x y xs ys A a k b _ ty dv l wy hs hle hvy hd (pb_inv hall.1).2 (pb_inv hall.2).2

end Go.Proofs.YtkefdkboejimeaaGreatDoor

namespace Go.Proofs.YtkefdkboejimeaaGreatDoor

open Go.RowKit

theorem plc_two (b k : Nat) : Vw.plc [(b : Int), (k : Int)] [1, (b : Int)] 0 = (List.range b).flatMap fun j => (List.range k).map fun i => ((i * b + j : Nat) : Int) := by
  simp only [Vw.plc, Int.toNat_natCast]
  unfold List.flatMap
  congr 1
  refine List.map_congr_left fun j _ => ?_
  induction (List.range k) with
  | nil => rfl
  | cons i l ih =>
    simp only [List.map_cons, List.flatten_cons] at ih ⊢
    rw [ih]
    simp only [List.singleton_append, List.cons.injEq, and_true]
    omega

theorem yt_two {k b : Nat} {ys : List Int} (hc : cntE [(k : Int), (b : Int)] = 0) (hl : (ys.length : Int) = prod [(k : Int), (b : Int)]) : ytL [(k : Int), (b : Int)] ys = trn k b ys := by
  have h := rd_turned (A := []) (k := k) (b := b) (by simp) hc hl
  have e1 : Vw.pickL [(k : Int), (b : Int)] (swapP 0) = [(b : Int), (k : Int)] := by simp [Vw.pickL, swapP, upToP, List.range, List.range.loop]
  have e2 : Vw.pickL (strd [(k : Int), (b : Int)]) (swapP 0) = [1, (b : Int)] := by simp [strd, prod, Vw.pickL, swapP, upToP, List.range, List.range.loop]
  simp only [List.length_nil, List.nil_append] at h
  rw [e1, e2] at h
  unfold ytL
  simp only [List.length_cons, List.length_nil, Nat.zero_add, Nat.reduceAdd, Nat.sub_self]
  rw [e1, e2, Vw.rdL, if_pos h, Vw.shows, plc_two, trn, List.map_flatMap]
  unfold List.flatMap
  congr 1
  refine List.map_congr_left fun j _ => ?_
  rw [List.map_map]
  refine List.map_congr_left fun i _ => ?_
  simp only [Function.comp_apply, Int.toNat_natCast]

end Go.Proofs.YtkefdkboejimeaaGreatDoor

namespace Go.Proofs.YtkefdkboejimeaaGreatDoor

open Go.RowKit

def outT (t : Int) (x : List Int) (d : R (List Int)) : R (Int × List Int) :=
  (typP t).bind fun _ => (countP x).bind fun _ => d.bind fun d => (countP d).bind fun _ => .ok (t, d)

theorem valueT (v0 : Val) (x : List Int) (d : R (List Int)) : valueP 0 true [(v0, x)] (sameP (tysOf [(v0, x)])) d [] = outT v0.ty x d := by
  unfold valueP outT
  simp only [stopP, mustP, if_true, vinP, tysOf, List.map_cons, List.map_nil, thenP, bind_assocE]
  rfl

theorem vinT {v0 : Val} {x : List Int} (h : vinP [(v0, x)] = .ok ()) : (∀ s ∈ tysOf [(v0, x)], isTypeP s = true) ∧ cntE x = 0 := by
  simp only [vinP] at h
  obtain ⟨_, h1, h⟩ := bind_ok h
  obtain ⟨_, h2, h⟩ := bind_ok h
  refine ⟨fun s hs => ?_, count_ok h2⟩
  simp only [tysOf, List.map_cons, List.map_nil, List.mem_cons, List.not_mem_nil, or_false] at hs
  subst hs
  exact isType_of h1

theorem outT_inv {t ty : Int} {x l : List Int} {d : R (List Int)} (h : outT t x d = .ok (ty, l)) : ty = t ∧ cntE x = 0 ∧ d = .ok l ∧ cntE l = 0 := by
  unfold outT at h
  obtain ⟨_, -, h⟩ := bind_ok h
  obtain ⟨_, hx, h⟩ := bind_ok h
  obtain ⟨d', hd, h⟩ := bind_ok h
  obtain ⟨_, hc, h⟩ := bind_ok h
  cases h
  exact ⟨rfl, count_ok hx, hd, count_ok hc⟩

theorem trans_two (p q : Int) : transposedP ⟨⟨#[84, 114, 97, 110, 115, 112, 111, 115, 101]⟩, [], []⟩ [p, q] = .ok [q, p] := rfl

theorem tout (out : ByteArray) (iv : Sl) (i1 : ByteArray) (hck : checkF (ruleF ⟨#[84, 114, 97, 110, 115, 112, 111, 115, 101]⟩) ⟨#[84, 114, 97, 110, 115, 112, 111, 115, 101]⟩ [i1] out [] [] = 0) (ho : out.size ≤ 1048576) (u : Sl) (v0 : Val) (x : List Int) (w : World) (hl : Laid w) (hi : IsStrs w iv.v [i1]) (hv : ValsIn w u.v [(v0, x)]) :
    Calls Tryz.prog 53 #[nval ⟨⟨#[84, 114, 97, 110, 115, 112, 111, 115, 101]⟩, ⟨#[]⟩, iv, out, nilS⟩, .slice u.a u.n u.c] w (AttQ out w (outT v0.ty x (transposedP ⟨⟨#[84, 114, 97, 110, 115, 112, 111, 115, 101]⟩, [], []⟩ x))) := by
  refine out_any ⟨⟨#[84, 114, 97, 110, 115, 112, 111, 115, 101]⟩, ⟨#[]⟩, iv, out, nilS⟩ u _ w fun wx hx => ?_
  have key := valueof_any ⟨⟨#[84, 114, 97, 110, 115, 112, 111, 115, 101]⟩, ⟨#[]⟩, iv, out, nilS⟩ ⟨⟨#[84, 114, 97, 110, 115, 112, 111, 115, 101]⟩, [], []⟩ [i1] u [(v0, x)] wx (hl.more hx) (bare_in wx ⟨#[84, 114, 97, 110, 115, 112, 111, 115, 101]⟩ out iv _ (hi.more hx)) (hv.more hx) (by show out.size ≤ _; omega) _ _ (fun hc hll hin wy hy => ((type_same ⟨⟨#[84, 114, 97, 110, 115, 112, 111, 115, 101]⟩, ⟨#[]⟩, iv, out, nilS⟩ ⟨⟨#[84, 114, 97, 110, 115, 112, 111, 115, 101]⟩, [], []⟩ u [(v0, x)] wy (by simp) (bare_ok wy ⟨#[84, 114, 97, 110, 115, 112, 111, 115, 101]⟩ out iv) (hv.more (grown_trans hx hy)) (by simp) (by simp) (vinT hin).1).mono fun e w' he => ended_monoE he fun t v e1 e2 => ⟨e2, sameP_typ e1 (by simp [tysOf]) (vinT hin).1⟩)) (fun hc hll hin wy hy => dims_transposed ⟨⟨#[84, 114, 97, 110, 115, 112, 111, 115, 101]⟩, ⟨#[]⟩, iv, out, nilS⟩ ⟨⟨#[84, 114, 97, 110, 115, 112, 111, 115, 101]⟩, [], []⟩ u v0 x wy (by simp) (bare_ok wy ⟨#[84, 114, 97, 110, 115, 112, 111, 115, 101]⟩ out iv) (hv.more (grown_trans hx hy)) (fine_of (vinT hin).2))
  rw [show checkF (ruleF (Nod.op ⟨⟨#[84, 114, 97, 110, 115, 112, 111, 115, 101]⟩, ⟨#[]⟩, iv, out, nilS⟩)) (Nod.op ⟨⟨#[84, 114, 97, 110, 115, 112, 111, 115, 101]⟩, ⟨#[]⟩, iv, out, nilS⟩) [i1] (Nod.out ⟨⟨#[84, 114, 97, 110, 115, 112, 111, 115, 101]⟩, ⟨#[]⟩, iv, out, nilS⟩) (At.xs ⟨⟨#[84, 114, 97, 110, 115, 112, 111, 115, 101]⟩, [], []⟩) (At.cs ⟨⟨#[84, 114, 97, 110, 115, 112, 111, 115, 101]⟩, [], []⟩) = 0 from hck] at key
  have e := valueT v0 x (transposedP ⟨⟨#[84, 114, 97, 110, 115, 112, 111, 115, 101]⟩, [], []⟩ x)
  refine key.mono fun e' w' he => ?_
  rw [← e]
  exact ended_monoE he fun r v _ e2 => e2

def trR (t : Int) (x xs : List Int) : R (Int × List Int × List Int) :=
  doR (nodeP [tq t x xs] (outT t x (transposedP ⟨⟨#[84, 114, 97, 110, 115, 112, 111, 115, 101]⟩, [], []⟩ x))) fun _ => .ok (ytL x xs)

theorem one_valT {vs : List (Val × List Int)} {t0 : Int} {x : List Int} (h1 : vs.map (·.1.ty) = [t0]) (h2 : vs.map (·.2) = [x]) : ∃ v0, vs = [(v0, x)] ∧ v0.ty = t0 := by
  match vs, h1, h2 with
  | [(v0, a)], h1, h2 =>
    simp only [List.map_cons, List.map_nil, List.cons.injEq, and_true] at h1 h2
    subst h2
    exact ⟨v0, rfl, h1⟩

theorem nz_typT {t c : Int} (h : typP t = .error c) : c ≠ 0 := by
  unfold typP at h
  split at h
  · cases h
  · cases h; decide

theorem nz_cntT {x : List Int} {c : Int} (h : countP x = .error c) : c ≠ 0 := by
  unfold countP at h
  split at h
  · cases h
  · rename_i h1
    cases h
    exact h1

theorem nz_outT (t p q : Int) : ∀ c, outT t [p, q] (transposedP ⟨⟨#[84, 114, 97, 110, 115, 112, 111, 115, 101]⟩, [], []⟩ [p, q]) = .error c → c ≠ 0 := by
  intro c h
  rw [trans_two] at h
  unfold outT at h
  cases h1 : typP t with
  | error c' => rw [h1] at h; cases h; exact nz_typT h1
  | ok a =>
    rw [h1] at h
    simp only [Except.bind] at h
    cases h2 : countP [p, q] with
    | error c' => rw [h2] at h; cases h; exact nz_cntT h2
    | ok b =>
      rw [h2] at h
      simp only at h
      cases h3 : countP [q, p] with
      | error c' => rw [h3] at h; cases h; exact nz_cntT h3
      | ok d => rw [h3] at h; cases h

theorem trans_do (out : ByteArray) (iv : Sl) (i1 : ByteArray) (hck : checkF (ruleF ⟨#[84, 114, 97, 110, 115, 112, 111, 115, 101]⟩) ⟨#[84, 114, 97, 110, 115, 112, 111, 115, 101]⟩ [i1] out [] [] = 0) (ho : out.size ≤ 1048576) (u : Sl) (T0 : Ten) (x xs : List Int) (hx2 : x.length = 2) (w : World) (hl : Laid w) (hi : IsStrs w iv.v [i1]) (hv : TensIn w u.v [(T0, (x, xs))]) :
    Calls Tryz.prog 10 #[nval ⟨⟨#[84, 114, 97, 110, 115, 112, 111, 115, 101]⟩, ⟨#[]⟩, iv, out, nilS⟩, .slice u.a u.n u.c] w (DoQ w (trR T0.ty x xs)) := by
  obtain ⟨p, q, rfl⟩ : ∃ p q, x = [p, q] := by
    match x, hx2 with
    | [p, q], _ => exact ⟨p, q, rfl⟩
  refine mdo_any _ u _ w fun wx hx => mbdo_any _ u _ _ wx (nz_node (nz_outT _ _ _)) (fun l => nz_ok _) (fun wy hy => ?_) (fun wy ty dv l hy hr hd => ?_)
  · refine bnode_any ⟨⟨#[84, 114, 97, 110, 115, 112, 111, 115, 101]⟩, ⟨#[]⟩, iv, out, nilS⟩ u [(T0, ([p, q], xs))] _ wy (hv.more (grown_trans hx hy)) (by simp) fun wz s vs hz hvs h1 h2 => ?_
    obtain ⟨v0, rfl, e0⟩ := one_valT h1 h2
    have key := tout out iv i1 hck ho s v0 [p, q] wz (hl.more (grown_trans (grown_trans hx hy) hz)) (hi.more (grown_trans (grown_trans hx hy) hz)) hvs
    rw [e0] at key
    exact key
  · have hvy := hv.more (grown_trans hx hy)
    obtain ⟨hall, hr⟩ := node_inv hr
    obtain ⟨-, c1, hp, c3⟩ := outT_inv hr
    rw [trans_two] at hp
    cases hp
    simp only [tq, okT, List.all_cons, List.all_nil, Bool.and_true, beq_iff_eq] at hall
    have F := fine_of c1
    have h1 := F.pos p (by simp)
    have h2 := F.pos q (by simp)
    obtain ⟨k, rfl⟩ : ∃ k : Nat, p = k := ⟨p.toNat, by omega⟩
    obtain ⟨b, rfl⟩ : ∃ b : Nat, q = b := ⟨q.toNat, by omega⟩
    have hrd := rd_turned (A := []) (k := k) (b := b) (by simp) c1 (pb_inv hall).2
    exact moved_trans ⟨⟨#[84, 114, 97, 110, 115, 112, 111, 115, 101]⟩, ⟨#[]⟩, iv, out, nilS⟩ ⟨⟨#[84, 114, 97, 110, 115, 112, 111, 115, 101]⟩, [], []⟩ rfl u T0 [(k : Int), (b : Int)] xs _ ty dv _ wy (bare_ok wy ⟨#[84, 114, 97, 110, 115, 112, 111, 115, 101]⟩ out iv) hvy hd rfl c1 (swap_perm 0 (by omega)) hrd

end Go.Proofs.YtkefdkboejimeaaGreatDoor

namespace Go.Proofs.YtkefdkboejimeaaGreatDoor

open Go.RowKit

theorem up_alloc {x : World} {i : Nat} {o : Obj} (p : Obj) (h : x.heap[i]? = some o) : (x.alloc p).heap[i]? = some o := ((grown_new x p).block i (Array.getElem?_eq_some_iff.1 h).1 (by simp)).trans h

theorem new_alloc {x : World} {i : Nat} (p : Obj) (h : x.heap.size = i) : (x.alloc p).heap[i]? = some p ∧ (x.alloc p).heap.size = i + 1 := by
  subst h
  exact ⟨heap_alloc_new x p, by simp⟩

theorem blk_ints {w : World} {B te : Nat} {zs : List Int} (h : w.heap[B]? = some (.cells (zs.map (Value.int .i64)).toArray te (0, 0))) (hl : zs.length ≤ 1000) (hz : ∀ z ∈ zs, -9223372036854775808 ≤ z ∧ z ≤ 9223372036854775807) : IsInts w (.slice (some ⟨B, 0, none⟩) zs.length zs.length) zs := by
  refine ⟨_, _, rfl, Nat.le_refl _, by omega, by omega, (fun h => by cases h), fun _ => ⟨B, 0, rfl, fun t ht => ?_⟩, hz⟩
  rw [Nat.zero_add, cell_of_row _ _ t _ _ (0, 0) h]
  simp [List.getD, ht]

theorem blk_tens {w : World} {B : Nat} {cur : Array Value} {ps : List (Ten × Tq)} (h : w.heap[B]? = some (.cells cur 25 (0, 0))) (hc : cur.toList = (ps.map (·.1)).flatMap tcells) (hs : cur.size = ps.length * 3) (hl : ps.length ≤ 1000) (hh : ∀ p ∈ ps, IsInts w p.1.dv.v p.2.1 ∧ IsInts w p.1.tv.v p.2.2) : TensIn w (.slice (some ⟨B, 0, none⟩) ps.length ps.length) ps := by
  refine ⟨?_, hh⟩
  have e : ps.length = (ps.map (·.1)).length := by rw [List.length_map]
  rw [e]
  exact lit_isLG (te := 25) (bytes := 56) tcells_len h hc (by rw [hs, e]) (by rw [← e]; omega) (by rw [← e]; omega)

theorem two_tens {w : World} {B : Nat} (X Y : Ten) {x y xs ys : List Int} (h : w.heap[B]? = some (.cells #[.int .i64 X.ty, .slice X.dv.a X.dv.n X.dv.c, .slice X.tv.a X.tv.n X.tv.c, .int .i64 Y.ty, .slice Y.dv.a Y.dv.n Y.dv.c, .slice Y.tv.a Y.tv.n Y.tv.c] 25 (0, 0))) (h1 : IsInts w X.dv.v x) (h2 : IsInts w X.tv.v xs) (h3 : IsInts w Y.dv.v y) (h4 : IsInts w Y.tv.v ys) : TensIn w (.slice (some ⟨B, 0, none⟩) 2 2) [(X, (x, xs)), (Y, (y, ys))] := by
  refine blk_tens (ps := [(X, (x, xs)), (Y, (y, ys))]) h rfl rfl (by simp) fun p hp => ?_
  simp only [List.mem_cons, List.not_mem_nil, or_false] at hp
  rcases hp with rfl | rfl
  · exact ⟨h1, h2⟩
  · exact ⟨h3, h4⟩

theorem one_ten {w : World} {B : Nat} (X : Ten) {x xs : List Int} (h : w.heap[B]? = some (.cells #[.int .i64 X.ty, .slice X.dv.a X.dv.n X.dv.c, .slice X.tv.a X.tv.n X.tv.c] 25 (0, 0))) (h1 : IsInts w X.dv.v x) (h2 : IsInts w X.tv.v xs) : TensIn w (.slice (some ⟨B, 0, none⟩) 1 1) [(X, (x, xs))] := by
  refine blk_tens (ps := [(X, (x, xs))]) h rfl rfl (by simp) fun p hp => ?_
  simp only [List.mem_cons, List.not_mem_nil, or_false] at hp
  subst hp
  exact ⟨h1, h2⟩

def rTy : R (Int × List Int × List Int) → Int
  | .ok (t, _, _) => t
  | .error _ => 0
def rL : R (Int × List Int × List Int) → List Int
  | .ok (_, l, _) => l
  | .error _ => []
def rZ : R (Int × List Int × List Int) → List Int
  | .ok (_, _, z) => z
  | .error _ => []
def rC : R (Int × List Int × List Int) → Int
  | .ok _ => 0
  | .error c => c

theorem do_any {w w' : World} {r : R (Int × List Int × List Int)} {e : Ending} (h : DoQ w r e w') : w.grownBy w' none ∧ ∃ d t : Sl, e = .returned (.tuple #[.agg #[.int .i64 (rTy r), .slice d.a d.n d.c, .slice t.a t.n t.c], .int .i64 (rC r)]) ∧ IsInts w' d.v (rL r) ∧ IsInts w' t.v (rZ r) := by
  obtain ⟨hg, h⟩ := h
  refine ⟨hg, ?_⟩
  cases r with
  | error c => exact ⟨⟨none, 0, 0⟩, ⟨none, 0, 0⟩, h, (owns_nil w' 0).ints, (owns_nil w' 0).ints⟩
  | ok rr =>
    obtain ⟨ty, l, zs⟩ := rr
    obtain ⟨⟨ty', d, t⟩, e1, e2, od, ot⟩ := h
    simp only at e1
    subst e1
    exact ⟨d, t, e2, od.ints, ot.ints⟩

def Told (w : World) (e : Ending) (w' : World) : Prop := ∃ b, e = .returned (.bool b) ∧ w.grownBy w' none

end Go.Proofs.YtkefdkboejimeaaGreatDoor

namespace Go.Proofs.YtkefdkboejimeaaGreatDoor

open Go.RowKit

def inA (nm : ByteArray) (s : Sl) : Atr := ⟨nm, 7, 0, 0, ⟨#[]⟩, 0, nilS, nilS, s⟩

def inAt (op nm : ByteArray) (s : Sl) (P : List Int) : At := ⟨op, [inA nm s], [⟨[], [], P⟩]⟩

theorem in_attrs {w : World} {B : Nat} {nm : ByteArray} {s : Sl} (h : w.heap[B]? = some (.cells #[.string nm, .int .i64 7, .int .i64 0, .int .i64 0, .string ⟨#[]⟩, .int .i64 0, .slice none 0 0, .slice none 0 0, .slice s.a s.n s.c] 38 (0, 0))) : IsAttrs w (.slice (some ⟨B, 0, none⟩) 1 1) [inA nm s] :=
  lit_isLG (te := 38) (bytes := 136) (xs := [inA nm s]) acells_len h rfl rfl (Nat.le_of_ble_eq_true rfl) (Nat.le_of_ble_eq_true rfl)

theorem in_has {w : World} (op nm : ByteArray) {s : Sl} {P : List Int} (hp : IsInts w s.v P) : ∀ (j : Nat) (b : Atr), (inAt op nm s P).xs[j]? = some b → ∃ c, (inAt op nm s P).cs[j]? = some c ∧ Has w b c
  | 0, b, h => by
    cases h
    exact ⟨_, rfl, ⟨ints_nil w, ints_nil w, hp⟩⟩
  | _ + 1, b, h => by simp [inAt] at h

theorem in_ok {w : World} {op nm out : ByteArray} {iv s : Sl} {B : Nat} {P : List Int} (hp : IsInts w s.v P) (h : IsAttrs w (.slice (some ⟨B, 0, none⟩) 1 1) [inA nm s]) : NodeOk w ⟨op, ⟨#[]⟩, iv, out, ⟨some ⟨B, 0, none⟩, 1, 1⟩⟩ (inAt op nm s P) :=
  ⟨rfl, h, in_has op nm hp, fun b hb => by
    simp only [inAt, List.mem_cons, List.not_mem_nil, or_false] at hb
    subst hb
    show -9223372036854775808 ≤ (0 : Int) ∧ (0 : Int) ≤ 9223372036854775807
    omega⟩

theorem in_in {w : World} {op nm out : ByteArray} {iv s : Sl} {B : Nat} {P : List Int} {ins : List ByteArray} (hi : IsStrs w iv.v ins) (hp : IsInts w s.v P) (h : IsAttrs w (.slice (some ⟨B, 0, none⟩) 1 1) [inA nm s]) : NodeIn w ⟨op, ⟨#[]⟩, iv, out, ⟨some ⟨B, 0, none⟩, 1, 1⟩⟩ ins (inAt op nm s P).xs (inAt op nm s P).cs :=
  ⟨hi, h, in_has op nm hp, by simp [inAt], fun b hb => by
    simp only [inAt, List.mem_cons, List.not_mem_nil, or_false] at hb
    subst hb
    show 0 ≤ 1048576
    omega⟩

theorem x_strs {w : World} {B : Nat} (h : w.heap[B]? = some (.cells #[.string ⟨#[120]⟩] 9 (0, 0))) : IsStrs w (.slice (some ⟨B, 0, none⟩) 1 1) [⟨#[120]⟩] := lit_isLG (te := 9) (bytes := 16) (xs := [⟨#[120]⟩]) scell_len h rfl rfl (Nat.le_of_ble_eq_true rfl) (Nat.le_of_ble_eq_true rfl)

end Go.Proofs.YtkefdkboejimeaaGreatDoor

namespace Go.Proofs.YtkefdkboejimeaaGreatDoor

open Go.RowKit

theorem pb_parts {ty : Int} {x xs : List Int} (h : pbE ty x xs = 0) : ty = ty ∧ xs.all (chk ty) = true := by
  refine ⟨rfl, ?_⟩
  unfold pbE at h
  split at h
  · omega
  · split at h
    · rename_i h1; exact absurd h h1
    · split at h
      · omega
      · split at h
        · assumption
        · omega

theorem pb_mk {x xs : List Int} (hc : cntE x = 0) (hl : (xs.length : Int) = prod x) (ha : xs.all (chk 1) = true) : pbE 1 x xs = 0 := by
  unfold pbE
  rw [if_neg (by simp [chk]), if_neg (by simp [hc]), if_neg (by rw [cnt, if_pos hc, hl]; simp), if_pos ha]

theorem mm_ok {a k b : Nat} {xs ys : List Int} (hs : ShpM [(a : Int), (k : Int)] [(k : Int), (b : Int)] [] a k b) (px : pbE 1 [(a : Int), (k : Int)] xs = 0) (py : pbE 1 [(k : Int), (b : Int)] ys = 0) : mmR 1 1 [(a : Int), (k : Int)] [(k : Int), (b : Int)] xs ys = .ok (1, [(a : Int), (b : Int)], matL xs (ytL [(k : Int), (b : Int)] ys) 1 a k b) := by
  have hn : nodeP [tq 1 [(a : Int), (k : Int)] xs, tq 1 [(k : Int), (b : Int)] ys] (outM 1 1 [(a : Int), (k : Int)] [(k : Int), (b : Int)] (productP [(a : Int), (k : Int)] [(k : Int), (b : Int)])) = .ok (1, [(a : Int), (b : Int)]) := by
    unfold nodeP
    rw [if_pos (by simp [tq, okT, px, py])]
    have e := prod_twin [] (a : Int) k k b (by decide)
    simp only [List.nil_append, if_true] at e
    rw [e]
    unfold outM
    rw [show countP [(a : Int), (k : Int)] = .ok (prod [(a : Int), (k : Int)]) from if_pos hs.cx, show countP [(k : Int), (b : Int)] = .ok (prod [(k : Int), (b : Int)]) from if_pos hs.cy]
    show (Except.bind (countP [(a : Int), (b : Int)]) fun _ => (Except.ok (1, [(a : Int), (b : Int)]) : R (Int × List Int))) = _
    rw [show countP [(a : Int), (b : Int)] = .ok (prod [(a : Int), (b : Int)]) from if_pos hs.cz]
    rfl
  unfold mmR doR
  rw [hn]
  simp only [hs.mm, Except.map]
  rfl

end Go.Proofs.YtkefdkboejimeaaGreatDoor
