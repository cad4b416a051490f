/- A part. -/
import Derived.Test.YtkefdkboejimeaaGreatDoorPartBG
import Derived.Test.YtkefdkboejimeaaGreatDoorPartBF
import Derived.Test.YtkefdkboejimeaaGreatDoorPartAW
import Derived.Test.YtkefdkboejimeaaGreatDoorPartAQ
import Derived.Test.YtkefdkboejimeaaGreatDoorPartBC
import Derived.Test.YtkefdkboejimeaaGreatDoorPartAZ
import Derived.Test.YtkefdkboejimeaaGreatDoorPartAB
namespace Go.Proofs.YtkefdkboejimeaaGreatDoor
open Go.RowKit
def Nz {α : Type} (r : R α) : Prop := ∀ c, r = .error c → c ≠ 0
theorem Nz.bind {α β : Type} {r : R α} {f : α → R β} (h : Nz r) (k : ∀ a, r = .ok a → Nz (f a)) : Nz (r.bind f) := by
 cases r with
 | error c => intro d hd; exact h d (by cases hd; rfl)
 | ok a => exact k a rfl
theorem jjF {α : Type} (a : α) : Nz (Except.ok a : R α) := fun c h => by cases h
theorem joc (t : Int) : Nz (jhd t) := by
 intro c h
 unfold jhd at h
 split at h
 ·cases h
 ·cases h; omega
theorem jh3 (b : Bool) : Nz (jaz b) := by
 intro c h
 unfold jaz at h
 split at h
 ·cases h
 ·cases h; omega
theorem jf8 (x : List Int) : Nz (ja9 x) := by
 intro c h
 unfold ja9 at h
 split at h
 ·cases h
 ·rename_i h1; cases h; exact h1
theorem jlz (x y : List Int) : Nz (jbM x y) := by
 intro c h
 unfold jbM at h
 split at h
 ·cases h
 ·rename_i h1; cases h; exact h1
theorem jpk (t0 t1 : Int) : Nz (jb0 [t0, t1]) := by
 intro c h
 simp only [jb0] at h
 split at h
 ·cases h
 ·cases h; omega
theorem jjG (x y : List Int) : Nz (ja1 x y) := by
 unfold ja1
 exact (jh3 _).bind fun _ _ => (jh3 _).bind fun _ _ => (jlz _ _).bind fun _ _ => jjF _
theorem jh4 (t0 t1 : Int) (x y : List Int) (d : R (List Int)) (hd : Nz d) : Nz (jly t0 t1 x y d) :=
 (joc _).bind fun _ _ => (jf8 _).bind fun _ _ => (joc _).bind fun _ _ => (jf8 _).bind fun _ _ => (jpk _ _).bind fun _ _ => (jh3 _).bind fun _ _ => hd.bind fun _ _ => (jf8 _).bind fun _ _ => jjF _
theorem je2 {ps : List (Ten × Tq)} {r : R (Int × List Int)} (h : Nz r) : Nz (jcC ps r) := by
 unfold jcC
 split
 ·exact h
 ·intro c hc; cases hc; omega
theorem jdC {ps : List (Ten × Tq)} {r : R (Int × List Int)} {a : Int × List Int} (h : jcC ps r = .ok a) : ps.all okT = true ∧ r = .ok a := by
 unfold jcC at h
 split at h
 ·rename_i h1; exact ⟨h1, h⟩
 ·cases h
theorem jd1 {b : Bool} {a : Unit} (h : jaz b = .ok a) : b = true := by
 unfold jaz at h
 split at h
 ·assumption
 ·cases h
theorem jci {ty : Int} {x xs : List Int} (h : pbE ty x xs = 0) : ja3 x = 0 ∧ (xs.length : Int) = jaF x := by
 unfold pbE at h
 split at h
 ·omega
 ·split at h
  ·rename_i h1; exact absurd h h1
  ·rename_i h1
   have h1' : ja3 x = 0 := by omega
   split at h
   ·omega
   ·rename_i h2
    refine ⟨h1', ?_⟩
    have : (xs.length : Int) = cnt x := by omega
    rw [this, cnt, if_pos h1']
def Twin (x y : List Int) : Prop := ∃ A p0 q0 p1 q1, A.length ≤ 1 ∧ x = A ++ [p0, q0] ∧ y = A ++ [p1, q1]
theorem jjH {A B : List Int} (h : ja3 (A ++ B) = 0) : ja3 A = 0 := by
 have F := jaH h
 refine jhg (fun z hz => F.pos z (by simp [hz])) (by have := F.few; rw [List.length_append] at this; omega) ?_
 have h1 := F.le
 rw [jby] at h1
 have h2 : 1 ≤ jaF B := prod_pos _ (fun z hz => F.pos z (by simp [hz]))
 have h3 : 1 ≤ jaF A := prod_pos _ (fun z hz => F.pos z (by simp [hz]))
 have := jbS h2 (show (0 : Int) ≤ jaF A by omega)
 omega
theorem jgZ (A : List Int) (p0 q0 p1 q1 : Int) (hA : ja3 A = 0) : ja1 (A ++ [p0, q0]) (A ++ [p1, q1]) = if q0 = p1 then .ok (A ++ [p0, q1]) else .error 4 := by
 unfold ja1
 have l0 : ∀ p q : Int, (A ++ [p, q]).length = A.length + 2 := fun p q => by simp
 have eg : ∀ p q : Int, (A ++ [p, q]).getD A.length 0 = p ∧ (A ++ [p, q]).getD (A.length + 1) 0 = q := fun p q => by simp [List.getD]
 obtain ⟨b1, b2⟩ := jlu hA
 rw [l0, l0, show A.length + 2 - 1 = A.length + 1 from rfl, show A.length + 2 - 2 = A.length from rfl, (eg p0 q0).1, (eg p0 q0).2, (eg p1 q1).1, (eg p1 q1).2, List.take_left' rfl, List.take_left' rfl, show jbM A A = .ok A from by unfold jbM; rw [if_pos b1, b2]]
 simp only [jaz, show decide (2 ≤ A.length + 2 ∧ 2 ≤ A.length + 2) = true from by simp, if_true]
 by_cases h : q0 = p1
 ·rw [if_pos (by simp [h]), if_pos h]
  rfl
 ·rw [if_neg (by simp [h]), if_neg h]
  rfl
theorem jf9 {t0 t1 ty : Int} {x y l : List Int} {d : R (List Int)} (h : jly t0 t1 x y d = .ok (ty, l)) : ty = 1 ∧ t0 = 1 ∧ t1 = 1 ∧ ja3 x = 0 ∧ ja3 y = 0 ∧ d = .ok l ∧ ja3 l = 0 := by
 unfold jly at h
 obtain ⟨_, -, h⟩ := jaG h
 obtain ⟨_, hx, h⟩ := jaG h
 obtain ⟨_, -, h⟩ := jaG h
 obtain ⟨_, hy, h⟩ := jaG h
 obtain ⟨t, hs, h⟩ := jaG h
 obtain ⟨_, hm, h⟩ := jaG h
 obtain ⟨d', hd, h⟩ := jaG h
 obtain ⟨_, hc, h⟩ := jaG h
 cases h
 have e := jd1 hm
 simp only [beq_iff_eq] at e
 subst e
 simp only [jb0, List.all_cons, List.all_nil, Bool.and_true, beq_iff_eq] at hs
 split at hs
 ·rename_i h1
  cases hs
  exact ⟨rfl, rfl, h1, jbR hx, jbR hy, hd, jbR hc⟩
 ·cases hs
theorem jnB {x y l : List Int} (ht : Twin x y) (hx : ja3 x = 0) (hy : ja3 y = 0) (hp : ja1 x y = .ok l) (hl : ja3 l = 0) : ∃ A a k b, ShpM x y A a k b ∧ l = A ++ [(a : Int), (b : Int)] := by
 obtain ⟨A, p0, q0, p1, q1, hA, rfl, rfl⟩ := ht
 rw [jgZ _ _ _ _ _ (jjH hx)] at hp
 have FX := jaH hx
 have FY := jaH hy
 have h1 := FX.pos p0 (by simp)
 have h2 := FX.pos q0 (by simp)
 have h3 := FY.pos q1 (by simp)
 split at hp
 ·rename_i he
  subst he
  cases hp
  obtain ⟨a, rfl⟩ : ∃ a : Nat, p0 = a := ⟨p0.toNat, by omega⟩
  obtain ⟨k, rfl⟩ : ∃ k : Nat, q0 = k := ⟨q0.toNat, by omega⟩
  obtain ⟨b, rfl⟩ : ∃ b : Nat, q1 = b := ⟨q1.toNat, by omega⟩
  exact ⟨A, a, k, b, ⟨rfl, rfl, hA, hx, hy, hl⟩, rfl⟩
 ·cases hp
def tq (t : Int) (x xs : List Int) : Ten × Tq := (⟨t, jbQ, jbQ⟩, (x, xs))
def mmR (t0 t1 : Int) (x y xs ys : List Int) : R (Int × List Int × List Int) :=
 doR (jcC [tq t0 x xs, tq t1 y ys] (jly t0 t1 x y (ja1 x y))) fun _ => .ok (mmL x xs y ys)
theorem jg0 {vs : List (Val × List Int)} {t0 t1 : Int} {x y : List Int} (h1 : vs.map (·.1.ty) = [t0, t1]) (h2 : vs.map (·.2) = [x, y]) : ∃ v0 v1, vs = [(v0, x), (v1, y)] ∧ v0.ty = t0 ∧ v1.ty = t1 := by
 match vs, h1, h2 with
 | [(v0, a), (v1, b)], h1, h2 =>
  simp only [List.map_cons, List.map_nil, List.cons.injEq, and_true] at h1 h2
  obtain ⟨e1, e2⟩ := h1
  obtain ⟨rfl, rfl⟩ := h2
  exact ⟨v0, v1, rfl, e1, e2⟩
theorem jlA (out : ByteArray) (iv : Sl) (i1 i2 : ByteArray) (hck : jbl (jcf ⟨#[77, 97, 116, 77, 117, 108]⟩) ⟨#[77, 97, 116, 77, 117, 108]⟩ [i1, i2] out [] [] = 0) (ho : out.size ≤ 1048576) (u : Sl) (T0 T1 : Ten) (x y xs ys : List Int) (w : World) (ht : Twin x y) (hl : Laid w) (hi : jb8 w iv.v [i1, i2]) (hv : TensIn w u.v [(T0, (x, xs)), (T1, (y, ys))]) :
    Calls Tryz.prog 11 #[jaL ⟨⟨#[77, 97, 116, 77, 117, 108]⟩, ⟨#[]⟩, iv, out, jbQ⟩, .slice u.a u.n u.c] w (DoQ w (mmR T0.ty T1.ty x y xs ys)) := by
     refine jpg _ u _ w fun wx hx => jnx _ u _ _ wx (je2 (jh4 _ _ _ _ _ (jjG _ _))) (fun l => jjF _) (fun wy hy => ?_) (fun wy ty dv l hy hr hd => ?_)
     ·refine jdz ⟨⟨#[77, 97, 116, 77, 117, 108]⟩, ⟨#[]⟩, iv, out, jbQ⟩ u [(T0, (x, xs)), (T1, (y, ys))] _ wy (hv.more (jaa hx hy)) (by simp) fun wz s vs hz hvs h1 h2 => ?_
      obtain ⟨v0, v1, rfl, e0, e1⟩ := jg0 h1 h2
      have key := mout out iv i1 i2 hck ho s v0 v1 x y wz (hl.more (jaa (jaa hx hy) hz)) (hi.more (jaa (jaa hx hy) hz)) hvs
      rw [e0, e1] at key
      exact key
     ·have hvy := hv.more (jaa hx hy)
      obtain ⟨hall, hr⟩ := jdC hr
      obtain ⟨-, -, -, c1, c2, hp, c3⟩ := jf9 hr
      obtain ⟨A, a, k, b, hs, hle⟩ := jnB ht c1 c2 hp c3
      simp only [okT, List.all_cons, List.all_nil, Bool.and_true, Bool.and_eq_true, beq_iff_eq] at hall
      exact jnA ⟨⟨#[77, 97, 116, 77, 117, 108]⟩, ⟨#[]⟩, iv, out, jbQ⟩ rfl u T0 T1 x y xs ys A a k b _ ty dv l wy hs hle hvy hd (jci hall.1).2 (jci hall.2).2
end Go.Proofs.YtkefdkboejimeaaGreatDoor
namespace Go.Proofs.YtkefdkboejimeaaGreatDoor
open Go.RowKit
theorem jpl (b k : Nat) : Vw.plc [(b : Int), (k : Int)] [1, (b : Int)] 0 = (List.range b).flatMap fun j => (List.range k).map fun i => ((i * b + j : Nat) : Int) := by
 simp only [Vw.plc, Int.toNat_natCast]
 unfold List.flatMap
 congr 1
 refine List.map_congr_left fun j _ => ?_
 induction (List.range k) with
 | nil => rfl
 | cons i l ih =>
  simp only [List.map_cons, List.flatten_cons] at ih ⊢
  rw [ih]
  simp only [List.singleton_append, List.cons.injEq, and_true]
  omega
theorem jod {k b : Nat} {ys : List Int} (hc : ja3 [(k : Int), (b : Int)] = 0) (hl : (ys.length : Int) = jaF [(k : Int), (b : Int)]) : ytL [(k : Int), (b : Int)] ys = trn k b ys := by
 have h := je0 (A := []) (k := k) (b := b) (by simp) hc hl
 have e1 : Vw.pickL [(k : Int), (b : Int)] (ja8 0) = [(b : Int), (k : Int)] := by simp [Vw.pickL, ja8, jbh, List.range, List.range.loop]
 have e2 : Vw.pickL (jbs [(k : Int), (b : Int)]) (ja8 0) = [1, (b : Int)] := by simp [jbs, jaF, Vw.pickL, ja8, jbh, List.range, List.range.loop]
 simp only [List.length_nil, List.nil_append] at h
 rw [e1, e2] at h
 unfold ytL
 simp only [List.length_cons, List.length_nil, Nat.zero_add, Nat.reduceAdd, Nat.sub_self]
 rw [e1, e2, Vw.rdL, if_pos h, Vw.shows, jpl, trn, List.map_flatMap]
 unfold List.flatMap
 congr 1
 refine List.map_congr_left fun j _ => ?_
 rw [List.map_map]
 refine List.map_congr_left fun i _ => ?_
 simp only [Function.comp_apply, Int.toNat_natCast]
end Go.Proofs.YtkefdkboejimeaaGreatDoor
namespace Go.Proofs.YtkefdkboejimeaaGreatDoor
open Go.RowKit
def jl0 (t : Int) (x : List Int) (d : R (List Int)) : R (Int × List Int) :=
 (jhd t).bind fun _ => (ja9 x).bind fun _ => d.bind fun d => (ja9 d).bind fun _ => .ok (t, d)
theorem jqa (v0 : Val) (x : List Int) (d : R (List Int)) : jbo 0 true [(v0, x)] (jb0 (jcS [(v0, x)])) d [] = jl0 v0.ty x d := by
 unfold jbo jl0
 simp only [jhB, jaz, if_true, jek, jcS, List.map_cons, List.map_nil, jda, jdo]
 rfl
theorem jqb {v0 : Val} {x : List Int} (h : jek [(v0, x)] = .ok ()) : (∀ s ∈ jcS [(v0, x)], jaV s = true) ∧ ja3 x = 0 := by
 simp only [jek] at h
 obtain ⟨_, h1, h⟩ := jaG h
 obtain ⟨_, h2, h⟩ := jaG h
 refine ⟨fun s hs => ?_, jbR h2⟩
 simp only [jcS, List.map_cons, List.map_nil, List.mem_cons, List.not_mem_nil, or_false] at hs
 subst hs
 exact je1 h1
theorem jnC {t ty : Int} {x l : List Int} {d : R (List Int)} (h : jl0 t x d = .ok (ty, l)) : ty = t ∧ ja3 x = 0 ∧ d = .ok l ∧ ja3 l = 0 := by
 unfold jl0 at h
 obtain ⟨_, -, h⟩ := jaG h
 obtain ⟨_, hx, h⟩ := jaG h
 obtain ⟨d', hd, h⟩ := jaG h
 obtain ⟨_, hc, h⟩ := jaG h
 cases h
 exact ⟨rfl, jbR hx, hd, jbR hc⟩
theorem je3 (p q : Int) : jaQ ⟨⟨#[84, 114, 97, 110, 115, 112, 111, 115, 101]⟩, [], []⟩ [p, q] = .ok [q, p] := rfl
theorem tout (out : ByteArray) (iv : Sl) (i1 : ByteArray) (hck : jbl (jcf ⟨#[84, 114, 97, 110, 115, 112, 111, 115, 101]⟩) ⟨#[84, 114, 97, 110, 115, 112, 111, 115, 101]⟩ [i1] out [] [] = 0) (ho : out.size ≤ 1048576) (u : Sl) (v0 : Val) (x : List Int) (w : World) (hl : Laid w) (hi : jb8 w iv.v [i1]) (hv : ValsIn w u.v [(v0, x)]) :
    Calls Tryz.prog 53 #[jaL ⟨⟨#[84, 114, 97, 110, 115, 112, 111, 115, 101]⟩, ⟨#[]⟩, iv, out, jbQ⟩, .slice u.a u.n u.c] w (jju out w (jl0 v0.ty x (jaQ ⟨⟨#[84, 114, 97, 110, 115, 112, 111, 115, 101]⟩, [], []⟩ x))) := by
     refine jf0 ⟨⟨#[84, 114, 97, 110, 115, 112, 111, 115, 101]⟩, ⟨#[]⟩, iv, out, jbQ⟩ u _ w fun wx hx => ?_
     have key := jcB ⟨⟨#[84, 114, 97, 110, 115, 112, 111, 115, 101]⟩, ⟨#[]⟩, iv, out, jbQ⟩ ⟨⟨#[84, 114, 97, 110, 115, 112, 111, 115, 101]⟩, [], []⟩ [i1] u [(v0, x)] wx (hl.more hx) (jh2 wx ⟨#[84, 114, 97, 110, 115, 112, 111, 115, 101]⟩ out iv _ (hi.more hx)) (hv.more hx) (by show out.size ≤ _; omega) _ _ (fun hc hll hin wy hy => ((jk4 ⟨⟨#[84, 114, 97, 110, 115, 112, 111, 115, 101]⟩, ⟨#[]⟩, iv, out, jbQ⟩ ⟨⟨#[84, 114, 97, 110, 115, 112, 111, 115, 101]⟩, [], []⟩ u [(v0, x)] wy (by simp) (jcV wy ⟨#[84, 114, 97, 110, 115, 112, 111, 115, 101]⟩ out iv) (hv.more (jaa hx hy)) (by simp) (by simp) (jqb hin).1).mono fun e w' he => jbq he fun t v e1 e2 => ⟨e2, jk3 e1 (by simp [jcS]) (jqb hin).1⟩)) (fun hc hll hin wy hy => jeR ⟨⟨#[84, 114, 97, 110, 115, 112, 111, 115, 101]⟩, ⟨#[]⟩, iv, out, jbQ⟩ ⟨⟨#[84, 114, 97, 110, 115, 112, 111, 115, 101]⟩, [], []⟩ u v0 x wy (by simp) (jcV wy ⟨#[84, 114, 97, 110, 115, 112, 111, 115, 101]⟩ out iv) (hv.more (jaa hx hy)) (jaH (jqb hin).2))
     rw [show jbl (jcf (Nod.op ⟨⟨#[84, 114, 97, 110, 115, 112, 111, 115, 101]⟩, ⟨#[]⟩, iv, out, jbQ⟩)) (Nod.op ⟨⟨#[84, 114, 97, 110, 115, 112, 111, 115, 101]⟩, ⟨#[]⟩, iv, out, jbQ⟩) [i1] (Nod.out ⟨⟨#[84, 114, 97, 110, 115, 112, 111, 115, 101]⟩, ⟨#[]⟩, iv, out, jbQ⟩) (At.xs ⟨⟨#[84, 114, 97, 110, 115, 112, 111, 115, 101]⟩, [], []⟩) (At.cs ⟨⟨#[84, 114, 97, 110, 115, 112, 111, 115, 101]⟩, [], []⟩) = 0 from hck] at key
     have e := jqa v0 x (jaQ ⟨⟨#[84, 114, 97, 110, 115, 112, 111, 115, 101]⟩, [], []⟩ x)
     refine key.mono fun e' w' he => ?_
     rw [← e]
     exact jbq he fun r v _ e2 => e2
def trR (t : Int) (x xs : List Int) : R (Int × List Int × List Int) :=
 doR (jcC [tq t x xs] (jl0 t x (jaQ ⟨⟨#[84, 114, 97, 110, 115, 112, 111, 115, 101]⟩, [], []⟩ x))) fun _ => .ok (ytL x xs)
theorem jiH {vs : List (Val × List Int)} {t0 : Int} {x : List Int} (h1 : vs.map (·.1.ty) = [t0]) (h2 : vs.map (·.2) = [x]) : ∃ v0, vs = [(v0, x)] ∧ v0.ty = t0 := by
 match vs, h1, h2 with
 | [(v0, a)], h1, h2 =>
  simp only [List.map_cons, List.map_nil, List.cons.injEq, and_true] at h1 h2
  subst h2
  exact ⟨v0, rfl, h1⟩
theorem jlB {t c : Int} (h : jhd t = .error c) : c ≠ 0 := by
 unfold jhd at h
 split at h
 ·cases h
 ·cases h; decide
theorem jga {x : List Int} {c : Int} (h : ja9 x = .error c) : c ≠ 0 := by
 unfold ja9 at h
 split at h
 ·cases h
 ·rename_i h1
  cases h
  exact h1
theorem jpm (t p q : Int) : ∀ c, jl0 t [p, q] (jaQ ⟨⟨#[84, 114, 97, 110, 115, 112, 111, 115, 101]⟩, [], []⟩ [p, q]) = .error c → c ≠ 0 := by
 intro c h
 rw [je3] at h
 unfold jl0 at h
 cases h1 : jhd t with
 | error c' => rw [h1] at h; cases h; exact jlB h1
 | ok a =>
  rw [h1] at h
  simp only [Except.bind] at h
  cases h2 : ja9 [p, q] with
  | error c' => rw [h2] at h; cases h; exact jga h2
  | ok b =>
   rw [h2] at h
   simp only at h
   cases h3 : ja9 [q, p] with
   | error c' => rw [h3] at h; cases h; exact jga h3
   | ok d => rw [h3] at h; cases h
theorem jgb (out : ByteArray) (iv : Sl) (i1 : ByteArray) (hck : jbl (jcf ⟨#[84, 114, 97, 110, 115, 112, 111, 115, 101]⟩) ⟨#[84, 114, 97, 110, 115, 112, 111, 115, 101]⟩ [i1] out [] [] = 0) (ho : out.size ≤ 1048576) (u : Sl) (T0 : Ten) (x xs : List Int) (hx2 : x.length = 2) (w : World) (hl : Laid w) (hi : jb8 w iv.v [i1]) (hv : TensIn w u.v [(T0, (x, xs))]) :
    Calls Tryz.prog 10 #[jaL ⟨⟨#[84, 114, 97, 110, 115, 112, 111, 115, 101]⟩, ⟨#[]⟩, iv, out, jbQ⟩, .slice u.a u.n u.c] w (DoQ w (trR T0.ty x xs)) := by
     obtain ⟨p, q, rfl⟩ : ∃ p q, x = [p, q] := by
      match x, hx2 with
      | [p, q], _ => exact ⟨p, q, rfl⟩
     refine jph _ u _ w fun wx hx => jny _ u _ _ wx (je2 (jpm _ _ _)) (fun l => jjF _) (fun wy hy => ?_) (fun wy ty dv l hy hr hd => ?_)
     ·refine jdz ⟨⟨#[84, 114, 97, 110, 115, 112, 111, 115, 101]⟩, ⟨#[]⟩, iv, out, jbQ⟩ u [(T0, ([p, q], xs))] _ wy (hv.more (jaa hx hy)) (by simp) fun wz s vs hz hvs h1 h2 => ?_
      obtain ⟨v0, rfl, e0⟩ := jiH h1 h2
      have key := tout out iv i1 hck ho s v0 [p, q] wz (hl.more (jaa (jaa hx hy) hz)) (hi.more (jaa (jaa hx hy) hz)) hvs
      rw [e0] at key
      exact key
     ·have hvy := hv.more (jaa hx hy)
      obtain ⟨hall, hr⟩ := jdC hr
      obtain ⟨-, c1, hp, c3⟩ := jnC hr
      rw [je3] at hp
      cases hp
      simp only [tq, okT, List.all_cons, List.all_nil, Bool.and_true, beq_iff_eq] at hall
      have F := jaH c1
      have h1 := F.pos p (by simp)
      have h2 := F.pos q (by simp)
      obtain ⟨k, rfl⟩ : ∃ k : Nat, p = k := ⟨p.toNat, by omega⟩
      obtain ⟨b, rfl⟩ : ∃ b : Nat, q = b := ⟨q.toNat, by omega⟩
      have hrd := je0 (A := []) (k := k) (b := b) (by simp) c1 (jci hall).2
      exact jh1 ⟨⟨#[84, 114, 97, 110, 115, 112, 111, 115, 101]⟩, ⟨#[]⟩, iv, out, jbQ⟩ ⟨⟨#[84, 114, 97, 110, 115, 112, 111, 115, 101]⟩, [], []⟩ rfl u T0 [(k : Int), (b : Int)] xs _ ty dv _ wy (jcV wy ⟨#[84, 114, 97, 110, 115, 112, 111, 115, 101]⟩ out iv) hvy hd rfl c1 (jeX 0 (by omega)) hrd
end Go.Proofs.YtkefdkboejimeaaGreatDoor
namespace Go.Proofs.YtkefdkboejimeaaGreatDoor
open Go.RowKit
theorem jc5 {x : World} {i : Nat} {o : Obj} (p : Obj) (h : x.heap[i]? = some o) : (x.alloc p).heap[i]? = some o := ((jab x p).block i (Array.getElem?_eq_some_iff.1 h).1 (by simp)).trans h
theorem jbr {x : World} {i : Nat} (p : Obj) (h : x.heap.size = i) : (x.alloc p).heap[i]? = some p ∧ (x.alloc p).heap.size = i + 1 := by
 subst h
 exact ⟨heap_alloc_new x p, by simp⟩
theorem jdD {w : World} {B te : Nat} {zs : List Int} (h : w.heap[B]? = some (.cells (zs.map (Value.int .i64)).toArray te (0, 0))) (hl : zs.length ≤ 1000) (hz : ∀ z ∈ zs, -9223372036854775808 ≤ z ∧ z ≤ 9223372036854775807) : IsInts w (.slice (some ⟨B, 0, none⟩) zs.length zs.length) zs := by
 refine ⟨_, _, rfl, Nat.le_refl _, by omega, by omega, (fun h => by cases h), fun _ => ⟨B, 0, rfl, fun t ht => ?_⟩, hz⟩
 rw [Nat.zero_add, cell_of_row _ _ t _ _ (0, 0) h]
 simp [List.getD, ht]
theorem jiI {w : World} {B : Nat} {cur : Array Value} {ps : List (Ten × Tq)} (h : w.heap[B]? = some (.cells cur 25 (0, 0))) (hc : cur.toList = (ps.map (·.1)).flatMap jk8) (hs : cur.size = ps.length * 3) (hl : ps.length ≤ 1000) (hh : ∀ p ∈ ps, IsInts w p.1.dv.v p.2.1 ∧ IsInts w p.1.tv.v p.2.2) : TensIn w (.slice (some ⟨B, 0, none⟩) ps.length ps.length) ps := by
 refine ⟨?_, hh⟩
 have e : ps.length = (ps.map (·.1)).length := by rw [List.length_map]
 rw [e]
 exact jej (te := 25) (bytes := 56) jjw h hc (by rw [hs, e]) (by rw [← e]; omega) (by rw [← e]; omega)
theorem jel {w : World} {B : Nat} (X Y : Ten) {x y xs ys : List Int} (h : w.heap[B]? = some (.cells #[.int .i64 X.ty, .slice X.dv.a X.dv.n X.dv.c, .slice X.tv.a X.tv.n X.tv.c, .int .i64 Y.ty, .slice Y.dv.a Y.dv.n Y.dv.c, .slice Y.tv.a Y.tv.n Y.tv.c] 25 (0, 0))) (h1 : IsInts w X.dv.v x) (h2 : IsInts w X.tv.v xs) (h3 : IsInts w Y.dv.v y) (h4 : IsInts w Y.tv.v ys) : TensIn w (.slice (some ⟨B, 0, none⟩) 2 2) [(X, (x, xs)), (Y, (y, ys))] := by
 refine jiI (ps := [(X, (x, xs)), (Y, (y, ys))]) h rfl rfl (by simp) fun p hp => ?_
 simp only [List.mem_cons, List.not_mem_nil, or_false] at hp
 rcases hp with rfl | rfl
 ·exact ⟨h1, h2⟩
 ·exact ⟨h3, h4⟩
theorem jgc {w : World} {B : Nat} (X : Ten) {x xs : List Int} (h : w.heap[B]? = some (.cells #[.int .i64 X.ty, .slice X.dv.a X.dv.n X.dv.c, .slice X.tv.a X.tv.n X.tv.c] 25 (0, 0))) (h1 : IsInts w X.dv.v x) (h2 : IsInts w X.tv.v xs) : TensIn w (.slice (some ⟨B, 0, none⟩) 1 1) [(X, (x, xs))] := by
 refine jiI (ps := [(X, (x, xs))]) h rfl rfl (by simp) fun p hp => ?_
 simp only [List.mem_cons, List.not_mem_nil, or_false] at hp
 subst hp
 exact ⟨h1, h2⟩
def rTy : R (Int × List Int × List Int) → Int
 | .ok (t, _, _) => t
 | .error _ => 0
def rL : R (Int × List Int × List Int) → List Int
 | .ok (_, l, _) => l
 | .error _ => []
def rZ : R (Int × List Int × List Int) → List Int
 | .ok (_, _, z) => z
 | .error _ => []
def rC : R (Int × List Int × List Int) → Int
 | .ok _ => 0
 | .error c => c
theorem jg1 {w w' : World} {r : R (Int × List Int × List Int)} {e : Ending} (h : DoQ w r e w') : w.grownBy w' none ∧ ∃ d t : Sl, e = .returned (.tuple #[.agg #[.int .i64 (rTy r), .slice d.a d.n d.c, .slice t.a t.n t.c], .int .i64 (rC r)]) ∧ IsInts w' d.v (rL r) ∧ IsInts w' t.v (rZ r) := by
 obtain ⟨hg, h⟩ := h
 refine ⟨hg, ?_⟩
 cases r with
 | error c => exact ⟨⟨none, 0, 0⟩, ⟨none, 0, 0⟩, h, (jbY w' 0).ints, (jbY w' 0).ints⟩
 | ok rr =>
  obtain ⟨ty, l, zs⟩ := rr
  obtain ⟨⟨ty', d, t⟩, e1, e2, od, ot⟩ := h
  simp only at e1
  subst e1
  exact ⟨d, t, e2, od.ints, ot.ints⟩
def Told (w : World) (e : Ending) (w' : World) : Prop := ∃ b, e = .returned (.bool b) ∧ w.grownBy w' none
end Go.Proofs.YtkefdkboejimeaaGreatDoor
namespace Go.Proofs.YtkefdkboejimeaaGreatDoor
open Go.RowKit
def inA (nm : ByteArray) (s : Sl) : Atr := ⟨nm, 7, 0, 0, ⟨#[]⟩, 0, jbQ, jbQ, s⟩
def jgd (op nm : ByteArray) (s : Sl) (P : List Int) : At := ⟨op, [inA nm s], [⟨[], [], P⟩]⟩
theorem jnD {w : World} {B : Nat} {nm : ByteArray} {s : Sl} (h : w.heap[B]? = some (.cells #[.string nm, .int .i64 7, .int .i64 0, .int .i64 0, .string ⟨#[]⟩, .int .i64 0, .slice none 0 0, .slice none 0 0, .slice s.a s.n s.c] 38 (0, 0))) : jbz w (.slice (some ⟨B, 0, none⟩) 1 1) [inA nm s] :=
 jej (te := 38) (bytes := 136) (xs := [inA nm s]) jc0 h rfl rfl (Nat.le_of_ble_eq_true rfl) (Nat.le_of_ble_eq_true rfl)
theorem joe {w : World} (op nm : ByteArray) {s : Sl} {P : List Int} (hp : IsInts w s.v P) : ∀ (j : Nat) (b : Atr), (jgd op nm s P).xs[j]? = some b → ∃ c, (jgd op nm s P).cs[j]? = some c ∧ Has w b c
 | 0, b, h => by
  cases h
  exact ⟨_, rfl, ⟨jiA w, jiA w, hp⟩⟩
 | _ + 1, b, h => by simp [jgd] at h
theorem in_ok {w : World} {op nm out : ByteArray} {iv s : Sl} {B : Nat} {P : List Int} (hp : IsInts w s.v P) (h : jbz w (.slice (some ⟨B, 0, none⟩) 1 1) [inA nm s]) : NodeOk w ⟨op, ⟨#[]⟩, iv, out, ⟨some ⟨B, 0, none⟩, 1, 1⟩⟩ (jgd op nm s P) :=
 ⟨rfl, h, joe op nm hp, fun b hb => by
  simp only [jgd, List.mem_cons, List.not_mem_nil, or_false] at hb
  subst hb
  show -9223372036854775808 ≤ (0 : Int) ∧ (0 : Int) ≤ 9223372036854775807
  omega⟩
theorem in_in {w : World} {op nm out : ByteArray} {iv s : Sl} {B : Nat} {P : List Int} {ins : List ByteArray} (hi : jb8 w iv.v ins) (hp : IsInts w s.v P) (h : jbz w (.slice (some ⟨B, 0, none⟩) 1 1) [inA nm s]) : NodeIn w ⟨op, ⟨#[]⟩, iv, out, ⟨some ⟨B, 0, none⟩, 1, 1⟩⟩ ins (jgd op nm s P).xs (jgd op nm s P).cs :=
 ⟨hi, h, joe op nm hp, by simp [jgd], fun b hb => by
  simp only [jgd, List.mem_cons, List.not_mem_nil, or_false] at hb
  subst hb
  show 0 ≤ 1048576
  omega⟩
theorem jiJ {w : World} {B : Nat} (h : w.heap[B]? = some (.cells #[.string ⟨#[120]⟩] 9 (0, 0))) : jb8 w (.slice (some ⟨B, 0, none⟩) 1 1) [⟨#[120]⟩] := jej (te := 9) (bytes := 16) (xs := [⟨#[120]⟩]) jeJ h rfl rfl (Nat.le_of_ble_eq_true rfl) (Nat.le_of_ble_eq_true rfl)
end Go.Proofs.YtkefdkboejimeaaGreatDoor
namespace Go.Proofs.YtkefdkboejimeaaGreatDoor
open Go.RowKit
theorem jiK {ty : Int} {x xs : List Int} (h : pbE ty x xs = 0) : ty = ty ∧ xs.all (chk ty) = true := by
 refine ⟨rfl, ?_⟩
 unfold pbE at h
 split at h
 ·omega
 ·split at h
  ·rename_i h1; exact absurd h h1
  ·split at h
   ·omega
   ·split at h
    ·assumption
    ·omega
theorem pb_mk {x xs : List Int} (hc : ja3 x = 0) (hl : (xs.length : Int) = jaF x) (ha : xs.all (chk 1) = true) : pbE 1 x xs = 0 := by
 unfold pbE
 rw [if_neg (by simp [chk]), if_neg (by simp [hc]), if_neg (by rw [cnt, if_pos hc, hl]; simp), if_pos ha]
theorem mm_ok {a k b : Nat} {xs ys : List Int} (hs : ShpM [(a : Int), (k : Int)] [(k : Int), (b : Int)] [] a k b) (px : pbE 1 [(a : Int), (k : Int)] xs = 0) (py : pbE 1 [(k : Int), (b : Int)] ys = 0) : mmR 1 1 [(a : Int), (k : Int)] [(k : Int), (b : Int)] xs ys = .ok (1, [(a : Int), (b : Int)], jeB xs (ytL [(k : Int), (b : Int)] ys) 1 a k b) := by
 have hn : jcC [tq 1 [(a : Int), (k : Int)] xs, tq 1 [(k : Int), (b : Int)] ys] (jly 1 1 [(a : Int), (k : Int)] [(k : Int), (b : Int)] (ja1 [(a : Int), (k : Int)] [(k : Int), (b : Int)])) = .ok (1, [(a : Int), (b : Int)]) := by
  unfold jcC
  rw [if_pos (by simp [tq, okT, px, py])]
  have e := jgZ [] (a : Int) k k b (by decide)
  simp only [List.nil_append, if_true] at e
  rw [e]
  unfold jly
  rw [show ja9 [(a : Int), (k : Int)] = .ok (jaF [(a : Int), (k : Int)]) from if_pos hs.cx, show ja9 [(k : Int), (b : Int)] = .ok (jaF [(k : Int), (b : Int)]) from if_pos hs.cy]
  show (Except.bind (ja9 [(a : Int), (b : Int)]) fun _ => (Except.ok (1, [(a : Int), (b : Int)]) : R (Int × List Int))) = _
  rw [show ja9 [(a : Int), (b : Int)] = .ok (jaF [(a : Int), (b : Int)]) from if_pos hs.cz]
  rfl
 unfold mmR doR
 rw [hn]
 simp only [hs.mm, Except.map]
 rfl
end Go.Proofs.YtkefdkboejimeaaGreatDoor
