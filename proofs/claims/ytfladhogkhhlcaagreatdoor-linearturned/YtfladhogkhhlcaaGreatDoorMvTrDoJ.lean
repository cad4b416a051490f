/- move.Do at a Transpose of a matrix, no attributes. -/
import Derived.Test.YtfladhogkhhlcaaGreatDoorMvTransJ
import Derived.Test.YtfladhogkhhlcaaGreatDoorPartW
import Derived.Test.YtfladhogkhhlcaaGreatDoorLnOnePJ
import Derived.Test.YtfladhogkhhlcaaGreatDoorPartR
namespace Go.Proofs.YtfladhogkhhlcaaGreatDoor
open Go.RowKit

/-- What comes of one value, moved. -/
def outT (t : Int) (x : List Int) (d : R (List Int)) : R (Int × List Int) :=
  (typP t).bind fun _ => (countP x).bind fun _ => d.bind fun d => (countP d).bind fun _ => .ok (t, d)

theorem valueT (v0 : Val) (x : List Int) (d : R (List Int)) : valueP 0 true [(v0, x)] (sameP (tysOf [(v0, x)])) d [] = outT v0.ty x d := by
  unfold valueP outT
  simp only [stopP, mustP, if_true, vinP, tysOf, List.map_cons, List.map_nil, thenP, bind_assocE]
  rfl

theorem vinT {v0 : Val} {x : List Int} (h : vinP [(v0, x)] = .ok ()) : (∀ s ∈ tysOf [(v0, x)], isTypeP s = true) ∧ cntE x = 0 := by
  simp only [vinP] at h
  obtain ⟨_, h1, h⟩ := bind_ok h
  obtain ⟨_, h2, h⟩ := bind_ok h
  refine ⟨fun s hs => ?_, count_ok h2⟩
  simp only [tysOf, List.map_cons, List.map_nil, List.mem_cons, List.not_mem_nil, or_false] at hs
  subst hs
  exact isType_of h1

theorem outT_inv {t ty : Int} {x l : List Int} {d : R (List Int)} (h : outT t x d = .ok (ty, l)) : ty = t ∧ cntE x = 0 ∧ d = .ok l ∧ cntE l = 0 := by
  unfold outT at h
  obtain ⟨_, -, h⟩ := bind_ok h
  obtain ⟨_, hx, h⟩ := bind_ok h
  obtain ⟨d', hd, h⟩ := bind_ok h
  obtain ⟨_, hc, h⟩ := bind_ok h
  cases h
  exact ⟨rfl, count_ok hx, hd, count_ok hc⟩

theorem perm_bare : permP ⟨⟨#[84, 114, 97, 110, 115, 112, 111, 115, 101]⟩, [], []⟩ 2 = swapP 0 := rfl

theorem trans_two (p q : Int) : transposedP ⟨⟨#[84, 114, 97, 110, 115, 112, 111, 115, 101]⟩, [], []⟩ [p, q] = .ok [q, p] := rfl

theorem tout (out : ByteArray) (iv : Sl) (i1 : ByteArray) (hck : checkF (ruleF ⟨#[84, 114, 97, 110, 115, 112, 111, 115, 101]⟩) ⟨#[84, 114, 97, 110, 115, 112, 111, 115, 101]⟩ [i1] out [] [] = 0) (ho : out.size ≤ 1048576) (u : Sl) (v0 : Val) (x : List Int) (w : World) (hl : Laid w) (hi : IsStrs w iv.v [i1]) (hv : ValsIn w u.v [(v0, x)]) :
    Calls Tryz.prog 36 #[nval ⟨⟨#[84, 114, 97, 110, 115, 112, 111, 115, 101]⟩, ⟨#[]⟩, iv, out, nilS⟩, .slice u.a u.n u.c] w (AttQ out w (outT v0.ty x (transposedP ⟨⟨#[84, 114, 97, 110, 115, 112, 111, 115, 101]⟩, [], []⟩ x))) := by
  refine out_any ⟨⟨#[84, 114, 97, 110, 115, 112, 111, 115, 101]⟩, ⟨#[]⟩, iv, out, nilS⟩ u _ w fun wx hx => ?_
  have key := valueof_any ⟨⟨#[84, 114, 97, 110, 115, 112, 111, 115, 101]⟩, ⟨#[]⟩, iv, out, nilS⟩ ⟨⟨#[84, 114, 97, 110, 115, 112, 111, 115, 101]⟩, [], []⟩ [i1] u [(v0, x)] wx (hl.more hx) (bare_in wx ⟨#[84, 114, 97, 110, 115, 112, 111, 115, 101]⟩ out iv _ (hi.more hx)) (hv.more hx) (by show out.size ≤ _; omega) _ _ (fun hc hll hin wy hy => ((type_same ⟨⟨#[84, 114, 97, 110, 115, 112, 111, 115, 101]⟩, ⟨#[]⟩, iv, out, nilS⟩ ⟨⟨#[84, 114, 97, 110, 115, 112, 111, 115, 101]⟩, [], []⟩ u [(v0, x)] wy (by simp) (bare_ok wy ⟨#[84, 114, 97, 110, 115, 112, 111, 115, 101]⟩ out iv) (hv.more (grown_trans hx hy)) (by simp) (by simp) (vinT hin).1).mono fun e w' he => ended_monoE he fun t v e1 e2 => ⟨e2, sameP_typ e1 (by simp [tysOf]) (vinT hin).1⟩)) (fun hc hll hin wy hy => dims_transposed ⟨⟨#[84, 114, 97, 110, 115, 112, 111, 115, 101]⟩, ⟨#[]⟩, iv, out, nilS⟩ ⟨⟨#[84, 114, 97, 110, 115, 112, 111, 115, 101]⟩, [], []⟩ u v0 x wy (by simp) (bare_ok wy ⟨#[84, 114, 97, 110, 115, 112, 111, 115, 101]⟩ out iv) (hv.more (grown_trans hx hy)) (fine_of (vinT hin).2))
  rw [show checkF (ruleF (Nod.op ⟨⟨#[84, 114, 97, 110, 115, 112, 111, 115, 101]⟩, ⟨#[]⟩, iv, out, nilS⟩)) (Nod.op ⟨⟨#[84, 114, 97, 110, 115, 112, 111, 115, 101]⟩, ⟨#[]⟩, iv, out, nilS⟩) [i1] (Nod.out ⟨⟨#[84, 114, 97, 110, 115, 112, 111, 115, 101]⟩, ⟨#[]⟩, iv, out, nilS⟩) (At.xs ⟨⟨#[84, 114, 97, 110, 115, 112, 111, 115, 101]⟩, [], []⟩) (At.cs ⟨⟨#[84, 114, 97, 110, 115, 112, 111, 115, 101]⟩, [], []⟩) = 0 from hck] at key
  have e := valueT v0 x (transposedP ⟨⟨#[84, 114, 97, 110, 115, 112, 111, 115, 101]⟩, [], []⟩ x)
  refine key.mono fun e' w' he => ?_
  rw [← e]
  exact ended_monoE he fun r v _ e2 => e2

/-- What Do answers of a Transpose. -/
def trR (t : Int) (x xs : List Int) : R (Int × List Int × List Int) :=
  doR (nodeP [tq t x xs] (outT t x (transposedP ⟨⟨#[84, 114, 97, 110, 115, 112, 111, 115, 101]⟩, [], []⟩ x))) fun _ => .ok (ytL x xs)

theorem one_valT {vs : List (Val × List Int)} {t0 : Int} {x : List Int} (h1 : vs.map (·.1.ty) = [t0]) (h2 : vs.map (·.2) = [x]) : ∃ v0, vs = [(v0, x)] ∧ v0.ty = t0 := by
  match vs, h1, h2 with
  | [(v0, a)], h1, h2 =>
    simp only [List.map_cons, List.map_nil, List.cons.injEq, and_true] at h1 h2
    subst h2
    exact ⟨v0, rfl, h1⟩

theorem nz_typT {t c : Int} (h : typP t = .error c) : c ≠ 0 := by
  unfold typP at h
  split at h
  · cases h
  · cases h; decide

theorem nz_cntT {x : List Int} {c : Int} (h : countP x = .error c) : c ≠ 0 := by
  unfold countP at h
  split at h
  · cases h
  · rename_i h1
    cases h
    exact h1

theorem nz_outT (t p q : Int) : ∀ c, outT t [p, q] (transposedP ⟨⟨#[84, 114, 97, 110, 115, 112, 111, 115, 101]⟩, [], []⟩ [p, q]) = .error c → c ≠ 0 := by
  intro c h
  rw [trans_two] at h
  unfold outT at h
  cases h1 : typP t with
  | error c' => rw [h1] at h; cases h; exact nz_typT h1
  | ok a =>
    rw [h1] at h
    simp only [Except.bind] at h
    cases h2 : countP [p, q] with
    | error c' => rw [h2] at h; cases h; exact nz_cntT h2
    | ok b =>
      rw [h2] at h
      simp only at h
      cases h3 : countP [q, p] with
      | error c' => rw [h3] at h; cases h; exact nz_cntT h3
      | ok d => rw [h3] at h; cases h

theorem trans_do (out : ByteArray) (iv : Sl) (i1 : ByteArray) (hck : checkF (ruleF ⟨#[84, 114, 97, 110, 115, 112, 111, 115, 101]⟩) ⟨#[84, 114, 97, 110, 115, 112, 111, 115, 101]⟩ [i1] out [] [] = 0) (ho : out.size ≤ 1048576) (u : Sl) (T0 : Ten) (x xs : List Int) (hx2 : x.length = 2) (w : World) (hl : Laid w) (hi : IsStrs w iv.v [i1]) (hv : TensIn w u.v [(T0, (x, xs))]) :
    Calls Tryz.prog 13 #[nval ⟨⟨#[84, 114, 97, 110, 115, 112, 111, 115, 101]⟩, ⟨#[]⟩, iv, out, nilS⟩, .slice u.a u.n u.c] w (DoQ w (trR T0.ty x xs)) := by
  obtain ⟨p, q, rfl⟩ : ∃ p q, x = [p, q] := by
    match x, hx2 with
    | [p, q], _ => exact ⟨p, q, rfl⟩
  refine mdo_any _ u _ w fun wx hx => mbdo_any _ u _ _ wx (nz_node (nz_outT _ _ _)) (fun l => nz_ok _) (fun wy hy => ?_) (fun wy ty dv l hy hr hd => ?_)
  · refine bnode_any ⟨⟨#[84, 114, 97, 110, 115, 112, 111, 115, 101]⟩, ⟨#[]⟩, iv, out, nilS⟩ u [(T0, ([p, q], xs))] _ wy (hv.more (grown_trans hx hy)) (by simp) fun wz s vs hz hvs h1 h2 => ?_
    obtain ⟨v0, rfl, e0⟩ := one_valT h1 h2
    have key := tout out iv i1 hck ho s v0 [p, q] wz (hl.more (grown_trans (grown_trans hx hy) hz)) (hi.more (grown_trans (grown_trans hx hy) hz)) hvs
    rw [e0] at key
    exact key
  · have hvy := hv.more (grown_trans hx hy)
    obtain ⟨hall, hr⟩ := node_inv hr
    obtain ⟨-, c1, hp, c3⟩ := outT_inv hr
    rw [trans_two] at hp
    cases hp
    simp only [tq, okT, List.all_cons, List.all_nil, Bool.and_true, beq_iff_eq] at hall
    have F := fine_of c1
    have h1 := F.pos p (by simp)
    have h2 := F.pos q (by simp)
    obtain ⟨k, rfl⟩ : ∃ k : Nat, p = k := ⟨p.toNat, by omega⟩
    obtain ⟨b, rfl⟩ : ∃ b : Nat, q = b := ⟨q.toNat, by omega⟩
    have hrd := rd_turned (A := []) (k := k) (b := b) (by simp) c1 (pb_inv hall).2
    exact moved_trans ⟨⟨#[84, 114, 97, 110, 115, 112, 111, 115, 101]⟩, ⟨#[]⟩, iv, out, nilS⟩ ⟨⟨#[84, 114, 97, 110, 115, 112, 111, 115, 101]⟩, [], []⟩ rfl u T0 [(k : Int), (b : Int)] xs _ ty dv _ wy (bare_ok wy ⟨#[84, 114, 97, 110, 115, 112, 111, 115, 101]⟩ out iv) hvy hd rfl c1 (swap_perm 0 (by omega)) hrd

/-- What holds once it answers. -/
theorem tr_inv {t ty : Int} {x xs l zs : List Int} (hx2 : x.length = 2) (h : trR t x xs = .ok (ty, l, zs)) : ∃ k b : Nat, x = [(k : Int), (b : Int)] ∧ ty = t ∧ l = [(b : Int), (k : Int)] ∧ cntE x = 0 ∧ cntE l = 0 ∧ zs = trn k b xs ∧ pbE t x xs = 0 := by
  obtain ⟨p, q, rfl⟩ : ∃ p q, x = [p, q] := by
    match x, hx2 with
    | [p, q], _ => exact ⟨p, q, rfl⟩
  unfold trR doR at h
  split at h
  · rename_i ty' l' hn
    obtain ⟨hall, ho⟩ := node_inv hn
    obtain ⟨e1, c1, hp, c3⟩ := outT_inv ho
    rw [trans_two] at hp
    cases hp
    cases h
    subst e1
    simp only [tq, okT, List.all_cons, List.all_nil, Bool.and_true, beq_iff_eq] at hall
    have F := fine_of c1
    have h1 := F.pos p (by simp)
    have h2 := F.pos q (by simp)
    obtain ⟨k, rfl⟩ : ∃ k : Nat, p = k := ⟨p.toNat, by omega⟩
    obtain ⟨b, rfl⟩ : ∃ b : Nat, q = b := ⟨q.toNat, by omega⟩
    exact ⟨k, b, rfl, rfl, rfl, c1, c3, yt_two c1 (pb_inv hall).2, hall⟩
  · cases h
end Go.Proofs.YtfladhogkhhlcaaGreatDoor
