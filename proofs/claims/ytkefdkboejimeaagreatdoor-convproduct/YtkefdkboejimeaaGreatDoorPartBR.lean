/- Joined texts: CvOut, CvCo. -/
import Derived.Test.YtkefdkboejimeaaGreatDoorPartBO
import Derived.Test.YtkefdkboejimeaaGreatDoorPartBI
import Derived.Test.YtkefdkboejimeaaGreatDoorPartBQ
namespace Go.Proofs.YtkefdkboejimeaaGreatDoor

open Go.RowKit

theorem places_inv {A : At} {x K : List Int} {al : Nat} {a : Int} (ha : al = 0 ∨ al = 1) (hs : A.ints ⟨#[115, 116, 114, 105, 100, 101, 115]⟩ [1, 1] = [1, 1]) (hl : A.ints ⟨#[100, 105, 108, 97, 116, 105, 111, 110, 115]⟩ [1, 1] = [1, 1]) (hp : A.ints ⟨#[112, 97, 100, 115]⟩ [0, 0, 0, 0] = [0, 0, 0, 0]) (h : placesP A x K al = .ok a) : K.getD al 0 ≤ x.getD (2 + al) 0 ∧ a = x.getD (2 + al) 0 - K.getD al 0 + 1 := by
  unfold placesP padsP withinP at h
  rw [hs, hl, hp] at h
  have e1 : mustP (decide (([1, 1] : List Int).length = 2)) = .ok () := rfl
  have e2 : mustP (([1, 1] : List Int).all (fun x => decide (1 ≤ x ∧ x ≤ 100))) = .ok () := rfl
  have e3 : mustP (decide (([0, 0, 0, 0] : List Int).length = 4)) = .ok () := rfl
  have e4 : mustP (([0, 0, 0, 0] : List Int).all (fun x => decide (0 ≤ x ∧ x ≤ 100))) = .ok () := rfl
  rw [e1, e2, e3, e4] at h
  rcases ha with rfl | rfl
  · change (mustP (decide (0 ≤ x.getD (2 + 0) 0 + 0 + 0 - 1 * (K.getD 0 0 - 1) - 1))).bind (fun _ => .ok ((x.getD (2 + 0) 0 + 0 + 0 - 1 * (K.getD 0 0 - 1) - 1) / 1 + 1)) = .ok a at h
    obtain ⟨_, h1, h⟩ := bind_ok h
    cases h
    have h2 := must_ok h1
    rw [decide_eq_true_eq] at h2
    rw [Int.ediv_one]
    omega
  · change (mustP (decide (0 ≤ x.getD (2 + 1) 0 + 0 + 0 - 1 * (K.getD 1 0 - 1) - 1))).bind (fun _ => .ok ((x.getD (2 + 1) 0 + 0 + 0 - 1 * (K.getD 1 0 - 1) - 1) / 1 + 1)) = .ok a at h
    obtain ⟨_, h1, h⟩ := bind_ok h
    cases h
    have h2 := must_ok h1
    rw [decide_eq_true_eq] at h2
    rw [Int.ediv_one]
    omega

structure PoolD (x K l : List Int) (D0 D1 H W kh kw oh ow : Nat) : Prop where
  ex : x = [(D0 : Int), D1, H, W]
  ek : K = [(kh : Int), kw]
  el : l = [(D0 : Int), D1, oh, ow]
  e1 : oh + kh = H + 1
  e2 : ow + kw = W + 1
  d0 : 1 ≤ D0
  d1 : 1 ≤ D1
  k1 : 1 ≤ kh
  k2 : 1 ≤ kw
  o1 : 1 ≤ oh
  o2 : 1 ≤ ow

theorem four_list {x : List Int} (h : x.length = 4) : x = [x.getD 0 0, x.getD 1 0, x.getD 2 0, x.getD 3 0] := by
  match x, h with
  | [_, _, _, _], _ => rfl

theorem two_list {x : List Int} (h : x.length = 2) : x = [x.getD 0 0, x.getD 1 0] := by
  match x, h with
  | [_, _], _ => rfl

theorem pool_inv {A : At} {x l : List Int} (hf : Fine x) (hs : A.ints ⟨#[115, 116, 114, 105, 100, 101, 115]⟩ [1, 1] = [1, 1]) (hl : A.ints ⟨#[100, 105, 108, 97, 116, 105, 111, 110, 115]⟩ [1, 1] = [1, 1]) (hp : A.ints ⟨#[112, 97, 100, 115]⟩ [0, 0, 0, 0] = [0, 0, 0, 0]) (h : pooledP A x = .ok l) : ∃ D0 D1 H W kh kw oh ow : Nat, PoolD x (A.ints ⟨#[107, 101, 114, 110, 101, 108, 95, 115, 104, 97, 112, 101]⟩ []) l D0 D1 H W kh kw oh ow := by
  unfold pooledP at h
  change (mustP (decide (x.length = 4))).bind _ = _ at h
  obtain ⟨_, h1, h⟩ := bind_ok h
  have h4 := must_ok h1
  rw [decide_eq_true_eq] at h4
  change (withinP (A.ints ⟨#[107, 101, 114, 110, 101, 108, 95, 115, 104, 97, 112, 101]⟩ []) 2 1).bind _ = _ at h
  obtain ⟨K, h2, h⟩ := bind_ok h
  obtain ⟨eK, lK, bK⟩ := withinP_ok h2
  change (padsP A).bind _ = _ at h
  obtain ⟨pads, -, h⟩ := bind_ok h
  change (mustP _).bind _ = _ at h
  obtain ⟨_, -, h⟩ := bind_ok h
  change (placesP A x K 0).bind _ = _ at h
  obtain ⟨a, ha, h⟩ := bind_ok h
  change (placesP A x K 1).bind _ = _ at h
  obtain ⟨b, hb, h⟩ := bind_ok h
  cases h
  obtain ⟨a1, a2⟩ := places_inv (.inl rfl) hs hl hp ha
  obtain ⟨b1, b2⟩ := places_inv (.inr rfl) hs hl hp hb
  have p0 : 1 ≤ x.getD 0 0 := hf.pos _ (by rw [List.getD, List.getElem?_eq_getElem (by omega)]; exact List.getElem_mem _)
  have p1 : 1 ≤ x.getD 1 0 := hf.pos _ (by rw [List.getD, List.getElem?_eq_getElem (by omega)]; exact List.getElem_mem _)
  have k0 : 1 ≤ K.getD 0 0 := (bK _ (by rw [List.getD, List.getElem?_eq_getElem (by omega)]; exact List.getElem_mem _)).1
  have k1 : 1 ≤ K.getD 1 0 := (bK _ (by rw [List.getD, List.getElem?_eq_getElem (by omega)]; exact List.getElem_mem _)).1
  refine ⟨(x.getD 0 0).toNat, (x.getD 1 0).toNat, (x.getD 2 0).toNat, (x.getD 3 0).toNat, (K.getD 0 0).toNat, (K.getD 1 0).toNat, a.toNat, b.toNat, ?_⟩
  simp only [Nat.reduceAdd] at a1 a2 b1 b2
  rw [← eK]
  refine ⟨?_, ?_, ?_, by omega, by omega, by omega, by omega, by omega, by omega, by omega, by omega⟩
  · rw [Int.toNat_of_nonneg (by omega), Int.toNat_of_nonneg (by omega), Int.toNat_of_nonneg (by omega), Int.toNat_of_nonneg (by omega)]
    exact four_list h4
  · rw [Int.toNat_of_nonneg (by omega), Int.toNat_of_nonneg (by omega)]
    exact two_list lK
  · rw [Int.toNat_of_nonneg (by omega), Int.toNat_of_nonneg (by omega), Int.toNat_of_nonneg (by omega), Int.toNat_of_nonneg (by omega)]

theorem nz_within {l : List Int} {m : Nat} {b : Int} {c : Int} (h : withinP l m b = .error c) : c ≠ 0 := by
  unfold withinP at h
  change (mustP _).bind _ = _ at h
  rcases bindR h with h | ⟨_, -, h⟩
  · exact nz_mustR h
  change (mustP _).bind _ = _ at h
  rcases bindR h with h | ⟨_, -, h⟩
  · exact nz_mustR h
  · cases h

theorem nz_places {A : At} {x K : List Int} {al : Nat} {c : Int} (h : placesP A x K al = .error c) : c ≠ 0 := by
  unfold placesP at h
  change (withinP _ _ _).bind _ = _ at h
  rcases bindR h with h | ⟨_, -, h⟩
  · exact nz_within h
  change (withinP _ _ _).bind _ = _ at h
  rcases bindR h with h | ⟨_, -, h⟩
  · exact nz_within h
  change (padsP _).bind _ = _ at h
  rcases bindR h with h | ⟨_, -, h⟩
  · exact nz_within h
  change (mustP _).bind _ = _ at h
  rcases bindR h with h | ⟨_, -, h⟩
  · exact nz_mustR h
  · cases h

theorem nz_pooled (A : At) (x : List Int) : ∀ c, pooledP A x = .error c → c ≠ 0 := by
  intro c h
  unfold pooledP at h
  change (mustP _).bind _ = _ at h
  rcases bindR h with h | ⟨_, -, h⟩
  · exact nz_mustR h
  change (withinP _ _ _).bind _ = _ at h
  rcases bindR h with h | ⟨_, -, h⟩
  · exact nz_within h
  change (padsP _).bind _ = _ at h
  rcases bindR h with h | ⟨_, -, h⟩
  · exact nz_within h
  change (mustP _).bind _ = _ at h
  rcases bindR h with h | ⟨_, -, h⟩
  · exact nz_mustR h
  change (placesP _ _ _ _).bind _ = _ at h
  rcases bindR h with h | ⟨_, -, h⟩
  · exact nz_places h
  change (placesP _ _ _ _).bind _ = _ at h
  rcases bindR h with h | ⟨_, -, h⟩
  · exact nz_places h
  · cases h

def poolX (f : List Int → Int) (x K l xs : List Int) : List Int := poolL f xs (x.getD 0 0 * x.getD 1 0).toNat (x.getD 2 0).toNat (x.getD 3 0).toNat (K.getD 0 0).toNat (K.getD 1 0).toNat (l.getD 2 0).toNat (l.getD 3 0).toNat

theorem poolX_eq {f : List Int → Int} {x K l : List Int} {D0 D1 H W kh kw oh ow : Nat} (h : PoolD x K l D0 D1 H W kh kw oh ow) (xs : List Int) : poolX f x K l xs = poolL f xs (D0 * D1) H W kh kw oh ow := by
  obtain ⟨rfl, rfl, rfl, -, -, -, -, -, -, -, -⟩ := h
  unfold poolX
  simp only [List.getD_cons_zero, List.getD_cons_succ, Int.toNat_natCast]
  rw [← Int.natCast_mul, Int.toNat_natCast]

def poolR (f : List Int → Int) (A : At) (t : Int) (x xs : List Int) : R (Int × List Int × List Int) :=
  doR (nodeP [tq t x xs] (outR t x (tyFlt t) (pooledP A x))) fun l => .ok (poolX f x (A.ints ⟨#[107, 101, 114, 110, 101, 108, 95, 115, 104, 97, 112, 101]⟩ []) l xs)

theorem xs_len {x xs : List Int} {D0 D1 H W : Nat} (ex : x = [(D0 : Int), D1, H, W]) (h : (xs.length : Int) = prod x) : xs.length = D0 * D1 * (H * W) := by
  subst ex
  have e : prod [(D0 : Int), D1, H, W] = ((D0 * D1 * (H * W) : Nat) : Int) := by simp [prod, Int.mul_assoc]
  rw [e] at h
  exact Int.ofNat.inj h

theorem type_cv (n : Nod) (A : At) (s : Sl) (v0 : Val) (x : List Int) (w : World) (hop : n.op ∈ ([⟨#[77, 97, 120, 80, 111, 111, 108]⟩, ⟨#[65, 118, 101, 114, 97, 103, 101, 80, 111, 111, 108]⟩, ⟨#[71, 108, 111, 98, 97, 108, 65, 118, 101, 114, 97, 103, 101, 80, 111, 111, 108]⟩] : List ByteArray)) (hn : NodeOk w n A) (hv : ValsIn w s.v [(v0, x)]) (hin : vinP [(v0, x)] = .ok ()) : Calls Tryz.prog 121 #[nval n, .slice s.a s.n s.c] w (Ended w (tyFlt v0.ty) fun t v _ => v = .int .i64 t ∧ isTypeP t = true) := by
  refine (type_float n A s [(v0, x)] w (by simp only [List.mem_cons, List.not_mem_nil, or_false] at hop ⊢; rcases hop with h | h | h <;> simp [h]) hn hv (by simp) (by simp) (vinT hin).1).mono fun e w' he => ?_
  have he2 : Ended w (tyFlt v0.ty) (fun t v _ => v = .int .i64 t) e w' := he
  exact ended_monoE he2 fun t v e1 e2 => ⟨e2, by
    obtain ⟨_, -, e1⟩ := bind_ok e1
    cases e1
    rfl⟩

theorem mxp_do (n : Nod) (A : At) (i1 : ByteArray) (hop : n.op = ⟨#[77, 97, 120, 80, 111, 111, 108]⟩) (u : Sl) (T0 : Ten) (x xs : List Int) (w : World) (hl : Laid w) (hni : NodeIn w n [i1] A.xs A.cs) (hno : NodeOk w n A) (hck : checkF (ruleF n.op) n.op [i1] n.out A.xs A.cs = 0) (hth : thenL (A.xs.find? (isA ⟨#[116, 104, 101, 110]⟩ 3)) = []) (ho : n.out.size ≤ 1048576) (hv : TensIn w u.v [(T0, (x, xs))]) (hs : A.ints ⟨#[115, 116, 114, 105, 100, 101, 115]⟩ [1, 1] = [1, 1]) (hdl : A.ints ⟨#[100, 105, 108, 97, 116, 105, 111, 110, 115]⟩ [1, 1] = [1, 1]) (hpd : A.ints ⟨#[112, 97, 100, 115]⟩ [0, 0, 0, 0] = [0, 0, 0, 0]) (hk : ∀ d, A.ints ⟨#[107, 101, 114, 110, 101, 108, 95, 115, 104, 97, 112, 101]⟩ d = A.ints ⟨#[107, 101, 114, 110, 101, 108, 95, 115, 104, 97, 112, 101]⟩ []) :
    Calls Tryz.prog 9 #[nval n, .slice u.a u.n u.c] w (DoQ w (poolR (mostL 1) A T0.ty x xs)) := by
  refine cdo_any _ u _ w fun wx hx => cbdo_any _ u _ _ wx (nz_node (nz_outR _ _ _ _ (nz_tyflt _) (nz_pooled _ _))) (fun l => nz_ok _) (fun wy hy => ?_) (fun wy ty dv l hy hr hd => ?_)
  · have hg := grown_trans hx hy
    refine bnode_any n u [(T0, (x, xs))] _ wy (hv.more hg) (by simp) fun wz s vs hz hvs h1 h2 => ?_
    obtain ⟨v0, rfl, e0⟩ := one_valT h1 h2
    have hgz := grown_trans hg hz
    have key := routG n A i1 s v0 x wz (hl.more hgz) (hni.more hgz) hck hth ho hvs (tyFlt v0.ty) (pooledP A x) (fun hin wq hq => type_cv n A s v0 x wq (by rw [hop]; simp) (hno.more (grown_trans hgz hq)) (hvs.more hq) hin) (fun hin wq hq => dims_pooled n A s v0 x wq (by rw [hop]; simp) (hno.more (grown_trans hgz hq)) (hvs.more hq) (fine_of (vinT hin).2))
    rw [e0] at key
    exact key
  · have hg := grown_trans hx hy
    obtain ⟨hall, hr⟩ := node_inv hr
    obtain ⟨c1, -, hp, c3⟩ := outR_inv hr
    simp only [tq, okT, List.all_cons, List.all_nil, Bool.and_true, beq_iff_eq] at hall
    obtain ⟨D0, D1, H, W, kh, kw, oh, ow, P⟩ := pool_inv (fine_of c1) hs hdl hpd hp
    have hxl := xs_len P.ex (pb_inv hall).2
    have hle : xs.length ≤ 65536 := by have h1 := (pb_inv hall).2; have h2 := (fine_of c1).le; omega
    rw [poolX_eq P]
    have hvy := hv.more hg
    rw [P.ex] at hvy
    rw [P.el] at hd
    exact made_mxp n A hop u T0 D0 D1 H W kh kw oh ow (D0 * D1) xs _ ty dv wy (hno.more hg) hvy hd (by rw [hk, P.ek]) hs hdl hpd rfl hxl (Nat.mul_le_mul P.d0 P.d1) P.e1 P.e2 P.k1 P.k2 P.o1 P.o2 hle

def cvR (tx ty : Int) (xs ys : List Int) : R (Int × List Int × List Int) :=
  doR (nodeP [tq tx [1, 1, 2, 2] xs, tq ty [1, 1, 2, 2] ys] (outM tx ty [1, 1, 2, 2] [1, 1, 2, 2] (.ok [1, 1, 1, 1]))) fun _ => .ok [prod4 xs ys]

theorem cout (out : ByteArray) (iv : Sl) (i1 i2 : ByteArray) (hck : checkF (ruleF ⟨#[67, 111, 110, 118]⟩) ⟨#[67, 111, 110, 118]⟩ [i1, i2] out [] [] = 0) (ho : out.size ≤ 1048576) (u : Sl) (v0 v1 : Val) (w : World) (hl : Laid w) (hi : IsStrs w iv.v [i1, i2]) (hv : ValsIn w u.v [(v0, [1, 1, 2, 2]), (v1, [1, 1, 2, 2])]) :
    Calls Tryz.prog 53 #[nval ⟨⟨#[67, 111, 110, 118]⟩, ⟨#[]⟩, iv, out, nilS⟩, .slice u.a u.n u.c] w (AttQ out w (outM v0.ty v1.ty [1, 1, 2, 2] [1, 1, 2, 2] (.ok [1, 1, 1, 1]))) := by
  refine out_any ⟨⟨#[67, 111, 110, 118]⟩, ⟨#[]⟩, iv, out, nilS⟩ u _ w fun wx hx => ?_
  have key := valueof_any ⟨⟨#[67, 111, 110, 118]⟩, ⟨#[]⟩, iv, out, nilS⟩ ⟨⟨#[67, 111, 110, 118]⟩, [], []⟩ [i1, i2] u [(v0, [1, 1, 2, 2]), (v1, [1, 1, 2, 2])] wx (hl.more hx) (bare_in wx ⟨#[67, 111, 110, 118]⟩ out iv _ (hi.more hx)) (hv.more hx) (by show out.size ≤ _; omega) _ _ (fun hc hll hin wy hy => ((type_float ⟨⟨#[67, 111, 110, 118]⟩, ⟨#[]⟩, iv, out, nilS⟩ ⟨⟨#[67, 111, 110, 118]⟩, [], []⟩ u [(v0, [1, 1, 2, 2]), (v1, [1, 1, 2, 2])] wy (by simp) (bare_ok wy ⟨#[67, 111, 110, 118]⟩ out iv) (hv.more (grown_trans hx hy)) (by simp) (by simp) (vin2 hin).1).mono fun e w' he => ended_monoE he fun t v e1 e2 => ⟨e2, by
    obtain ⟨_, -, e1⟩ := bind_ok e1
    obtain ⟨_, -, e1⟩ := bind_ok e1
    cases e1
    rfl⟩)) (fun hc hll hin wy hy => dims_Conv ⟨⟨#[67, 111, 110, 118]⟩, ⟨#[]⟩, iv, out, nilS⟩ ⟨⟨#[67, 111, 110, 118]⟩, [], []⟩ u (v0, [1, 1, 2, 2]) (v1, [1, 1, 2, 2]) [] wy rfl (bare_ok wy ⟨#[67, 111, 110, 118]⟩ out iv) (hv.more (grown_trans hx hy)) (by simp) (fun p hp => by
      simp only [List.mem_cons, List.not_mem_nil, or_false] at hp
      rcases hp with rfl | rfl
      · exact fine_of (vin2 hin).2.1
      · exact fine_of (vin2 hin).2.2))
  rw [show checkF (ruleF (Nod.op ⟨⟨#[67, 111, 110, 118]⟩, ⟨#[]⟩, iv, out, nilS⟩)) (Nod.op ⟨⟨#[67, 111, 110, 118]⟩, ⟨#[]⟩, iv, out, nilS⟩) [i1, i2] (Nod.out ⟨⟨#[67, 111, 110, 118]⟩, ⟨#[]⟩, iv, out, nilS⟩) (At.xs ⟨⟨#[67, 111, 110, 118]⟩, [], []⟩) (At.cs ⟨⟨#[67, 111, 110, 118]⟩, [], []⟩) = 0 from hck] at key
  have e := valueM v0 v1 [1, 1, 2, 2] [1, 1, 2, 2] (.ok [1, 1, 1, 1])
  refine key.mono fun e' w' he => ?_
  rw [← e]
  exact ended_monoE he fun r v _ e2 => e2

theorem cv_do (out : ByteArray) (iv : Sl) (i1 i2 : ByteArray) (hck : checkF (ruleF ⟨#[67, 111, 110, 118]⟩) ⟨#[67, 111, 110, 118]⟩ [i1, i2] out [] [] = 0) (ho : out.size ≤ 1048576) (u : Sl) (T0 T1 : Ten) (xs ys : List Int) (w : World) (hl : Laid w) (hi : IsStrs w iv.v [i1, i2]) (hv : TensIn w u.v [(T0, ([1, 1, 2, 2], xs)), (T1, ([1, 1, 2, 2], ys))]) (lx : xs.length = 4) (ly : ys.length = 4) :
    Calls Tryz.prog 9 #[nval ⟨⟨#[67, 111, 110, 118]⟩, ⟨#[]⟩, iv, out, nilS⟩, .slice u.a u.n u.c] w (DoQ w (cvR T0.ty T1.ty xs ys)) := by
  refine cdo_any _ u _ w fun wx hx => cbdo_any _ u _ _ wx (nz_node (nz_outM _ _ _ _ _ (nz_ok _))) (fun l => nz_ok _) (fun wy hy => ?_) (fun wy ty dv l hy hr hd => ?_)
  · refine bnode_any ⟨⟨#[67, 111, 110, 118]⟩, ⟨#[]⟩, iv, out, nilS⟩ u [(T0, ([1, 1, 2, 2], xs)), (T1, ([1, 1, 2, 2], ys))] _ wy (hv.more (grown_trans hx hy)) (by simp) fun wz s vs hz hvs h1 h2 => ?_
    obtain ⟨v0, v1, rfl, e0, e1⟩ := two_valsL h1 h2
    have key := cout out iv i1 i2 hck ho s v0 v1 wz (hl.more (grown_trans (grown_trans hx hy) hz)) (hi.more (grown_trans (grown_trans hx hy) hz)) hvs
    rw [e0, e1] at key
    exact key
  · have hvy := hv.more (grown_trans hx hy)
    obtain ⟨hall, hr⟩ := node_inv hr
    obtain ⟨-, -, -, -, -, hp, -⟩ := outM_inv hr
    cases hp
    exact made_cv ⟨⟨#[67, 111, 110, 118]⟩, ⟨#[]⟩, iv, out, nilS⟩ ⟨⟨#[67, 111, 110, 118]⟩, [], []⟩ rfl u T0 T1 xs ys _ ty dv wy (bare_ok wy ⟨#[67, 111, 110, 118]⟩ out iv) hvy hd lx ly (by kernel_rfl) (by kernel_rfl) (by kernel_rfl) (by kernel_rfl)

end Go.Proofs.YtkefdkboejimeaaGreatDoor

namespace Go.Proofs.YtkefdkboejimeaaGreatDoor

open Go.RowKit

def kersL (ys : List Int) (s C m : Nat) : List (List Int) := (List.range C).map fun c => imgL ys s (m * C + c)

def convL (xs ys : List Int) (H W kh kw oh ow C M : Nat) : List Int := (List.range M).flatMap fun m => eachW (fun h v => prodW (imgsL xs (H * W) C) (kersL ys (kh * kw) C m) (wpl W kh kw h v) C) oh ow

theorem convL_step (xs ys : List Int) (H W kh kw oh ow C M : Nat) : convL xs ys H W kh kw oh ow C (M + 1) = convL xs ys H W kh kw oh ow C M ++ eachW (fun h v => prodW (imgsL xs (H * W) C) (kersL ys (kh * kw) C M) (wpl W kh kw h v) C) oh ow := by
  simp [convL, List.range_succ]

theorem convL_len (xs ys : List Int) (H W kh kw oh ow C : Nat) : ∀ M, (convL xs ys H W kh kw oh ow C M).length = M * (oh * ow)
  | 0 => by simp [convL]
  | M + 1 => by rw [convL_step, List.length_append, convL_len xs ys H W kh kw oh ow C M, eachW_len, Nat.add_mul, Nat.one_mul]

theorem dotW_rng {s : Int} (hs : Rng s) (ch ker : List Int) (ps : List (Nat × Nat)) : Rng (dotW s ch ker ps) := by
  unfold dotW
  induction ps generalizing s with
  | nil => exact hs
  | cons p ps ih => exact ih (add_rng 1 _ _)

theorem prodW_rng (C K : List (List Int)) (ps : List (Nat × Nat)) : ∀ k, Rng (prodW C K ps k)
  | 0 => rng0
  | k + 1 => dotW_rng (prodW_rng C K ps k) _ _ _

theorem convL_rng (xs ys : List Int) (H W kh kw oh ow C M : Nat) : ∀ z ∈ convL xs ys H W kh kw oh ow C M, -9223372036854775808 ≤ z ∧ z ≤ 9223372036854775807 := by
  intro z hz
  obtain ⟨m, -, hz⟩ := List.mem_flatMap.1 hz
  unfold eachW at hz
  obtain ⟨a, -, hz⟩ := List.mem_flatMap.1 hz
  obtain ⟨b, -, rfl⟩ := List.mem_map.1 hz
  exact prodW_rng _ _ _ _

theorem kersL_len (ys : List Int) (s C m : Nat) : (kersL ys s C m).length = C := by simp [kersL]

theorem imgsL_len (ys : List Int) (s n : Nat) : (imgsL ys s n).length = n := by simp [imgsL]

theorem imgsL_each {xs : List Int} {s n : Nat} (h : xs.length = n * s) : ∀ c ∈ imgsL xs s n, c.length = s := by
  intro c hc
  obtain ⟨i, hi, rfl⟩ := List.mem_map.1 hc
  exact imgL_len h (List.mem_range.1 hi)

theorem ker_lt {C M m c : Nat} (hm : m < M) (hc : c < C) : m * C + c < M * C := by
  have h := Nat.mul_le_mul_right C hm
  rw [Nat.succ_mul] at h
  omega

theorem kersL_each {ys : List Int} {s C M m : Nat} (h : ys.length = (M * C) * s) (hm : m < M) : ∀ c ∈ kersL ys s C m, c.length = s := by
  intro c hc
  obtain ⟨i, hi, rfl⟩ := List.mem_map.1 hc
  exact imgL_len h (ker_lt hm (List.mem_range.1 hi))

theorem Rws.part {w : World} {B s C M m : Nat} {ss : List Sl} {ys : List Int} (h : Rws w B 0 ss (imgsL ys s (M * C))) (hm : m < M) : Rws w B (m * C) ((ss.drop (m * C)).take C) (kersL ys s C m) := by
  have hl : ss.length = M * C := by rw [h.sl, imgsL_len]
  have e : ∀ k, k < C → ((ss.drop (m * C)).take C).getD k nilS = ss.getD (m * C + k) nilS := fun k hk => by
    simp [List.getD, hk]
  refine ⟨?_, fun k hk => ?_, fun k hk => ?_⟩
  · rw [List.length_take, List.length_drop, hl, kersL_len]
    have h2 := Nat.mul_le_mul_right C hm
    rw [Nat.succ_mul] at h2
    omega
  · rw [kersL_len] at hk
    have h2 := h.at' (m * C + k) (by rw [imgsL_len]; exact ker_lt hm hk)
    rw [Nat.zero_add] at h2
    rw [e k hk]
    exact h2
  · rw [kersL_len] at hk
    have h2 := h.each (m * C + k) (by rw [imgsL_len]; exact ker_lt hm hk)
    rw [e k hk]
    have e2 : (kersL ys s C m).getD k [] = (imgsL ys s (M * C)).getD (m * C + k) [] := by
      simp [kersL, imgsL, List.getD, hk, ker_lt hm hk]
    rw [e2]
    exact h2

theorem Rws.lt' {w : World} {B off : Nat} {ss : List Sl} {L : List (List Int)} (h : Rws w B off ss L) (hl : 0 < L.length) : B < w.heap.size := World.block_lt_of_cell? w _ (h.at' 0 hl)

set_option maxRecDepth 100000 in
set_option maxHeartbeats 4000000 in
theorem conv1_any (H kh W kw p1 p2 p3 h v c1 c2 c3 c4 B1 B2 C m K N2 : Nat) (s1 s2 : List Sl) (CH KS : List (List Int)) (w : World) (b1 : w.heap[c1]? = some (.cells #[.slice (some ⟨B1, 0, none⟩) C C] 85 (0, 0))) (b2 : w.heap[c2]? = some (.cells #[.slice (some ⟨B2, 0, none⟩) (K + N2) (K + N2)] 85 (0, 0))) (b3 : w.heap[c3]? = some (.cells #[.int .i64 m] 3 (0, 0))) (b4 : w.heap[c4]? = some (.cells #[.int .i64 C] 3 (0, 0))) (hp : PlB H kh W kw h v w p1 p2 p3) (hh : h + kh ≤ H) (hv : v + kw ≤ W) (hW : W ≤ 65536) (hH : H ≤ 65536) (hL : H * W ≤ 65536) (hKK : kh * kw ≤ 65536) (h0 : 0 < H * W) (h1 : 0 < kh * kw) (r1 : Rws w B1 0 s1 CH) (r2 : Rws w B2 K s2 KS) (l1 : CH.length = C) (l2 : KS.length = C) (hcl : ∀ c ∈ CH, c.length = H * W) (hkl : ∀ c ∈ KS, c.length = kh * kw) (hK : K = m * C) (C1 : 1 ≤ C) (hN2 : C ≤ N2) (hb : K + N2 ≤ 65536) :
    Calls Tryz.prog 58 #[plV p1 p2 p3, .pointer (some ⟨c1, 0, none⟩), .pointer (some ⟨c2, 0, none⟩), .pointer (some ⟨c3, 0, none⟩), .pointer (some ⟨c4, 0, none⟩)] w fun e w' => e = .returned (.int .i64 (prodW CH KS (wpl W kh kw h v) C)) ∧ w.grownBy w' none := by
  have k1 := one_cell b1
  have k2 := one_cell b2
  have k3 := one_cell b3
  have k4 := one_cell b4
  have PW : Hid (∀ wx, w.grownBy wx none → Calls Tryz.prog 59 #[.slice (some ⟨B1, 0, none⟩) C C, .slice (some ⟨B2, K, none⟩) C N2, plV p1 p2 p3] wx fun e w' => e = .returned (.int .i64 (prodW CH KS (wpl W kh kw h v) C)) ∧ wx.grownBy w' none) := fun wx hx => by
    have h := product_win H kh W kw h v p1 p2 p3 B1 0 C B2 K N2 s1 s2 CH KS wx (hp.more hx) hh hv hW hH hL hKK (r1.more hx) (r2.more hx) (by rw [l1, l2]) hcl hkl (by omega) h0 h1
    rw [l1, l2] at h
    exact h
  have HW : Hid (IntKind.i64.wrap ((m : Int) * C) = (K : Int)) := by
    show _ = _
    rw [← Int.natCast_mul, ← hK]
    exact Vw.wrap_small (Int.natCast_nonneg _) (by omega)
  have e1 : ¬ N2 = 0 := by omega
  generalize prodW CH KS (wpl W kh kw h v) C = z at PW ⊢
  clear b1 b2 b3 b4 hp hh hv r1 r2 l1 l2 hcl hkl hK h0 h1 hL hKK
  unfold plV at PW ⊢
  go_enter Tryz.func58, Tryz.ntmps58
  go_upto_region 1 with fail
  have hw := HW.out
  refine wp_region_held_drew (S := fun w' => w.grownBy w' none) (by kernel_rfl) (grown_drew (grown_refl _)) (fun hHeld => ?_)
  refine wpAnyH_take (i := 0) (v := ?_) rfl (by kernel_rfl) (by kernel_rfl) (by kernel_rfl) (fun _ _ _ h => h) (Or.inl ⟨by kernel_rfl, ?_⟩) (by assumption) ?_
  rotate_left 1
  · (intro wS hSw; have c0 := cell_still k1 hSw; go_simp; (try with_reducible rfl))
  try simp only [Act.put]
  refine wpAnyH_take (i := 1) (v := ?_) rfl (by kernel_rfl) (by kernel_rfl) (by kernel_rfl) (fun _ _ _ h => h) (Or.inl ⟨by kernel_rfl, ?_⟩) (by assumption) ?_
  rotate_left 1
  · (intro wS hSw; have c0 := cell_still k2 hSw; go_simp; (try with_reducible rfl))
  try simp only [Act.put]
  refine wpAnyH_take (i := 2) (v := ?_) rfl (by kernel_rfl) (by kernel_rfl) (by kernel_rfl) (fun _ _ _ h => h) (Or.inl ⟨by kernel_rfl, ?_⟩) (by assumption) ?_
  rotate_left 1
  · (intro wS hSw; have c0 := cell_still k3 hSw; go_simp; (try with_reducible rfl))
  try simp only [Act.put]
  refine wpAnyH_take (i := 3) (v := ?_) rfl (by kernel_rfl) (by kernel_rfl) (by kernel_rfl) (fun _ _ _ h => h) (Or.inl ⟨by kernel_rfl, ?_⟩) (by assumption) ?_
  rotate_left 1
  · (intro wS hSw; have c0 := cell_still k4 hSw; go_simp; (try with_reducible rfl))
  try simp only [Act.put]
  refine wpAnyH_take (i := 4) (v := .int .i64 (K : Int)) rfl (by kernel_rfl) (by kernel_rfl) (by kernel_rfl) (fun _ _ _ h => h) (Or.inl ⟨by kernel_rfl, ?_⟩) (by assumption) ?_
  · (intro wS hSw; go_simp; (try simp only [hw]))
  try simp only [Act.put]
  clear hw
  refine wpAnyH_take (i := 5) (v := .slice (some ⟨B2, K, none⟩) N2 N2) rfl (by kernel_rfl) (by kernel_rfl) (by kernel_rfl) (fun _ _ _ h => h) (Or.inl ⟨by kernel_rfl, ?_⟩) (by assumption) ?_
  · (intro wS hSw; go_simp; (intro hx; exact absurd hx (by omega)))
  try simp only [Act.put]
  refine wpAnyH_take (i := 6) (v := ?_) rfl (by kernel_rfl) (by kernel_rfl) (by kernel_rfl) (fun _ _ _ h => h) (Or.inl ⟨by kernel_rfl, ?_⟩) (by assumption) ?_
  rotate_left 1
  · (intro wS hSw; have c0 := cell_still k4 hSw; go_simp; (try with_reducible rfl))
  try simp only [Act.put]
  refine wpAnyH_take (i := 7) (v := .slice (some ⟨B2, K, none⟩) C N2) rfl (by kernel_rfl) (by kernel_rfl) (by kernel_rfl) (fun _ _ _ h => h) (Or.inl ⟨by kernel_rfl, ?_⟩) (by assumption) ?_
  · (intro wS hSw; go_simp; (try rfl))
  try simp only [Act.put]
  refine wpAnyH_take (i := 8) (v := ?_) rfl (by kernel_rfl) (by kernel_rfl) (by kernel_rfl) (fun _ _ _ h => h) (Or.inl ⟨by kernel_rfl, ?_⟩) (by assumption) ?_
  rotate_left 1
  · (intro wS hSw; go_simp; (try with_reducible rfl))
  try simp only [Act.put]
  refine wpAnyH_ready (rs := [9]) (by kernel_rfl) (by simp) ?_
  refine AllReadyH.cons rfl (fun K hK => ?_) AllReadyH.nil
  go_simp
  refine (PW.out _ (grown_drew (grown_refl _))).mono ?_
  rintro e w1 ⟨rfl, hg1⟩
  have g1 : w.grownBy w1 none := ⟨hg1.os, hg1.tape, hg1.output, hg1.size, hg1.block⟩
  refine hK.out _ _ (g1) (fun hHeld => ?_)
  clear hK K
  try simp only [Act.put]
  refine wpAnyH_take (i := 10) (v := ?_) rfl (by kernel_rfl) (by kernel_rfl) (by kernel_rfl) (fun _ _ _ h => h) (Or.inl ⟨by kernel_rfl, ?_⟩) (by assumption) ?_
  rotate_left 1
  · (intro wS hSw; go_simp; (try with_reducible rfl))
  try simp only [Act.put]
  refine wpAnyH_done (by kernel_rfl) ?_ _
  go_simp
  go_wp2
  go_ret
  exact ⟨rfl, g1⟩

end Go.Proofs.YtkefdkboejimeaaGreatDoor
