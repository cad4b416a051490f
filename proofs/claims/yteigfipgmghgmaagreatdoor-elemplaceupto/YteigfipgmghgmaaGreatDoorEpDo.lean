/- elem.Do of any node and any tensors, told exactly (mkEpDo.py). -/
import Derived.Test.YteigfipgmghgmaaGreatDoorEpWk
import Derived.Test.YteigfipgmghgmaaGreatDoorElDo
import Derived.Test.YteigfipgmghgmaaGreatDoorEPure
namespace Go.Proofs.YteigfipgmghgmaaGreatDoor
open Go.RowKit

theorem wofx_1 (n : Nod) (hop : n.op ∈ ([⟨#[73, 100, 101, 110, 116, 105, 116, 121]⟩, ⟨#[78, 101, 103]⟩, ⟨#[65, 98, 115]⟩, ⟨#[78, 111, 116]⟩, ⟨#[82, 101, 108, 117]⟩, ⟨#[83, 113, 114, 116]⟩, ⟨#[70, 108, 111, 111, 114]⟩, ⟨#[69, 120, 112]⟩, ⟨#[83, 105, 103, 109, 111, 105, 100]⟩, ⟨#[84, 97, 110, 104]⟩] : List ByteArray)) (u : Sl) (ps : List (Ten × Tq)) (nam0 : ByteArray) (ty : Int) (dv : Sl) (w : World) (hv : TensIn w u.v ps) (hp : 0 < ps.length) (t0 : Int) (e0 : (ps[0]'hp).1.ty = t0) (hf : n.op ∈ ([⟨#[83, 113, 114, 116]⟩, ⟨#[70, 108, 111, 111, 114]⟩, ⟨#[69, 120, 112]⟩, ⟨#[83, 105, 103, 109, 111, 105, 100]⟩, ⟨#[84, 97, 110, 104]⟩] : List ByteArray) → t0 = 1) :
    Calls Tryz.prog 21 #[nval n, .slice u.a u.n u.c, .agg #[.string nam0, .int .i64 ty, .slice dv.a dv.n dv.c]] w (WofX (fun c => unX (k1 n.op) t0 (c.getD 0 0)) ps.length w) := by
  refine (wof_1 n hop u _ _ _ w).mono ?_
  rintro e w1 ⟨rfl, hg, hb1, hb2⟩
  obtain ⟨ub, uo, e1, e2, hh⟩ := tens_head hv hp
  refine ⟨_, _, rfl, hg, fun _ _ => by kernel_rfl, fun wy B xs hy hxl hxi => ?_⟩
  obtain ⟨x0, r0⟩ := ints_at hxi hxl 0 hp
  have k1 := box_kept hb1 hy
  have k2 := box_kept hb2 hy
  rw [e1] at k2
  have h0 := hh wy (grown_trans hg hy)
  rw [e0] at h0
  exact work1_x n _ _ _ B _ ub uo u.n u.c _ _ wy hp k1 k2 (by omega) h0 x0 (fun wx => un_x n.op hop _ _ r0 hf wx)

theorem wofx_2 (n : Nod) (k : Nat) (hk : kOf n.op = some k) (u : Sl) (ps : List (Ten × Tq)) (nam0 : ByteArray) (ty : Int) (dv : Sl) (w : World) (hv : TensIn w u.v ps) (hp : 1 < ps.length) (t0 : Int) (e0 : (ps[0]'(Nat.lt_of_succ_lt hp)).1.ty = t0) :
    Calls Tryz.prog 21 #[nval n, .slice u.a u.n u.c, .agg #[.string nam0, .int .i64 ty, .slice dv.a dv.n dv.c]] w (WofX (fun c => Nu.bin k t0 (c.getD 0 0) (c.getD 1 0)) ps.length w) := by
  refine (workof2_any n (kOf_12 hk) u _ _ _ w).mono ?_
  rintro e w1 ⟨rfl, hg, hb1, hb2⟩
  obtain ⟨ub, uo, e1, e2, hh⟩ := tens_head hv (Nat.lt_of_succ_lt hp)
  refine ⟨_, _, rfl, hg, fun _ _ => by kernel_rfl, fun wy B xs hy hxl hxi => ?_⟩
  obtain ⟨x0, r0⟩ := ints_at hxi hxl 0 (by omega)
  obtain ⟨x1, r1⟩ := ints_at hxi hxl 1 hp
  have k1 := box_kept hb1 hy
  have k2 := box_kept hb2 hy
  rw [e1] at k2
  have h0 := hh wy (grown_trans hg hy)
  rw [e0] at h0
  exact work2_x n k hk _ _ B _ ub uo u.n u.c _ _ _ wy hp k1 k2 (by omega) h0 x0 x1 r0 r1

theorem wofx_where (n : Nod) (hop : n.op = ⟨#[87, 104, 101, 114, 101]⟩) (u : Sl) (m : Nat) (nam0 : ByteArray) (ty : Int) (dv : Sl) (w : World) (hp : 2 < m) :
    Calls Tryz.prog 21 #[nval n, .slice u.a u.n u.c, .agg #[.string nam0, .int .i64 ty, .slice dv.a dv.n dv.c]] w (WofX (fun c => (if c.getD 0 0 = 1 then c.getD 1 0 else c.getD 2 0, 0)) m w) := by
  refine (wof_where n hop u _ _ _ w).mono ?_
  rintro e w1 ⟨rfl, hg⟩
  refine ⟨_, _, rfl, hg, fun _ _ => by kernel_rfl, fun wy B xs hy hxl hxi => ?_⟩
  obtain ⟨x0, -⟩ := ints_at hxi hxl 0 (by omega)
  obtain ⟨x1, r1⟩ := ints_at hxi hxl 1 (by omega)
  obtain ⟨x2, r2⟩ := ints_at hxi hxl 2 hp
  exact choose_x B m _ _ _ wy hp x0 x1 x2 r1 r2

theorem wofx_clip (n : Nod) (hop : n.op = ⟨#[67, 108, 105, 112]⟩) (xs : List Atr) (cs : List Cont) (u : Sl) (m : Nat) (nam0 : ByteArray) (ty : Int) (dv : Sl) (w : World) (hv : IsAttrs w n.av.v xs) (hc : ∀ (j : Nat) (a : Atr), xs[j]? = some a → ∃ c, cs[j]? = some c ∧ Has w a c) (hp : 0 < m) :
    Calls Tryz.prog 21 #[nval n, .slice u.a u.n u.c, .agg #[.string nam0, .int .i64 ty, .slice dv.a dv.n dv.c]] w (WofX (fun c => clX (bitsV xs ⟨#[109, 105, 110]⟩ 4286578688) (bitsV xs ⟨#[109, 97, 120]⟩ 2139095040) (c.getD 0 0)) m w) := by
  refine (wof_clip n hop xs cs u _ _ _ w hv hc).mono ?_
  rintro e w1 ⟨p1, p2, rfl, hg, hb1, hb2⟩
  refine ⟨_, _, rfl, hg, fun _ _ => by kernel_rfl, fun wy B xs hy hxl hxi => ?_⟩
  obtain ⟨x0, -⟩ := ints_at hxi hxl 0 hp
  exact clip_x B m p1 p2 _ _ _ wy hp (box_kept hb1 hy) (box_kept hb2 hy) x0

theorem wofx_cast (n : Nod) (hop : n.op = ⟨#[67, 97, 115, 116]⟩) (u : Sl) (ps : List (Ten × Tq)) (nam0 : ByteArray) (ty : Int) (dv : Sl) (w : World) (hv : TensIn w u.v ps) (hp : 0 < ps.length) (t0 : Int) (e0 : (ps[0]'hp).1.ty = t0) :
    Calls Tryz.prog 21 #[nval n, .slice u.a u.n u.c, .agg #[.string nam0, .int .i64 ty, .slice dv.a dv.n dv.c]] w (WofX (fun c => Nu.cst t0 ty (c.getD 0 0)) ps.length w) := by
  refine (wof_cast n hop u _ _ _ w).mono ?_
  rintro e w1 ⟨rfl, hg, hb1, hb2⟩
  obtain ⟨ub, uo, e1, e2, hh⟩ := tens_head hv hp
  refine ⟨_, _, rfl, hg, fun _ _ => by kernel_rfl, fun wy B xs hy hxl hxi => ?_⟩
  obtain ⟨x0, r0⟩ := ints_at hxi hxl 0 hp
  have k1 := box_kept hb1 hy
  have k2 := box_kept hb2 hy
  rw [e1] at k1
  have h0 := hh wy (grown_trans hg hy)
  rw [e0] at h0
  exact cast_x _ _ B _ ub uo u.n u.c _ _ _ ty _ wy hp k1 k2 (by omega) h0 x0 r0

theorem made_xof (n : Nod) (u : Sl) (ps : List (Ten × Tq)) (nam0 : ByteArray) (ty : Int) (dv : Sl) (l : List Int) (F : List Int → Int × Int) (w : World) (hv : TensIn w u.v ps) (hp0 : 0 < ps.length) (hp1 : ps.length ≤ 1000) (hd : IsInts w dv.v l) (hc : cntE l = 0)
    (WO : ∀ wx, w.grownBy wx none → Calls Tryz.prog 21 #[nval n, .slice u.a u.n u.c, .agg #[.string nam0, .int .i64 ty, .slice dv.a dv.n dv.c]] wx (WofX F ps.length wx)) :
    Calls Tryz.prog 14 #[nval n, .slice u.a u.n u.c, .agg #[.string nam0, .int .i64 ty, .slice dv.a dv.n dv.c]] w (EvQ w (madeR F ps l (prod l).toNat)) :=
  made_all n u ps nam0 ty dv l F (prod l).toNat w hv hp0 hp1 hd (by have := (fine_of hc).le; omega) (fun p hp ha => (asL_len (by simpa [asOk] using ha)).1) WO

/-- What elem makes of any tensors of these types. -/
def MadeX (n : Nod) (ins : List ByteArray) (A : At) (ts : List Int) (ty : Int) (F : List Int → Int × Int) : Prop := ∀ (u : Sl) (ps : List (Ten × Tq)) (nam0 : ByteArray) (dv : Sl) (l : List Int) (w : World), NodeAll w n ins A → TensIn w u.v ps → ps.length ≤ 1000 → IsInts w dv.v l → cntE l = 0 → ps.map (·.1.ty) = ts →
    Calls Tryz.prog 14 #[nval n, .slice u.a u.n u.c, .agg #[.string nam0, .int .i64 ty, .slice dv.a dv.n dv.c]] w (EvQ w (madeR F ps l (prod l).toNat))

theorem ty_at {ps : List (Ten × Tq)} {ts : List Int} (h : ps.map (·.1.ty) = ts) (i : Nat) (hi : i < ps.length) : (ps[i]'hi).1.ty = ts.getD i 0 := by
  subst h
  rw [List.getD, List.getElem?_map, List.getElem?_eq_getElem hi]
  rfl

/-- The operator is one of elem's. -/
def ElOp (n : Nod) : Prop := (grp n.op).2 = 1 ∨ (grp n.op).2 = 2 ∨ (grp n.op).2 = 3

theorem made_x (n : Nod) (ins : List ByteArray) (A : At) (ts : List Int) (ty : Int) (hop : A.op = n.op) (hchk : checkF (ruleF n.op) n.op ins n.out A.xs A.cs = 0) (hlen : ts.length = ins.length) (ht : typeG A ts (grp n.op).1 = .ok ty) :
    (ElOp n ∧ 0 < ts.length ∧ ∃ F, MadeX n ins A ts ty F) ∨ (∀ (u : Sl) (nam0 : ByteArray) (dv : Sl) (w : World), Calls Tryz.prog 14 #[nval n, .slice u.a u.n u.c, .agg #[.string nam0, .int .i64 ty, .slice dv.a dv.n dv.c]] w (EvQ w (.error 5))) := by
  obtain ⟨R0, hR, e1, e2, -⟩ := checkF_zero hchk
  obtain ⟨a1, a2, a3, a4, a5⟩ := ar_all R0 hR
  rw [e1] at a1 a2 a3 a4 a5
  by_cases h1 : n.op ∈ ([⟨#[73, 100, 101, 110, 116, 105, 116, 121]⟩, ⟨#[78, 101, 103]⟩, ⟨#[65, 98, 115]⟩, ⟨#[78, 111, 116]⟩, ⟨#[82, 101, 108, 117]⟩, ⟨#[83, 113, 114, 116]⟩, ⟨#[70, 108, 111, 111, 114]⟩, ⟨#[69, 120, 112]⟩, ⟨#[83, 105, 103, 109, 111, 105, 100]⟩, ⟨#[84, 97, 110, 104]⟩] : List ByteArray)
  · obtain ⟨g, hm⟩ := grp_1 h1
    have hp : 0 < ts.length := by have := a1 hm; omega
    rw [g] at ht
    have et : ts.getD 0 0 = ty ∧ oneOK A.op.toList ty = true := by
      cases ts with
      | nil => cases hp
      | cons t q =>
        obtain ⟨t', q1, q2⟩ := bind_ok ht
        obtain ⟨b, q3, q4⟩ := bind_ok q2
        cases q4
        exact ⟨(same_head q1).1.symm, must_ok q3⟩
    rw [hop] at et
    refine .inl ⟨?_, hp, fun c => unX (k1 n.op) (ts.getD 0 0) (c.getD 0 0), fun u ps nam0 dv l w hn hv hp1 hd hc hts => ?_⟩
    · simp only [List.mem_cons, List.not_mem_nil, or_false] at h1
      rcases h1 with h | h | h | h | h | h | h | h | h | h <;> exact .inl (by rw [h]; kernel_rfl)
    · have hpl : ps.length = ts.length := by rw [← hts, List.length_map]
      exact made_xof n u ps nam0 ty dv l _ w hv (by omega) hp1 hd hc (fun wx hx => wofx_1 n h1 u ps nam0 ty dv wx (hv.more hx) (by omega) _ (ty_at hts 0 (by omega)) (fun hf => et.1.trans (float_one hf et.2)))
  · cases hk : kOf n.op with
    | some k =>
      obtain ⟨g, hm⟩ := grp_2 hk
      have hp : 1 < ts.length := by have := a2 hm; omega
      refine .inl ⟨?_, by omega, fun c => Nu.bin k (ts.getD 0 0) (c.getD 0 0) (c.getD 1 0), fun u ps nam0 dv l w hn hv hp1 hd hc hts => ?_⟩
      · have h12 := kOf_12 hk
        simp only [List.mem_cons, List.not_mem_nil, or_false] at h12
        rcases h12 with h | h | h | h | h | h | h | h | h | h | h | h <;> exact .inr (.inl (by rw [h]; kernel_rfl))
      · have hpl : ps.length = ts.length := by rw [← hts, List.length_map]
        exact made_xof n u ps nam0 ty dv l _ w hv (by omega) hp1 hd hc (fun wx hx => wofx_2 n k hk u ps nam0 ty dv wx (hv.more hx) (by omega) _ (ty_at hts 0 (by omega)))
    | none =>
      by_cases h2 : n.op = ⟨#[87, 104, 101, 114, 101]⟩
      · have hp : 2 < ts.length := by have := a3 (by rw [h2, bytes_toList]); omega
        refine .inl ⟨.inr (.inr (by rw [h2]; kernel_rfl)), by omega, fun c => (if c.getD 0 0 = 1 then c.getD 1 0 else c.getD 2 0, 0), fun u ps nam0 dv l w hn hv hp1 hd hc hts => ?_⟩
        have hpl : ps.length = ts.length := by rw [← hts, List.length_map]
        exact made_xof n u ps nam0 ty dv l _ w hv (by omega) hp1 hd hc (fun wx hx => wofx_where n h2 u ps.length nam0 ty dv wx (by omega))
      · by_cases h3 : n.op = ⟨#[67, 108, 105, 112]⟩
        · have hp : 0 < ts.length := by have := a4 (by rw [h3, bytes_toList]); omega
          refine .inl ⟨.inl (by rw [h3]; kernel_rfl), hp, fun c => clX (bitsV A.xs ⟨#[109, 105, 110]⟩ 4286578688) (bitsV A.xs ⟨#[109, 97, 120]⟩ 2139095040) (c.getD 0 0), fun u ps nam0 dv l w hn hv hp1 hd hc hts => ?_⟩
          have hpl : ps.length = ts.length := by rw [← hts, List.length_map]
          exact made_xof n u ps nam0 ty dv l _ w hv (by omega) hp1 hd hc (fun wx hx => wofx_clip n h3 A.xs A.cs u ps.length nam0 ty dv wx (hn.more hx).node.av (hn.more hx).node.has (by omega))
        · by_cases h4 : n.op = ⟨#[67, 97, 115, 116]⟩
          · have hp : 0 < ts.length := by have := a5 (by rw [h4, bytes_toList]); omega
            refine .inl ⟨.inl (by rw [h4]; kernel_rfl), hp, fun c => Nu.cst (ts.getD 0 0) ty (c.getD 0 0), fun u ps nam0 dv l w hn hv hp1 hd hc hts => ?_⟩
            have hpl : ps.length = ts.length := by rw [← hts, List.length_map]
            exact made_xof n u ps nam0 ty dv l _ w hv (by omega) hp1 hd hc (fun wx hx => wofx_cast n h4 u ps nam0 ty dv wx (hv.more hx) (by omega) _ (ty_at hts 0 (by omega)))
          · refine .inr fun u nam0 dv w => made_no n ?_ u nam0 ty dv w
            intro hm
            have hk2 : n.op.toList ∉ names2 := List.idxOf?_eq_none_iff.1 hk
            simp only [names2, List.mem_cons, List.not_mem_nil, or_false, not_or] at hm h1 hk2
            have nb : ∀ z : ByteArray, n.op ≠ z → n.op.toList ≠ z.data.toList := fun z hz e => hz (bytes_injE (by rw [e, bytes_toList]))
            obtain ⟨x0, x1, x2, x3, x4, x5, x6, x7, x8, x9⟩ := h1
            obtain ⟨y0, y1, y2, y3, y4, y5, y6, y7, y8, y9, y10, y11⟩ := hk2
            rcases hm with e | e | e | e | e | e | e | e | e | e | e | e | e | e | e | e | e | e | e | e | e | e | e | e | e
            · exact nb _ x0 e
            · exact nb _ x1 e
            · exact nb _ x2 e
            · exact nb _ x3 e
            · exact nb _ x4 e
            · exact nb _ x5 e
            · exact nb _ x6 e
            · exact nb _ x7 e
            · exact nb _ x8 e
            · exact nb _ x9 e
            · exact y0 e
            · exact y1 e
            · exact y2 e
            · exact y3 e
            · exact y4 e
            · exact y5 e
            · exact y6 e
            · exact y7 e
            · exact y8 e
            · exact y9 e
            · exact y10 e
            · exact y11 e
            · exact nb _ h2 e
            · exact nb _ h3 e
            · exact nb _ h4 e

/-- elem.Do of any tensors of these types. -/
def DoX (n : Nod) (ins : List ByteArray) (A : At) (ts : List Int) (M : List (Ten × Tq) → List Int → R (List Int)) : Prop := ∀ (u : Sl) (ps : List (Ten × Tq)) (w : World), Laid w → NodeAll w n ins A → TensIn w u.v ps → ps.length ≤ 1000 → ps.map (·.1.ty) = ts →
    Calls Tryz.prog 8 #[nval n, .slice u.a u.n u.c] w (DoQ w (doR (nodeP ps (outF n ins A (ps.map tvOf))) (M ps)))

theorem do_x (n : Nod) (ins : List ByteArray) (A : At) (ts : List Int) (M : List (Ten × Tq) → List Int → R (List Int)) (hM : ∀ ps l, Nz (M ps l))
    (MC : ∀ (u : Sl) (ps : List (Ten × Tq)) (nam0 : ByteArray) (ty : Int) (dv : Sl) (l : List Int) (w : World), NodeAll w n ins A → TensIn w u.v ps → ps.length ≤ 1000 → IsInts w dv.v l → ps.map (·.1.ty) = ts → ps.all okT = true → OutOk n ins A (ps.map tvOf) (ty, l) → Calls Tryz.prog 14 #[nval n, .slice u.a u.n u.c, .agg #[.string nam0, .int .i64 ty, .slice dv.a dv.n dv.c]] w (EvQ w (M ps l))) : DoX n ins A ts M := by
  intro u ps w hl hn hv hp1 hts
  refine edo_any _ u _ w fun wx hx => bdo_any _ u _ _ wx (nz_node fun c h => outF_err h) (hM ps) (fun wy hy => ?_) (fun wy ty dv l hy hr hd => ?_)
  · refine bnode_any n u ps _ wy (hv.more (grown_trans hx hy)) (by omega) fun wz s vs hz hvs h1 h2 => ?_
    have key := out_of n ins A s vs wz (hl.more (grown_trans (grown_trans hx hy) hz)) (hn.more (grown_trans (grown_trans hx hy) hz)) hvs
    rw [outF_same (us := ps.map tvOf) (by rw [h1, List.map_map]; rfl) (by rw [h2, List.map_map]; rfl)] at key
    exact key
  · obtain ⟨hok, hr⟩ := node_inv hr
    exact MC u ps n.out ty dv l wy (hn.more (grown_trans hx hy)) (hv.more (grown_trans hx hy)) hp1 hd hts hok (outF_ok hr)

/-- elem.Do, of one and the same node, whatever the tensors of these types hold. -/
theorem elem_x (n : Nod) (ins : List ByteArray) (A : At) (ps0 : List (Ten × Tq)) (ty : Int) (l0 : List Int) (hop : A.op = n.op) (ok : OutOk n ins A (ps0.map tvOf) (ty, l0)) :
    (ElOp n ∧ 0 < ps0.length ∧ ∃ F, DoX n ins A (ps0.map (·.1.ty)) (fun ps l => madeR F ps l (prod l).toNat)) ∨ DoX n ins A (ps0.map (·.1.ty)) (fun _ _ => .error 5) := by
  have ht := ok.typ
  rw [tys_of] at ht
  have hl : (ps0.map (·.1.ty)).length = ins.length := by
    have := ok.len
    rw [List.length_map] at this ⊢
    exact this
  rcases made_x n ins A (ps0.map (·.1.ty)) ty hop ok.chk hl ht with ⟨h1, h2, F, hF⟩ | hE
  · refine .inl ⟨h1, by rw [List.length_map] at h2; exact h2, F, do_x n ins A _ _ (fun ps l => nz_made _ _ _ _) fun u ps nam0 ty' dv l w hn hv hp1 hd hts hok ok' => ?_⟩
    have ht' := ok'.typ
    rw [tys_of, hts, ht] at ht'
    cases ht'
    exact hF u ps nam0 dv l w hn hv hp1 hd ok'.cnt hts
  · refine .inr (do_x n ins A _ _ (fun ps l c h => by cases h; decide) fun u ps nam0 ty' dv l w hn hv hp1 hd hts hok ok' => ?_)
    have ht' := ok'.typ
    rw [tys_of, hts, ht] at ht'
    cases ht'
    exact hE u nam0 dv w
end Go.Proofs.YteigfipgmghgmaaGreatDoor
