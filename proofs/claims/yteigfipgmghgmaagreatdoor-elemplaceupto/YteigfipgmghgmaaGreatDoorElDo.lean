/- elem.Do of any node and any tensors: what comes out may be (mkElDo.py). -/
import Derived.Test.YteigfipgmghgmaaGreatDoorElWf
namespace Go.Proofs.YteigfipgmghgmaaGreatDoor
open Go.RowKit

theorem tens_head {w : World} {u : Sl} {ps : List (Ten × Tq)} (hv : TensIn w u.v ps) (hp : 0 < ps.length) : ∃ ub uo : Nat, u.a = some ⟨ub, uo, none⟩ ∧ u.n = ps.length ∧ ∀ wy, w.grownBy wy none → wy.cell? ⟨ub, uo, none⟩ = some (.int .i64 (ps[0]'hp).1.ty) := by
  obtain ⟨ua, un, uc⟩ := u
  obtain ⟨ub, uo, rfl⟩ := hv.vals.addr (k := 0) (by simpa using hp)
  obtain ⟨xa, xc, e1, -⟩ := hv.vals.form
  simp only [Sl.v, List.length_map, Value.slice.injEq] at e1
  obtain ⟨-, rfl, -⟩ := e1
  exact ⟨ub, uo, rfl, rfl, fun wy hy => by have := ((hv.more hy).at 0 hp).1; simpa using this⟩

theorem ints_at {w : World} {B m : Nat} {xs : List Int} (h : IsInts w (.slice (some ⟨B, 0, none⟩) m m) xs) (hl : xs.length = m) (i : Nat) (hi : i < m) : w.cell? ⟨B, i, none⟩ = some (.int .i64 (xs.getD i 0)) ∧ W64 (xs.getD i 0) := by
  obtain ⟨zb, zo, ez, hc⟩ := h.get (k := 0) (by omega)
  cases ez
  exact ⟨by simpa using hc i (by omega), h.wf _ (getDm (by omega))⟩

theorem wofq_1 (n : Nod) (hop : n.op ∈ ([⟨#[73, 100, 101, 110, 116, 105, 116, 121]⟩, ⟨#[78, 101, 103]⟩, ⟨#[65, 98, 115]⟩, ⟨#[78, 111, 116]⟩, ⟨#[82, 101, 108, 117]⟩, ⟨#[83, 113, 114, 116]⟩, ⟨#[70, 108, 111, 111, 114]⟩, ⟨#[69, 120, 112]⟩, ⟨#[83, 105, 103, 109, 111, 105, 100]⟩, ⟨#[84, 97, 110, 104]⟩] : List ByteArray)) (u : Sl) (ps : List (Ten × Tq)) (nam0 : ByteArray) (ty : Int) (dv : Sl) (w : World) (hv : TensIn w u.v ps) (hp : 0 < ps.length) (hf : n.op ∈ ([⟨#[83, 113, 114, 116]⟩, ⟨#[70, 108, 111, 111, 114]⟩, ⟨#[69, 120, 112]⟩, ⟨#[83, 105, 103, 109, 111, 105, 100]⟩, ⟨#[84, 97, 110, 104]⟩] : List ByteArray) → (ps[0]'hp).1.ty = 1) :
    Calls Tryz.prog 21 #[nval n, .slice u.a u.n u.c, .agg #[.string nam0, .int .i64 ty, .slice dv.a dv.n dv.c]] w (WofQ (fun _ y => Nu.chk (ps[0]'hp).1.ty y = true) ps.length w) := by
  refine (wof_1 n hop u _ _ _ w).mono ?_
  rintro e w1 ⟨rfl, hg, hb1, hb2⟩
  obtain ⟨ub, uo, e1, e2, hh⟩ := tens_head hv hp
  refine ⟨_, _, rfl, hg, fun _ _ => by kernel_rfl, fun wy B xs hy hxl hxi => ?_⟩
  obtain ⟨x0, r0⟩ := ints_at hxi hxl 0 hp
  have k1 := box_kept hb1 hy
  have k2 := box_kept hb2 hy
  rw [e1] at k2
  exact work1_rel n _ _ _ B _ ub uo u.n u.c _ _ wy hp k1 k2 (by omega) (hh wy (grown_trans hg hy)) x0 (fun wx => un_rel n.op hop _ _ r0 hf wx)

theorem wofq_2 (n : Nod) (k : Nat) (hk : kOf n.op = some k) (u : Sl) (ps : List (Ten × Tq)) (nam0 : ByteArray) (ty : Int) (dv : Sl) (w : World) (hv : TensIn w u.v ps) (hp : 1 < ps.length) :
    Calls Tryz.prog 21 #[nval n, .slice u.a u.n u.c, .agg #[.string nam0, .int .i64 ty, .slice dv.a dv.n dv.c]] w (WofQ (fun _ y => Nu.chk (outT k (ps[0]'(Nat.lt_of_succ_lt hp)).1.ty) y = true) ps.length w) := by
  refine (workof2_any n (kOf_12 hk) u _ _ _ w).mono ?_
  rintro e w1 ⟨rfl, hg, hb1, hb2⟩
  obtain ⟨ub, uo, e1, e2, hh⟩ := tens_head hv (Nat.lt_of_succ_lt hp)
  refine ⟨_, _, rfl, hg, fun _ _ => by kernel_rfl, fun wy B xs hy hxl hxi => ?_⟩
  obtain ⟨x0, r0⟩ := ints_at hxi hxl 0 (by omega)
  obtain ⟨x1, r1⟩ := ints_at hxi hxl 1 hp
  have k1 := box_kept hb1 hy
  have k2 := box_kept hb2 hy
  rw [e1] at k2
  exact work2_rel n k hk _ _ B _ ub uo u.n u.c _ _ _ wy hp k1 k2 (by omega) (hh wy (grown_trans hg hy)) x0 x1 r0 r1

theorem wofq_where (n : Nod) (hop : n.op = ⟨#[87, 104, 101, 114, 101]⟩) (u : Sl) (m : Nat) (nam0 : ByteArray) (ty : Int) (dv : Sl) (w : World) (hp : 2 < m) :
    Calls Tryz.prog 21 #[nval n, .slice u.a u.n u.c, .agg #[.string nam0, .int .i64 ty, .slice dv.a dv.n dv.c]] w (WofQ (fun xs y => y = xs.getD 1 0 ∨ y = xs.getD 2 0) m w) := by
  refine (wof_where n hop u _ _ _ w).mono ?_
  rintro e w1 ⟨rfl, hg⟩
  refine ⟨_, _, rfl, hg, fun _ _ => by kernel_rfl, fun wy B xs hy hxl hxi => ?_⟩
  obtain ⟨x0, -⟩ := ints_at hxi hxl 0 (by omega)
  obtain ⟨x1, r1⟩ := ints_at hxi hxl 1 (by omega)
  obtain ⟨x2, r2⟩ := ints_at hxi hxl 2 hp
  exact choose_rel B m _ _ _ wy hp x0 x1 x2 r1 r2

theorem wofq_clip (n : Nod) (hop : n.op = ⟨#[67, 108, 105, 112]⟩) (xs : List Atr) (cs : List Cont) (u : Sl) (m : Nat) (nam0 : ByteArray) (ty : Int) (dv : Sl) (w : World) (hv : IsAttrs w n.av.v xs) (hc : ∀ (j : Nat) (a : Atr), xs[j]? = some a → ∃ c, cs[j]? = some c ∧ Has w a c) (hp : 0 < m) :
    Calls Tryz.prog 21 #[nval n, .slice u.a u.n u.c, .agg #[.string nam0, .int .i64 ty, .slice dv.a dv.n dv.c]] w (WofQ (fun _ y => Nu.chk 1 y = true) m w) := by
  refine (wof_clip n hop xs cs u _ _ _ w hv hc).mono ?_
  rintro e w1 ⟨p1, p2, rfl, hg, hb1, hb2⟩
  refine ⟨_, _, rfl, hg, fun _ _ => by kernel_rfl, fun wy B xs hy hxl hxi => ?_⟩
  obtain ⟨x0, -⟩ := ints_at hxi hxl 0 hp
  exact clip_rel B m p1 p2 _ _ _ wy hp (box_kept hb1 hy) (box_kept hb2 hy) x0

theorem wofq_cast (n : Nod) (hop : n.op = ⟨#[67, 97, 115, 116]⟩) (u : Sl) (ps : List (Ten × Tq)) (nam0 : ByteArray) (ty : Int) (dv : Sl) (w : World) (hv : TensIn w u.v ps) (hp : 0 < ps.length) :
    Calls Tryz.prog 21 #[nval n, .slice u.a u.n u.c, .agg #[.string nam0, .int .i64 ty, .slice dv.a dv.n dv.c]] w (WofQ (fun _ y => Nu.chk ty y = true) ps.length w) := by
  refine (wof_cast n hop u _ _ _ w).mono ?_
  rintro e w1 ⟨rfl, hg, hb1, hb2⟩
  obtain ⟨ub, uo, e1, e2, hh⟩ := tens_head hv hp
  refine ⟨_, _, rfl, hg, fun _ _ => by kernel_rfl, fun wy B xs hy hxl hxi => ?_⟩
  obtain ⟨x0, r0⟩ := ints_at hxi hxl 0 hp
  have k1 := box_kept hb1 hy
  have k2 := box_kept hb2 hy
  rw [e1] at k1
  exact cast_rel _ _ B _ ub uo u.n u.c _ _ _ ty _ wy hp k1 k2 (by omega) (hh wy (grown_trans hg hy)) x0 r0

set_option maxRecDepth 100000 in
set_option maxHeartbeats 8000000 in
/-- What is none of elem's is not made. -/
theorem made_no (n : Nod) (hop : n.op.toList ∉ ([[73, 100, 101, 110, 116, 105, 116, 121], [78, 101, 103], [65, 98, 115], [78, 111, 116], [82, 101, 108, 117], [83, 113, 114, 116], [70, 108, 111, 111, 114], [69, 120, 112], [83, 105, 103, 109, 111, 105, 100], [84, 97, 110, 104], [65, 100, 100], [83, 117, 98], [77, 117, 108], [68, 105, 118], [77, 97, 120], [77, 105, 110], [65, 110, 100], [79, 114], [88, 111, 114], [69, 113, 117, 97, 108], [76, 101, 115, 115], [71, 114, 101, 97, 116, 101, 114], [87, 104, 101, 114, 101], [67, 108, 105, 112], [67, 97, 115, 116]] : List (List UInt8))) (u : Sl) (nam0 : ByteArray) (ty : Int) (dv : Sl) (w : World) :
    Calls Tryz.prog 14 #[nval n, .slice u.a u.n u.c, .agg #[.string nam0, .int .i64 ty, .slice dv.a dv.n dv.c]] w (EvQ w (.error 5)) := by
  have WN := hide (fun (wx : World) => wof_none n hop u (.string nam0) (.int .i64 ty) (.slice dv.a dv.n dv.c) wx)
  clear hop
  obtain ⟨op, nam, ⟨ia, il, ic⟩, out, ⟨ao, al, cap⟩⟩ := n
  obtain ⟨ua, un, uc⟩ := u
  obtain ⟨da, dn, dc⟩ := dv
  unfold nval at WN ⊢
  simp only at WN ⊢
  obtain ⟨w0, hw0⟩ : ∃ w0, w0 = (w.alloc (.cells #[.string op, .string nam, .slice ia il ic, .string out, .slice ao al cap] 25)).alloc (.cells #[.string nam0, .int .i64 ty, .slice da dn dc] 53) := ⟨_, rfl⟩
  have g0 : Hid (w.grownBy w0 none) := by show w.grownBy w0 none; rw [hw0]; exact grown_trans (grown_new _ _) (grown_new _ _)
  go_enter Tryz.func14, Tryz.ntmps14
  go_wp2_with fail
  rw [← hw0]
  clear hw0
  refine (WN.out w0).mono ?_
  rintro e w1 ⟨rfl, hg1⟩
  have hbo : ∀ wx, (binOp .eql 58 .nilFunc .nilFunc).run Tryz.prog wx = .ok (.bool true) wx := fun wx => by rfl
  go_wp2
  go_ret2
  exact ⟨grown_trans g0.out hg1, rfl⟩

/-- What may come out: an element of the type each, as many as the dims say. -/
def MayK (ty : Int) (l : List Int) (r : R (List Int)) : Prop := match r with
  | .ok zs => pbE ty l zs = 0
  | .error c => c ≠ 0

theorem may_ok {ty : Int} {l zs : List Int} (hc : cntE l = 0) (hl : zs.length = (prod l).toNat) (hz : ∀ j, j < zs.length → Nu.chk ty (zs.getD j 0) = true) : pbE ty l zs = 0 := by
  have hp : 1 ≤ prod l := prod_pos l (fine_of hc).pos
  have h0 := Nu.chk_types ty _ (hz 0 (by omega))
  have h1 : chk ty 0 = true := by rcases h0 with rfl | rfl | rfl | rfl <;> decide
  unfold pbE
  rw [if_neg (by simp [h1]), if_neg (by simp [hc]), if_neg (by unfold cnt; rw [if_pos hc]; omega), if_pos]
  rw [List.all_eq_true]
  intro z hm
  obtain ⟨j, hj, rfl⟩ := List.mem_iff_getElem.1 hm
  have := hz j hj
  rw [List.getD, List.getElem?_eq_getElem hj] at this
  exact this

theorem okT_inv {p : Ten × Tq} (h : okT p = true) : chk p.1.ty 0 = true ∧ ∀ z ∈ p.2.2, Nu.chk p.1.ty z = true := by
  have h0 : pbE p.1.ty p.2.1 p.2.2 = 0 := by simpa [okT] using h
  unfold pbE at h0
  split at h0
  · omega
  · rename_i h1
    split at h0
    · rename_i h2; exact absurd h0 h2
    · split at h0
      · omega
      · split at h0
        · rename_i h4
          exact ⟨by simpa using h1, List.all_eq_true.1 h4⟩
        · omega

theorem col_chk {l : List Int} {p : Ten × Tq} (h : okT p = true) (j : Nat) : Nu.chk p.1.ty ((colP l p).getD j 0) = true := by
  obtain ⟨h0, h1⟩ := okT_inv h
  have key : ∀ (xs : List Int), (∀ z ∈ xs, Nu.chk p.1.ty z = true) → ∀ i, Nu.chk p.1.ty (xs.getD i 0) = true := by
    intro xs hx i
    by_cases hi : i < xs.length
    · exact hx _ (getDm hi)
    · rw [List.getD, List.getElem?_eq_none (by omega)]; exact h0
  refine key _ ?_ j
  unfold colP asL Vw.rdL Vw.shows
  split
  · split
    · intro z hz
      obtain ⟨x, -, rfl⟩ := List.mem_map.1 hz
      exact key _ h1 _
    · intro z hz; cases hz
  · intro z hz; cases hz

theorem col_getD {ps : List (Ten × Tq)} {l : List Int} (i j : Nat) (hi : i < ps.length) : (colL (ps.map (colP l)) j).getD i 0 = (colP l ps[i]).getD j 0 := by
  unfold colL
  rw [List.getD, List.getElem?_map, List.getElem?_map, List.getElem?_eq_getElem hi]
  rfl

theorem ev_of {w w' : World} {P : List Int → Int → Prop} {cols : List (List Int)} {N : Nat} {e : Ending} {K : R (List Int) → Prop} (h : EvS w P cols N e w') (he : ∀ c, c ≠ 0 → K (.error c)) (hK : ∀ zs, zs.length = N → (∀ j, j < N → P (colL cols j) (zs.getD j 0)) → K (.ok zs)) : ∃ r, K r ∧ EvQ w r e w' := by
  obtain ⟨hg, ⟨c, hc, rfl⟩ | ⟨u, zs, rfl, ho, hl, hz⟩⟩ := h
  · exact ⟨.error c, he c hc, hg, rfl⟩
  · exact ⟨.ok zs, hK zs hl hz, hg, u, rfl, ho⟩

theorem made_cls (n : Nod) (u : Sl) (ps : List (Ten × Tq)) (nam0 : ByteArray) (ty : Int) (dv : Sl) (l : List Int) (P : List Int → Int → Prop) (w : World) (hv : TensIn w u.v ps) (hp0 : 0 < ps.length) (hp1 : ps.length ≤ 1000) (hd : IsInts w dv.v l) (hc : cntE l = 0)
    (WO : ∀ wx, w.grownBy wx none → Calls Tryz.prog 21 #[nval n, .slice u.a u.n u.c, .agg #[.string nam0, .int .i64 ty, .slice dv.a dv.n dv.c]] wx (WofQ P ps.length wx)) (hP : ∀ j y, P (colL (ps.map (colP l)) j) y → Nu.chk ty y = true) :
    Calls Tryz.prog 14 #[nval n, .slice u.a u.n u.c, .agg #[.string nam0, .int .i64 ty, .slice dv.a dv.n dv.c]] w fun e w' => ∃ r, MayK ty l r ∧ EvQ w r e w' := by
  refine (made_any n u ps nam0 ty dv l P (prod l).toNat w hv hp0 hp1 hd (by have := (fine_of hc).le; omega) (fun p hp ha => (asL_len (by simpa [asOk] using ha)).1) WO).mono fun e w' h => ?_
  exact ev_of (K := MayK ty l) h (fun c hc => hc) fun zs hz1 hz2 => may_ok hc hz1 fun j hj => hP j _ (hz2 j (by omega))

set_option maxRecDepth 100000 in
theorem ar_all : ∀ r ∈ rules, (r.1 ∈ ([[73, 100, 101, 110, 116, 105, 116, 121], [78, 101, 103], [65, 98, 115], [78, 111, 116], [82, 101, 108, 117], [83, 113, 114, 116], [70, 108, 111, 111, 114], [69, 120, 112], [83, 105, 103, 109, 111, 105, 100], [84, 97, 110, 104]] : List (List UInt8)) → 1 ≤ r.2.1) ∧ (r.1 ∈ names2 → 2 ≤ r.2.1) ∧ (r.1 = [87, 104, 101, 114, 101] → 3 ≤ r.2.1) ∧ (r.1 = [67, 108, 105, 112] → 1 ≤ r.2.1) ∧ (r.1 = [67, 97, 115, 116] → 1 ≤ r.2.1) := by decide +kernel

theorem same_head {t : Int} {l : List Int} {a : Int} (h : sameP (t :: l) = .ok a) : a = t ∧ ∀ s ∈ l, s = t := by
  have h' : (if l.all (fun s => s == t) = true then (.ok t : R Int) else .error 4) = .ok a := h
  by_cases h1 : l.all (fun s => s == t) = true
  · rw [if_pos h1] at h'
    cases h'
    exact ⟨rfl, by simpa using h1⟩
  · rw [if_neg h1] at h'
    cases h'

theorem float_one {op : ByteArray} {t : Int} (hop : op ∈ ([⟨#[83, 113, 114, 116]⟩, ⟨#[70, 108, 111, 111, 114]⟩, ⟨#[69, 120, 112]⟩, ⟨#[83, 105, 103, 109, 111, 105, 100]⟩, ⟨#[84, 97, 110, 104]⟩] : List ByteArray)) (h : oneOK op.toList t = true) : t = 1 := by
  simp only [List.mem_cons, List.not_mem_nil, or_false] at hop
  rcases hop with rfl | rfl | rfl | rfl | rfl <;> rw [bytes_toList] at h <;> simp [oneOK] at h <;> exact h

theorem grp_1 {op : ByteArray} (hop : op ∈ ([⟨#[73, 100, 101, 110, 116, 105, 116, 121]⟩, ⟨#[78, 101, 103]⟩, ⟨#[65, 98, 115]⟩, ⟨#[78, 111, 116]⟩, ⟨#[82, 101, 108, 117]⟩, ⟨#[83, 113, 114, 116]⟩, ⟨#[70, 108, 111, 111, 114]⟩, ⟨#[69, 120, 112]⟩, ⟨#[83, 105, 103, 109, 111, 105, 100]⟩, ⟨#[84, 97, 110, 104]⟩] : List ByteArray)) : (grp op).1 = 10 ∧ op.toList ∈ ([[73, 100, 101, 110, 116, 105, 116, 121], [78, 101, 103], [65, 98, 115], [78, 111, 116], [82, 101, 108, 117], [83, 113, 114, 116], [70, 108, 111, 111, 114], [69, 120, 112], [83, 105, 103, 109, 111, 105, 100], [84, 97, 110, 104]] : List (List UInt8)) := by
  simp only [List.mem_cons, List.not_mem_nil, or_false] at hop
  rcases hop with rfl | rfl | rfl | rfl | rfl | rfl | rfl | rfl | rfl | rfl <;> exact ⟨by kernel_rfl, by rw [bytes_toList]; decide⟩

theorem grp_2 {op : ByteArray} {k : Nat} (h : kOf op = some k) : (grp op).1 = (if 9 ≤ k then 8 else 9) ∧ op.toList ∈ names2 := by
  refine ⟨?_, idx_get h⟩
  have h12 := kOf_12 h
  simp only [List.mem_cons, List.not_mem_nil, or_false] at h12
  rcases h12 with rfl | rfl | rfl | rfl | rfl | rfl | rfl | rfl | rfl | rfl | rfl | rfl
  · obtain rfl : k = 0 := Option.some.inj (h.symm.trans (show kOf ⟨#[65, 100, 100]⟩ = some 0 by kernel_rfl)); exact (show (grp ⟨#[65, 100, 100]⟩).1 = 9 by kernel_rfl)
  · obtain rfl : k = 1 := Option.some.inj (h.symm.trans (show kOf ⟨#[83, 117, 98]⟩ = some 1 by kernel_rfl)); exact (show (grp ⟨#[83, 117, 98]⟩).1 = 9 by kernel_rfl)
  · obtain rfl : k = 2 := Option.some.inj (h.symm.trans (show kOf ⟨#[77, 117, 108]⟩ = some 2 by kernel_rfl)); exact (show (grp ⟨#[77, 117, 108]⟩).1 = 9 by kernel_rfl)
  · obtain rfl : k = 3 := Option.some.inj (h.symm.trans (show kOf ⟨#[68, 105, 118]⟩ = some 3 by kernel_rfl)); exact (show (grp ⟨#[68, 105, 118]⟩).1 = 9 by kernel_rfl)
  · obtain rfl : k = 4 := Option.some.inj (h.symm.trans (show kOf ⟨#[77, 97, 120]⟩ = some 4 by kernel_rfl)); exact (show (grp ⟨#[77, 97, 120]⟩).1 = 9 by kernel_rfl)
  · obtain rfl : k = 5 := Option.some.inj (h.symm.trans (show kOf ⟨#[77, 105, 110]⟩ = some 5 by kernel_rfl)); exact (show (grp ⟨#[77, 105, 110]⟩).1 = 9 by kernel_rfl)
  · obtain rfl : k = 6 := Option.some.inj (h.symm.trans (show kOf ⟨#[65, 110, 100]⟩ = some 6 by kernel_rfl)); exact (show (grp ⟨#[65, 110, 100]⟩).1 = 9 by kernel_rfl)
  · obtain rfl : k = 7 := Option.some.inj (h.symm.trans (show kOf ⟨#[79, 114]⟩ = some 7 by kernel_rfl)); exact (show (grp ⟨#[79, 114]⟩).1 = 9 by kernel_rfl)
  · obtain rfl : k = 8 := Option.some.inj (h.symm.trans (show kOf ⟨#[88, 111, 114]⟩ = some 8 by kernel_rfl)); exact (show (grp ⟨#[88, 111, 114]⟩).1 = 9 by kernel_rfl)
  · obtain rfl : k = 9 := Option.some.inj (h.symm.trans (show kOf ⟨#[69, 113, 117, 97, 108]⟩ = some 9 by kernel_rfl)); exact (show (grp ⟨#[69, 113, 117, 97, 108]⟩).1 = 8 by kernel_rfl)
  · obtain rfl : k = 10 := Option.some.inj (h.symm.trans (show kOf ⟨#[76, 101, 115, 115]⟩ = some 10 by kernel_rfl)); exact (show (grp ⟨#[76, 101, 115, 115]⟩).1 = 8 by kernel_rfl)
  · obtain rfl : k = 11 := Option.some.inj (h.symm.trans (show kOf ⟨#[71, 114, 101, 97, 116, 101, 114]⟩ = some 11 by kernel_rfl)); exact (show (grp ⟨#[71, 114, 101, 97, 116, 101, 114]⟩).1 = 8 by kernel_rfl)

def tvOf (p : Ten × Tq) : Val × List Int := (valOfT p, p.2.1)

theorem tys_of (ps : List (Ten × Tq)) : tysOf (ps.map tvOf) = ps.map (·.1.ty) := by
  unfold tysOf
  rw [List.map_map]
  rfl

/-- What elem makes of a node whose answer is known may be. -/
theorem made_may (n : Nod) (ins : List ByteArray) (A : At) (u : Sl) (ps : List (Ten × Tq)) (nam0 : ByteArray) (ty : Int) (dv : Sl) (l : List Int) (w : World) (hn : NodeAll w n ins A) (hv : TensIn w u.v ps) (hp1 : ps.length ≤ 1000) (hd : IsInts w dv.v l) (hok : ps.all okT = true) (ok : OutOk n ins A (ps.map tvOf) (ty, l)) :
    Calls Tryz.prog 14 #[nval n, .slice u.a u.n u.c, .agg #[.string nam0, .int .i64 ty, .slice dv.a dv.n dv.c]] w fun e w' => ∃ r, MayK ty l r ∧ EvQ w r e w' := by
  rw [List.all_eq_true] at hok
  obtain ⟨R0, hR, e1, e2, -⟩ := checkF_zero ok.chk
  have e3 := ok.len
  rw [List.length_map] at e3
  obtain ⟨a1, a2, a3, a4, a5⟩ := ar_all R0 hR
  rw [e1] at a1 a2 a3 a4 a5
  have ht := ok.typ
  rw [tys_of] at ht
  have hc := ok.cnt
  simp only at ht hc
  by_cases h1 : n.op ∈ ([⟨#[73, 100, 101, 110, 116, 105, 116, 121]⟩, ⟨#[78, 101, 103]⟩, ⟨#[65, 98, 115]⟩, ⟨#[78, 111, 116]⟩, ⟨#[82, 101, 108, 117]⟩, ⟨#[83, 113, 114, 116]⟩, ⟨#[70, 108, 111, 111, 114]⟩, ⟨#[69, 120, 112]⟩, ⟨#[83, 105, 103, 109, 111, 105, 100]⟩, ⟨#[84, 97, 110, 104]⟩] : List ByteArray)
  · obtain ⟨g, hm⟩ := grp_1 h1
    have hp : 0 < ps.length := by have := a1 hm; omega
    rw [g] at ht
    have et : (ps[0]'hp).1.ty = ty ∧ oneOK A.op.toList ty = true := by
      cases ps with
      | nil => cases hp
      | cons p q =>
        obtain ⟨t, q1, q2⟩ := bind_ok ht
        obtain ⟨b, q3, q4⟩ := bind_ok q2
        cases q4
        rw [List.map_cons] at q1
        exact ⟨(same_head q1).1.symm, must_ok q3⟩
    rw [hn.op] at et
    exact made_cls n u ps nam0 ty dv l _ w hv hp hp1 hd hc (fun wx hx => wofq_1 n h1 u ps nam0 ty dv wx (hv.more hx) hp (fun hf => et.1.trans (float_one hf et.2))) (fun j y h => by rw [et.1] at h; exact h)
  · cases hk : kOf n.op with
    | some k =>
      obtain ⟨g, hm⟩ := grp_2 hk
      have hp : 1 < ps.length := by have := a2 hm; omega
      rw [g] at ht
      have et : outT k (ps[0]'(Nat.lt_of_succ_lt hp)).1.ty = ty := by
        cases ps with
        | nil => cases hp
        | cons p q =>
          unfold outT
          split at ht
          · rename_i h9
            rw [if_pos h9]
            obtain ⟨t, q1, q2⟩ := bind_ok ht
            obtain ⟨b, q3, q4⟩ := bind_ok q2
            cases q4
            rfl
          · rename_i h9
            rw [if_neg h9]
            obtain ⟨t, q1, q2⟩ := bind_ok ht
            obtain ⟨b, q3, q4⟩ := bind_ok q2
            cases q4
            rw [List.map_cons] at q1
            exact (same_head q1).1.symm
      exact made_cls n u ps nam0 ty dv l _ w hv (Nat.lt_of_succ_lt hp) hp1 hd hc (fun wx hx => wofq_2 n k hk u ps nam0 ty dv wx (hv.more hx) hp) (fun j y h => by rw [et] at h; exact h)
    | none =>
      by_cases h2 : n.op = ⟨#[87, 104, 101, 114, 101]⟩
      · have hm : n.op.toList = [87, 104, 101, 114, 101] := by rw [h2, bytes_toList]
        have hp : 2 < ps.length := by have := a3 hm; omega
        rw [show (grp n.op).1 = 2 from by rw [h2]; kernel_rfl] at ht
        have et : (ps[1]'(Nat.lt_of_succ_lt hp)).1.ty = ty ∧ (ps[2]'hp).1.ty = ty := by
          match ps, hp, ht with
          | p :: q :: r :: s, _, ht =>
            obtain ⟨b, q3, q4⟩ := bind_ok ht
            simp only [List.map_cons, List.tail_cons] at q4
            obtain ⟨q5, q6⟩ := same_head q4
            exact ⟨q5.symm, (q6 _ (List.mem_cons_self ..)).trans q5.symm⟩
        refine made_cls n u ps nam0 ty dv l _ w hv (by omega) hp1 hd hc (fun wx hx => wofq_where n h2 u ps.length nam0 ty dv wx hp) (fun j y h => ?_)
        rw [col_getD 1 j (by omega), col_getD 2 j hp] at h
        rcases h with rfl | rfl
        · have := col_chk (l := l) (hok _ (List.getElem_mem (Nat.lt_of_succ_lt hp))) j
          rw [et.1] at this
          exact this
        · have := col_chk (l := l) (hok _ (List.getElem_mem hp)) j
          rw [et.2] at this
          exact this
      · by_cases h3 : n.op = ⟨#[67, 108, 105, 112]⟩
        · have hm : n.op.toList = [67, 108, 105, 112] := by rw [h3, bytes_toList]
          have hp : 0 < ps.length := by have := a4 hm; omega
          rw [show (grp n.op).1 = 7 from by rw [h3]; kernel_rfl] at ht
          obtain ⟨t, q1, q2⟩ := bind_ok ht
          obtain ⟨b, q3, q4⟩ := bind_ok q2
          cases q4
          exact made_cls n u ps nam0 1 dv l _ w hv hp hp1 hd hc (fun wx hx => wofq_clip n h3 A.xs A.cs u ps.length nam0 1 dv wx (hn.more hx).node.av (hn.more hx).node.has hp) (fun j y h => h)
        · by_cases h4 : n.op = ⟨#[67, 97, 115, 116]⟩
          · have hm : n.op.toList = [67, 97, 115, 116] := by rw [h4, bytes_toList]
            have hp : 0 < ps.length := by have := a5 hm; omega
            exact made_cls n u ps nam0 ty dv l _ w hv hp hp1 hd hc (fun wx hx => wofq_cast n h4 u ps nam0 ty dv wx (hv.more hx) hp) (fun j y h => h)
          · refine (made_no n ?_ u nam0 ty dv w).mono fun e w' h => ⟨.error 5, (by decide : (5 : Int) ≠ 0), h⟩
            intro hm
            have hk2 : n.op.toList ∉ names2 := List.idxOf?_eq_none_iff.1 hk
            simp only [names2, List.mem_cons, List.not_mem_nil, or_false, not_or] at hm h1 hk2
            have nb : ∀ z : ByteArray, n.op ≠ z → n.op.toList ≠ z.data.toList := fun z hz e => hz (bytes_injE (by rw [e, bytes_toList]))
            obtain ⟨x0, x1, x2, x3, x4, x5, x6, x7, x8, x9⟩ := h1
            obtain ⟨y0, y1, y2, y3, y4, y5, y6, y7, y8, y9, y10, y11⟩ := hk2
            rcases hm with e | e | e | e | e | e | e | e | e | e | e | e | e | e | e | e | e | e | e | e | e | e | e | e | e
            · exact nb _ x0 e
            · exact nb _ x1 e
            · exact nb _ x2 e
            · exact nb _ x3 e
            · exact nb _ x4 e
            · exact nb _ x5 e
            · exact nb _ x6 e
            · exact nb _ x7 e
            · exact nb _ x8 e
            · exact nb _ x9 e
            · exact y0 e
            · exact y1 e
            · exact y2 e
            · exact y3 e
            · exact y4 e
            · exact y5 e
            · exact y6 e
            · exact y7 e
            · exact y8 e
            · exact y9 e
            · exact y10 e
            · exact y11 e
            · exact nb _ h2 e
            · exact nb _ h3 e
            · exact nb _ h4 e

/-- elem.Do of any node and any tensors. -/
theorem edo_may (n : Nod) (ins : List ByteArray) (A : At) (u : Sl) (ps : List (Ten × Tq)) (w : World) (hl : Laid w) (hn : NodeAll w n ins A) (hv : TensIn w u.v ps) (hp1 : ps.length ≤ 1000) :
    Calls Tryz.prog 8 #[nval n, .slice u.a u.n u.c] w (DoS w (nodeP ps (outF n ins A (ps.map tvOf))) MayK) := by
  refine edo_rel n u _ MayK w fun wx hx => bdo_rel n u _ MayK wx (nz_node fun c h => outF_err h) (fun ty l c h => h) (fun wy hy => ?_) (fun wy ty dv l hy hr hd => ?_)
  · refine bnode_any n u ps _ wy (hv.more (grown_trans hx hy)) (by omega) fun wz s vs hz hvs h1 h2 => ?_
    have key := out_of n ins A s vs wz (hl.more (grown_trans (grown_trans hx hy) hz)) (hn.more (grown_trans (grown_trans hx hy) hz)) hvs
    rw [outF_same (us := ps.map tvOf) (by rw [h1, List.map_map]; rfl) (by rw [h2, List.map_map]; rfl)] at key
    exact key
  · obtain ⟨hok, hr⟩ := node_inv hr
    exact made_may n ins A u ps n.out ty dv l wy (hn.more (grown_trans hx hy)) (hv.more (grown_trans hx hy)) hp1 hd hok (outF_ok hr)
end Go.Proofs.YteigfipgmghgmaaGreatDoor
