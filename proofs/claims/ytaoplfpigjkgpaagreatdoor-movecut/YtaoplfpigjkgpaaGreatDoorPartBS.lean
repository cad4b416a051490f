/- Joined texts: MvSlice, MvSlDo, MvPadP, MvInts. -/
import Derived.Test.YtaoplfpigjkgpaaGreatDoorPartBQ
import Derived.Test.YtaoplfpigjkgpaaGreatDoorPartBR
import Derived.Test.YtaoplfpigjkgpaaGreatDoorPartBI
import Derived.Test.YtaoplfpigjkgpaaGreatDoorPartBP
namespace Go.Proofs.YtaoplfpigjkgpaaGreatDoor

open Go.RowKit

theorem boundedP_rng (s : Int) (d : Nat) : 0 ≤ boundedP s d ∧ boundedP s d ≤ d := by
  unfold boundedP
  split <;> (split <;> omega)

theorem slice_parts {x : List Int} (F : Fine x) : ∀ {L S E dims acc l : List Int}, L.length = S.length → S.length = E.length → Parts x acc dims → sliceL x L S E dims = .ok l → Parts x (stL x L S acc) l
  | [], [], [], dims, acc, l, _, _, hp, h => by cases h; exact hp
  | a :: L, s :: S, e :: E, dims, acc, l, h1, h2, hp, h => by
    simp only [sliceL] at h
    obtain ⟨ax, ha, h⟩ := bind_ok h
    obtain ⟨_, hm, h⟩ := bind_ok h
    have hi : axisO a x.length = some ax := by
      unfold axisP at ha
      split at ha
      · rename_i i hi; cases ha; exact hi
      · cases ha
    have hlt := axisO_lt hi
    have hse : boundedP s (x.getD ax 0).toNat < boundedP e (x.getD ax 0).toNat := by
      unfold mustP at hm
      split at hm
      · rename_i q; simpa using q
      · cases hm
    have b1 := boundedP_rng s (x.getD ax 0).toNat
    have b2 := boundedP_rng e (x.getD ax 0).toNat
    have hx := F.at ax hlt
    unfold stL
    rw [hi]
    simp only [Option.getD_some]
    refine slice_parts F (by simpa using h1) (by simpa using h2) ⟨by rw [List.length_set]; exact hp.l1, by rw [List.length_set]; exact hp.l2, fun i hi => ?_⟩ h
    have ho := hp.ok i hi
    have ga : ∀ (L : List Int) (z : Int), ax < L.length → (L.set ax z).getD i 0 = if ax = i then z else L.getD i 0 := fun L z hL => by
      simp only [List.getD]
      by_cases e : ax = i
      · subst e
        rw [if_pos rfl, List.getElem?_set_self hL]
        rfl
      · rw [if_neg e, List.getElem?_set_ne e]
    rw [ga acc _ (by rw [hp.l1]; exact hlt), ga dims _ (by rw [hp.l2]; exact hlt)]
    by_cases e : ax = i
    · subst e
      rw [if_pos rfl, if_pos rfl]
      omega
    · rw [if_neg e, if_neg e]
      exact ho
  | [], _ :: _, _, _, _, _, h, _, _, _ => by simp at h
  | _ :: _, [], _, _, _, _, h, _, _, _ => by simp at h
  | _, [], _ :: _, _, _, _, _, h, _, _ => by simp at h
  | _, _ :: _, [], _, _, _, _, h, _, _ => by simp at h

theorem sliced_ok {A : At} {x l : List Int} (F : Fine x) (h : slicedP A x = .ok l) : Parts x (startsP A x) l ∧ (A.ints ⟨#[97, 120, 101, 115]⟩ (upToP (A.ints ⟨#[115, 116, 97, 114, 116, 115]⟩ []).length)).length = (A.ints ⟨#[115, 116, 97, 114, 116, 115]⟩ []).length ∧ ∀ a ∈ A.ints ⟨#[97, 120, 101, 115]⟩ (upToP (A.ints ⟨#[115, 116, 97, 114, 116, 115]⟩ []).length), ∃ i, axisO a x.length = some i := by
  unfold slicedP at h
  simp only at h
  obtain ⟨_, hm, h⟩ := bind_ok h
  obtain ⟨r, ha, h⟩ := bind_ok h
  have hl : (A.ints ⟨#[115, 116, 97, 114, 116, 115]⟩ []).length = (A.ints ⟨#[101, 110, 100, 115]⟩ []).length ∧ (A.ints ⟨#[115, 116, 97, 114, 116, 115]⟩ []).length = (A.ints ⟨#[97, 120, 101, 115]⟩ (upToP (A.ints ⟨#[115, 116, 97, 114, 116, 115]⟩ []).length)).length := by
    unfold mustP at hm
    split at hm
    · rename_i q; simpa using q
    · cases hm
  refine ⟨?_, hl.2.symm, ?_⟩
  · refine slice_parts F hl.2.symm hl.1 ⟨by simp, rfl, fun i hi => ?_⟩ h
    have := F.at i hi
    have e : (List.replicate x.length (0 : Int)).getD i 0 = 0 := by simp [List.getD, hi]
    rw [e]
    omega
  · unfold axesP at ha
    split at ha
    · rename_i is his
      exact axesO_all his
    · cases ha

theorem dot_lst : ∀ {ds ss st dims : List Int}, st.length = ds.length → dims.length = ds.length → ss.length = ds.length → (∀ i, i < ds.length → st.getD i 0 + dims.getD i 0 ≤ ds.getD i 0) → (∀ s ∈ ss, 0 ≤ s) → Vw.dot st ss + Vw.lst dims ss ≤ Vw.lst ds ss
  | [], [], [], [], _, _, _, _, _ => by simp [Vw.dot, Vw.lst]
  | d :: ds, s :: ss, c :: st, e :: dims, h1, h2, h3, h, hs => by
    have ih := @dot_lst ds ss st dims (by simpa using h1) (by simpa using h2) (by simpa using h3) (fun i hi => by simpa using h (i + 1) (by simpa using hi)) (fun z hz => hs z (by simp [hz]))
    have h0 := h 0 (by simp)
    simp only [List.getD_cons_zero] at h0
    have hs0 := hs s (by simp)
    simp only [Vw.dot, Vw.lst]
    have k : (c + (e - 1)) * s ≤ (d - 1) * s := Int.mul_le_mul_of_nonneg_right (by omega) hs0
    rw [Int.add_mul] at k
    omega
  | [], _, _ :: _, _, h, _, _, _, _ => by simp at h
  | [], _, _, _ :: _, _, h, _, _, _ => by simp at h
  | [], _ :: _, _, _, _, _, h, _, _ => by simp at h
  | _ :: _, _, [], _, h, _, _, _, _ => by simp at h
  | _ :: _, _, _, [], _, h, _, _, _ => by simp at h
  | _ :: _, [], _, _, _, _, h, _, _ => by simp at h

theorem part_all {x st l : List Int} (F : Fine x) (hp : Parts x st l) : Vw.MayV (Vw.dot st (strd x)) l (strd x) ∧ Vw.dot st (strd x) + Vw.lst l (strd x) < prod x := by
  have hm := Vw.may_whole F
  have h1 := part_may hm hp (by rw [Vw.lst_whole x F.pos]; have := F.le; omega) x.length
  rw [cutD_all hp.l2] at h1
  have e : offK 0 (strd x) st x.length = Vw.dot st (strd x) := by
    unfold offK
    rw [← hp.l1, List.take_length, Int.zero_add]
  rw [e] at h1
  refine ⟨h1, ?_⟩
  have h2 := dot_lst (ss := strd x) hp.l1 hp.l2 (strd_length x) (fun i hi => (hp.ok i hi).2.2) (fun s hs => by have := strd_le F s hs; omega)
  rw [Vw.lst_whole x F.pos] at h2
  omega

theorem part_rd {x st l xs : List Int} (F : Fine x) (hp : Parts x st l) (hl : (xs.length : Int) = prod x) : Vw.rdOk (Vw.dot st (strd x)) l (strd x) xs = true := by
  obtain ⟨h1, h2⟩ := part_all F hp
  unfold Vw.rdOk
  rw [Vw.mayB_iff.2 h1, Bool.true_and, decide_eq_true_eq, hl]
  exact h2

set_option maxRecDepth 100000 in
set_option maxHeartbeats 4000000 in
theorem partfrom_any (s : Sl) (w : World) : Calls Tryz.prog 29 #[.slice s.a s.n s.c] w fun e w' => e = .returned (.func (.func 52) #[] #[.pointer (some ⟨w.heap.size, 0, none⟩)]) ∧ w' = w.alloc (.cells #[.slice s.a s.n s.c] 29) := by
  obtain ⟨sa, sn, sc⟩ := s
  go_enter Tryz.func29, Tryz.ntmps29
  go_wp2
  go_ret
  exact ⟨rfl, rfl⟩

set_option maxRecDepth 100000 in
set_option maxHeartbeats 8000000 in
theorem moved_slice (n : Nod) (A : At) (hop : n.op = ⟨#[83, 108, 105, 99, 101]⟩) (u : Sl) (T0 : Ten) (x xs : List Int) (nam0 : ByteArray) (vty : Int) (dv : Sl) (l : List Int) (w : World) (hno : NodeOk w n A) (hv : TensIn w u.v [(T0, (x, xs))]) (hd : IsInts w dv.v l) (hc : cntE x = 0) (hxl : (xs.length : Int) = prod x) (hsl : slicedP A x = .ok l) :
    Calls Tryz.prog 18 #[nval n, .slice u.a u.n u.c, .agg #[.string nam0, .int .i64 vty, .slice dv.a dv.n dv.c]] w (EvQ w (.ok (Vw.rdL (Vw.dot (startsP A x) (strd x)) l (strd x) xs))) := by
  have F := fine_of hc
  obtain ⟨hP, hLS, hAX⟩ := sliced_ok F hsl
  have hr := part_rd F hP hxl
  obtain ⟨P, hPe⟩ : ∃ P, P = startsP A x := ⟨_, rfl⟩
  rw [← hPe] at hP hr ⊢
  have ST : Hid (∀ wx (dx : Sl), w.grownBy wx none → IsInts wx dx.v x → Calls Tryz.prog 30 #[nval n, .slice dx.a dx.n dx.c] wx fun e w' => ∃ v : Sl, e = .returned v.v ∧ IsInts w' v.v P ∧ wx.grownBy w' none) := fun wx dx hx hdx => by rw [hPe]; exact starts_any n A dx x wx (hno.more hx) hdx F hLS hAX
  obtain ⟨za, zn, zc⟩ := dv
  have HZ := hide hd
  obtain ⟨xa, xc, e1, p1, p2, p3⟩ := hv.vals.form
  obtain ⟨ua, un, uc⟩ := u
  simp only [Sl.v, List.map_cons, List.map_nil, List.length_cons, List.length_nil, Value.slice.injEq] at e1
  obtain ⟨rfl, rfl, rfl⟩ := e1
  obtain ⟨ub, uo, rfl⟩ := hv.vals.addr (k := 0) (by simp)
  obtain ⟨t0, t1, t2⟩ := hv.at 0 (by simp)
  have HH0 := hide (hv.has (T0, (x, xs)) (by simp))
  obtain ⟨tx, ⟨xda, xdn, xdc⟩, ⟨xta, xtn, xtc⟩⟩ := T0
  simp only [List.getElem_cons_zero, Nat.zero_mul, Nat.add_zero] at t0 t1 t2 HH0
  have AS : Hid (∀ (wx : World) (sv : Sl) (p : Nat), w.grownBy wx none → IsInts wx sv.v P → wx.heap[p]? = some (.cells #[.slice sv.a sv.n sv.c] 29 (0, 0)) → Calls Tryz.prog 22 #[.agg #[.int .i64 tx, .slice xda xdn xdc, .slice xta xtn xtc], .func (.func 52) #[] #[.pointer (some ⟨p, 0, none⟩)], .slice za zn zc] wx (AspQ wx x xs P l)) := fun wx sv p hx hsv hbp => asp_any ⟨tx, ⟨xda, xdn, xdc⟩, ⟨xta, xtn, xtc⟩⟩ x xs l P ⟨za, zn, zc⟩ sv p wx hc hP (HH0.out.1.more hx) (HH0.out.2.more hx) (HZ.out.more hx) hsv hbp
  have RE : Hid (Vw.rdE (Vw.dot P (strd x)) l (strd x) xs = 0) := if_pos hr
  obtain ⟨op, nam, ⟨ia, il, ic⟩, out, ⟨ao, al, cap⟩⟩ := n
  simp only at hop
  subst hop
  unfold nval at ST ⊢
  simp only at ST ⊢
  obtain ⟨w0, hw0⟩ : ∃ w0, w0 = (w.alloc (.cells #[.string ⟨#[83, 108, 105, 99, 101]⟩, .string nam, .slice ia il ic, .string out, .slice ao al cap] 25)).alloc (.cells #[.string nam0, .int .i64 vty, .slice za zn zc] 50) := ⟨_, rfl⟩
  have g0 : w.grownBy w0 none := by rw [hw0]; exact grown_trans (grown_new _ _) (grown_new _ _)
  have hbx := two_boxes w (.cells #[.string ⟨#[83, 108, 105, 99, 101]⟩, .string nam, .slice ia il ic, .string out, .slice ao al cap] 25) (.cells #[.string nam0, .int .i64 vty, .slice za zn zc] 50)
  rw [← hw0] at hbx
  obtain ⟨n0, n1, n2, n3, n4⟩ := nod_cells (n := ⟨⟨#[83, 108, 105, 99, 101]⟩, nam, ⟨ia, il, ic⟩, out, ⟨ao, al, cap⟩⟩) hbx.1
  obtain ⟨v0, v1, v2⟩ := ten_cells hbx.2
  have t0 := cell_still t0 g0
  have t1 := cell_still t1 g0
  have t2 := cell_still t2 g0
  have G0 := hide g0
  have i0' : (0 : Int) < 1 := by decide
  clear hbx hv hd hno hc hP hr hPe g0 p1 p2 p3 hLS hAX hsl hxl F
  rw [hw0] at n0
  go_enter Tryz.func18, Tryz.ntmps18
  go_wp2_with fail
  rw [← hw0]
  rw [← hw0] at n0
  clear hw0
  refine wp_region_held_drew (S := fun w' => w0.grownBy w' none) (by kernel_rfl) (grown_drew (grown_refl _)) (fun hHeld => ?_)
  refine wpAnyH_take (i := 0) (v := ?_) rfl (by kernel_rfl) (by kernel_rfl) (by kernel_rfl) (fun _ _ _ h => h) (Or.inl ⟨by kernel_rfl, ?_⟩) (by assumption) ?_
  rotate_left 1
  · (intro wS hSw; go_simp; (try with_reducible rfl))
  try simp only [Act.put]
  refine wpAnyH_take (i := 1) (v := ?_) rfl (by kernel_rfl) (by kernel_rfl) (by kernel_rfl) (fun _ _ _ h => h) (Or.inl ⟨by kernel_rfl, ?_⟩) (by assumption) ?_
  rotate_left 1
  · (intro wS hSw; go_simp; (try with_reducible rfl))
  try simp only [Act.put]
  refine wpAnyH_take (i := 2) (v := ?_) rfl (by kernel_rfl) (by kernel_rfl) (by kernel_rfl) (fun _ _ _ h => h) (Or.inl ⟨by kernel_rfl, ?_⟩) (by assumption) ?_
  rotate_left 1
  · (intro wS hSw; have c0 := cell_still t0 hSw; have c1 := cell_still t1 hSw; have c2 := cell_still t2 hSw; go_simp; (try with_reducible rfl))
  try simp only [Act.put]
  refine wpAnyH_take (i := 3) (v := ?_) rfl (by kernel_rfl) (by kernel_rfl) (by kernel_rfl) (fun _ _ _ h => h) (Or.inl ⟨by kernel_rfl, ?_⟩) (by assumption) ?_
  rotate_left 1
  · (intro wS hSw; have c0 := cell_still n0 hSw; have c1 := cell_still n1 hSw; have c2 := cell_still n2 hSw; have c3 := cell_still n3 hSw; have c4 := cell_still n4 hSw; go_simp; (try with_reducible rfl))
  try simp only [Act.put]
  refine wpAnyH_take (i := 4) (v := ?_) rfl (by kernel_rfl) (by kernel_rfl) (by kernel_rfl) (fun _ _ _ h => h) (Or.inl ⟨by kernel_rfl, ?_⟩) (by assumption) ?_
  rotate_left 1
  · (intro wS hSw; go_simp; (try with_reducible rfl))
  try simp only [Act.put]
  refine wpAnyH_take (i := 5) (v := ?_) rfl (by kernel_rfl) (by kernel_rfl) (by kernel_rfl) (fun _ _ _ h => h) (Or.inl ⟨by kernel_rfl, ?_⟩) (by assumption) ?_
  rotate_left 1
  · (intro wS hSw; go_simp; (try with_reducible rfl))
  try simp only [Act.put]
  refine wpAnyH_take (i := 6) (v := ?_) rfl (by kernel_rfl) (by kernel_rfl) (by kernel_rfl) (fun _ _ _ h => h) (Or.inl ⟨by kernel_rfl, ?_⟩) (by assumption) ?_
  rotate_left 1
  · (intro wS hSw; go_simp; (try with_reducible rfl))
  try simp only [Act.put]
  refine wpAnyH_take (i := 7) (v := ?_) rfl (by kernel_rfl) (by kernel_rfl) (by kernel_rfl) (fun _ _ _ h => h) (Or.inl ⟨by kernel_rfl, ?_⟩) (by assumption) ?_
  rotate_left 1
  · (intro wS hSw; have c0 := cell_still t1 hSw; go_simp; (try with_reducible rfl))
  try simp only [Act.put]
  refine wpAnyH_take (i := 10) (v := ?_) rfl (by kernel_rfl) (by kernel_rfl) (by kernel_rfl) (fun _ _ _ h => h) (Or.inl ⟨by kernel_rfl, ?_⟩) (by assumption) ?_
  rotate_left 1
  · (intro wS hSw; go_simp; (try with_reducible rfl))
  try simp only [Act.put]
  refine wpAnyH_take (i := 11) (v := ?_) rfl (by kernel_rfl) (by kernel_rfl) (by kernel_rfl) (fun _ _ _ h => h) (Or.inl ⟨by kernel_rfl, ?_⟩) (by assumption) ?_
  rotate_left 1
  · (intro wS hSw; have c0 := cell_still v2 hSw; go_simp; (try with_reducible rfl))
  try simp only [Act.put]
  refine wpAnyH_ready (rs := [8]) (by kernel_rfl) (by simp) ?_
  refine AllReadyH.cons rfl (fun K hK => ?_) AllReadyH.nil
  go_simp
  refine (ST.out w0.drew ⟨xda, xdn, xdc⟩ (grown_drew G0.out) (HH0.out.1.more (grown_drew G0.out))).mono ?_
  rintro e w1 ⟨⟨pa, pn, pc⟩, rfl, ip, hg1⟩
  have g1 : w0.grownBy w1 none := grown_trans (grown_drew (grown_refl _)) hg1
  refine hK.out _ _ g1 (fun hHeld => ?_)
  clear hK K
  try simp only [Act.put]
  refine wpAnyH_ready (rs := [9]) (by kernel_rfl) (by simp) ?_
  refine AllReadyH.cons rfl (fun K hK => ?_) AllReadyH.nil
  go_simp
  refine (partfrom_any ⟨pa, pn, pc⟩ w1).mono ?_
  rintro e w2 ⟨rfl, hw2⟩
  have b2 := heap_alloc_new w1 (.cells #[.slice pa pn pc] 29)
  simp only at hw2
  rw [← hw2] at b2
  have g12 : w1.grownBy w2 none := by rw [hw2]; exact grown_new _ _
  clear hw2
  have g2 : w0.grownBy w2 none := grown_trans g1 g12
  refine hK.out _ _ g2 (fun hHeld => ?_)
  clear hK K
  try simp only [Act.put]
  refine wpAnyH_ready (rs := [12]) (by kernel_rfl) (by simp) ?_
  refine AllReadyH.cons rfl (fun K hK => ?_) AllReadyH.nil
  go_simp
  refine (AS.out w2 ⟨pa, pn, pc⟩ w1.heap.size (grown_trans G0.out g2) (ip.more g12) b2).mono ?_
  rintro e w3 ⟨⟨ra, rn, rc⟩, rfl, ho3, hg3⟩
  have g3 : w0.grownBy w3 none := grown_trans g2 hg3
  rw [RE.out]
  refine hK.out _ _ g3 (fun hHeld => ?_)
  clear hK K
  refine wpAnyH_take (i := 13) (v := ?_) rfl (by kernel_rfl) (by kernel_rfl) (by kernel_rfl) (fun _ _ _ h => h) (Or.inl ⟨by kernel_rfl, ?_⟩) (by assumption) ?_
  rotate_left 1
  · (intro wS hSw; go_simp; (try with_reducible rfl))
  try simp only [Act.put]
  refine wpAnyH_take (i := 14) (v := ?_) rfl (by kernel_rfl) (by kernel_rfl) (by kernel_rfl) (fun _ _ _ h => h) (Or.inl ⟨by kernel_rfl, ?_⟩) (by assumption) ?_
  rotate_left 1
  · (intro wS hSw; go_simp; (try with_reducible rfl))
  try simp only [Act.put]
  refine wpAnyH_take (i := 15) (v := ?_) rfl (by kernel_rfl) (by kernel_rfl) (by kernel_rfl) (fun _ _ _ h => h) (Or.inl ⟨by kernel_rfl, ?_⟩) (by assumption) ?_
  rotate_left 1
  · (intro wS hSw; go_simp; (try with_reducible rfl))
  try simp only [Act.put]
  refine wpAnyH_take (i := 16) (v := ?_) rfl (by kernel_rfl) (by kernel_rfl) (by kernel_rfl) (fun _ _ _ h => h) (Or.inl ⟨by kernel_rfl, ?_⟩) (by assumption) ?_
  rotate_left 1
  · (intro wS hSw; go_simp; (try with_reducible rfl))
  try simp only [Act.put]
  refine wpAnyH_done (by kernel_rfl) ?_ _
  have HO : Hid (OwnsE w3 w.heap.size (.slice ra rn rc) (Vw.rdL (Vw.dot P (strd x)) l (strd x) xs)) := ⟨ownsRow_base ho3.1 (Nat.le_trans G0.out.size g2.size), ho3.2⟩
  have HG := hide (grown_trans G0.out g3)
  clear ho3 hg3 g3 g2 hg1 g1 ip b2 g12 t0 t1 t2 n0 n1 n2 n3 n4 v0 v1 v2 hHeld
  go_simp
  go_wp2
  go_ret2
  exact ev_ok rfl HG.out ⟨⟨ra, rn, rc⟩, rfl, HO.out⟩

end Go.Proofs.YtaoplfpigjkgpaaGreatDoor

namespace Go.Proofs.YtaoplfpigjkgpaaGreatDoor

open Go.RowKit

theorem bindE {α β : Type} {c : Int} {r : R α} {f : α → R β} (h : r.bind f = .error c) : r = .error c ∨ ∃ a, r = .ok a ∧ f a = .error c := by
  cases r with
  | error c' => exact .inl (by cases h; rfl)
  | ok a => exact .inr ⟨a, rfl, h⟩

theorem nz_mustE {b : Bool} {c : Int} (h : mustP b = .error c) : c ≠ 0 := by
  unfold mustP at h
  split at h
  · cases h
  · cases h; decide

theorem nz_axisP {a c : Int} {r : Nat} (h : axisP a r = .error c) : c ≠ 0 := by
  unfold axisP at h
  split at h
  · cases h
  · cases h; decide

theorem nz_sliceL (x : List Int) (c : Int) : ∀ (L S E dims : List Int), sliceL x L S E dims = .error c → c ≠ 0
  | a :: L, s :: S, e :: E, dims, h => by
    simp only [sliceL] at h
    rcases bindE h with h | ⟨_, -, h⟩
    · exact nz_axisP h
    rcases bindE h with h | ⟨_, -, h⟩
    · exact nz_mustE h
    exact nz_sliceL x c L S E _ h
  | [], _, _, _, h => by simp [sliceL] at h
  | _ :: _, [], _, _, h => by simp [sliceL] at h
  | _ :: _, _ :: _, [], _, h => by simp [sliceL] at h

theorem nz_sliced (A : At) (x : List Int) : ∀ c, slicedP A x = .error c → c ≠ 0 := by
  intro c h
  unfold slicedP at h
  simp only at h
  rcases bindE h with h | ⟨_, -, h⟩
  · exact nz_mustE h
  rcases bindE h with h | ⟨_, -, h⟩
  · unfold axesP at h
    split at h
    · cases h
    · cases h; decide
  · exact nz_sliceL _ _ _ _ _ _ h

theorem nz_outD (t : Int) (x : List Int) (d : R (List Int)) (hd : ∀ c, d = .error c → c ≠ 0) : ∀ c, outT t x d = .error c → c ≠ 0 := by
  intro c h
  unfold outT at h
  rcases bindE h with h | ⟨_, -, h⟩
  · exact nz_typT h
  rcases bindE h with h | ⟨_, -, h⟩
  · exact nz_cntT h
  rcases bindE h with h | ⟨_, -, h⟩
  · exact hd _ h
  rcases bindE h with h | ⟨_, -, h⟩
  · exact nz_cntT h
  · cases h

theorem soutG (n : Nod) (A : At) (i1 : ByteArray) (hop : n.op = ⟨#[83, 108, 105, 99, 101]⟩) (u : Sl) (v0 : Val) (x : List Int) (w : World) (hl : Laid w) (hni : NodeIn w n [i1] A.xs A.cs) (hno : NodeOk w n A) (hck : checkF (ruleF n.op) n.op [i1] n.out A.xs A.cs = 0) (hth : thenL (A.xs.find? (isA ⟨#[116, 104, 101, 110]⟩ 3)) = []) (ho : n.out.size ≤ 1048576) (hv : ValsIn w u.v [(v0, x)]) :
    Calls Tryz.prog 38 #[nval n, .slice u.a u.n u.c] w (AttQ n.out w (outT v0.ty x (slicedP A x))) := by
  refine out_any n u _ w fun wx hx => ?_
  have key := valueof_any n A [i1] u [(v0, x)] wx (hl.more hx) (hni.more hx) (hv.more hx) (by omega) _ _ (fun hc hll hin wy hy => ((type_same n A u [(v0, x)] wy (by rw [hop]; simp) (hno.more (grown_trans hx hy)) (hv.more (grown_trans hx hy)) (by simp) (by simp) (vinT hin).1).mono fun e w' he => ended_monoE he fun t v e1 e2 => ⟨e2, sameP_typ e1 (by simp [tysOf]) (vinT hin).1⟩)) (fun hc hll hin wy hy => dims_sliced n A u v0 x wy (by rw [hop]; simp) (hno.more (grown_trans hx hy)) (hv.more (grown_trans hx hy)) (fine_of (vinT hin).2))
  rw [hck, hth] at key
  have e := valueT v0 x (slicedP A x)
  refine key.mono fun e' w' he => ?_
  rw [← e]
  exact ended_monoE he fun r v _ e2 => e2

def slG (A : At) (t : Int) (x xs : List Int) : R (Int × List Int × List Int) :=
  doR (nodeP [tq t x xs] (outT t x (slicedP A x))) fun l => .ok (Vw.rdL (Vw.dot (startsP A x) (strd x)) l (strd x) xs)

theorem sl_do (n : Nod) (A : At) (i1 : ByteArray) (hop : n.op = ⟨#[83, 108, 105, 99, 101]⟩) (u : Sl) (T0 : Ten) (x xs : List Int) (w : World) (hl : Laid w) (hni : NodeIn w n [i1] A.xs A.cs) (hno : NodeOk w n A) (hck : checkF (ruleF n.op) n.op [i1] n.out A.xs A.cs = 0) (hth : thenL (A.xs.find? (isA ⟨#[116, 104, 101, 110]⟩ 3)) = []) (ho : n.out.size ≤ 1048576) (hv : TensIn w u.v [(T0, (x, xs))]) :
    Calls Tryz.prog 11 #[nval n, .slice u.a u.n u.c] w (DoQ w (slG A T0.ty x xs)) := by
  refine mdo_any _ u _ w fun wx hx => mbdo_any _ u _ _ wx (nz_node (nz_outD _ _ _ (nz_sliced _ _))) (fun l => nz_ok _) (fun wy hy => ?_) (fun wy ty dv l hy hr hd => ?_)
  · have hg := grown_trans hx hy
    refine bnode_any n u [(T0, (x, xs))] _ wy (hv.more hg) (by simp) fun wz s vs hz hvs h1 h2 => ?_
    obtain ⟨v0, rfl, e0⟩ := one_valT h1 h2
    have key := soutG n A i1 hop s v0 x wz (hl.more (grown_trans hg hz)) (hni.more (grown_trans hg hz)) (hno.more (grown_trans hg hz)) hck hth ho hvs
    rw [e0] at key
    exact key
  · have hg := grown_trans hx hy
    obtain ⟨hall, hr⟩ := node_inv hr
    obtain ⟨-, c1, hp, c3⟩ := outT_inv hr
    simp only [tq, okT, List.all_cons, List.all_nil, Bool.and_true, beq_iff_eq] at hall
    exact moved_slice n A hop u T0 x xs _ ty dv l wy (hno.more hg) (hv.more hg) hd c1 (pb_inv hall).2 hp

end Go.Proofs.YtaoplfpigjkgpaaGreatDoor

namespace Go.Proofs.YtaoplfpigjkgpaaGreatDoor

open Go.RowKit

def putZ (D : List Int) (Z : List (Int × Int)) : List Int := Z.foldl (fun D q => D.set q.1.toNat q.2) D

theorem putZ_len : ∀ (Z : List (Int × Int)) (D : List Int), (putZ D Z).length = D.length
  | [], _ => rfl
  | q :: Z, D => by
    show (putZ (D.set q.1.toNat q.2) Z).length = _
    rw [putZ_len Z, List.length_set]

theorem putZ_step (D : List Int) (Z : List (Int × Int)) (k : Nat) (hk : k < Z.length) : putZ D (Z.take (k + 1)) = (putZ D (Z.take k)).set Z[k].1.toNat Z[k].2 := by
  unfold putZ
  rw [List.take_add_one, List.getElem?_eq_getElem hk, Option.toList_some, List.foldl_append]
  rfl

theorem putZ_other : ∀ (Z : List (Int × Int)) (D : List Int) (j : Nat), (∀ q ∈ Z, q.1.toNat ≠ j) → (putZ D Z).getD j 0 = D.getD j 0
  | [], _, _, _ => rfl
  | q :: Z, D, j, h => by
    show (putZ (D.set q.1.toNat q.2) Z).getD j 0 = _
    rw [putZ_other Z _ j (fun p hp => h p (by simp [hp]))]
    simp only [List.getD]
    rw [List.getElem?_set_ne (h q (by simp))]

theorem putZ_at : ∀ (Z : List (Int × Int)) (D : List Int), (Z.map fun q => q.1.toNat).Nodup → (∀ q ∈ Z, q.1.toNat < D.length) → ∀ q ∈ Z, (putZ D Z).getD q.1.toNat 0 = q.2
  | [], _, _, _, q, hq => by simp at hq
  | a :: Z, D, hn, hr, q, hq => by
    rw [List.map_cons, List.nodup_cons] at hn
    rcases List.mem_cons.1 hq with rfl | hq
    · show (putZ (D.set q.1.toNat q.2) Z).getD q.1.toNat 0 = q.2
      rw [putZ_other Z _ _ (fun p hp e => hn.1 (by rw [← e]; exact List.mem_map.2 ⟨p, hp, rfl⟩))]
      simp only [List.getD]
      rw [List.getElem?_set_self (hr q (by simp))]
      rfl
    · show (putZ (D.set a.1.toNat a.2) Z).getD q.1.toNat 0 = q.2
      exact putZ_at Z _ hn.2 (fun p hp => by rw [List.length_set]; exact hr p (by simp [hp])) q hq

theorem putZ_mem : ∀ (Z : List (Int × Int)) (D : List Int) (z : Int), z ∈ putZ D Z → z ∈ D ∨ ∃ q ∈ Z, q.2 = z
  | [], _, _, h => .inl h
  | a :: Z, D, z, h => by
    rcases putZ_mem Z _ z h with h | ⟨q, hq, e⟩
    · rcases List.mem_or_eq_of_mem_set h with h | rfl
      · exact .inl h
      · exact .inr ⟨a, by simp, rfl⟩
    · exact .inr ⟨q, by simp [hq], e⟩

def addC (st c : List Int) : List Int := st.zipWith (· + ·) c

theorem dot_addC : ∀ (st c ss : List Int), st.length = c.length → Vw.dot (addC st c) ss = Vw.dot st ss + Vw.dot c ss
  | [], [], ss, _ => by simp [addC, Vw.dot]
  | a :: st, b :: c, [], _ => by simp [addC, Vw.dot]
  | a :: st, b :: c, s :: ss, h => by
    have ih := dot_addC st c ss (by simpa using h)
    unfold addC at ih ⊢
    simp only [List.zipWith_cons_cons, Vw.dot, ih, Int.add_mul]
    omega
  | [], _ :: _, _, h => by simp at h
  | _ :: _, [], _, h => by simp at h

theorem addC_at (st c : List Int) (i : Nat) (h1 : i < st.length) (h2 : i < c.length) : (addC st c).getD i 0 = st.getD i 0 + c.getD i 0 := by
  unfold addC
  rw [List.getD, List.getElem?_eq_getElem (by rw [List.length_zipWith]; omega), Option.getD_some, List.getElem_zipWith]
  simp [List.getD, h1, h2]

theorem part_place {l st x : List Int} (F : Fine l) (hp : Parts l st x) (n : Nat) (hn : (n : Int) < prod x) : (Vw.plc x (strd l) (Vw.dot st (strd l))).getD n 0 = offs l (addC st (crds x n)) ∧ inside l (addC st (crds x n)) = true := by
  have hm := (part_all F hp).1
  have hsl : (strd l).length = x.length := by rw [strd_length, hp.l2]
  have hcl : (crds x n).length = x.length := crds_length x n
  have e := Vw.plc_at x (strd l) (Vw.dot st (strd l)) hsl hm.fine.pos n hn
  have hal : (addC st (crds x n)).length = l.length := by unfold addC; rw [List.length_zipWith, hp.l1, hcl, hp.l2]; omega
  rw [e, ← dot_addC st _ _ (by rw [hp.l1, hcl, hp.l2]), dot_strd _ _ hal]
  refine ⟨rfl, ?_⟩
  have hin := crds_inside x n hm.fine.pos
  rw [inside_iff] at hin ⊢
  refine ⟨hal, fun k hk => ?_⟩
  have ho := hp.ok k hk
  have hc := hin.2 k (by rw [hp.l2]; exact hk)
  rw [addC_at _ _ _ (by rw [hp.l1]; exact hk) (by rw [hcl, hp.l2]; exact hk)]
  omega

theorem part_unlike {l st x : List Int} (F : Fine l) (hp : Parts l st x) : ((Vw.plc x (strd l) (Vw.dot st (strd l))).map Int.toNat).Nodup ∧ (∀ p ∈ Vw.plc x (strd l) (Vw.dot st (strd l)), 0 ≤ p ∧ p < prod l) ∧ (Vw.plc x (strd l) (Vw.dot st (strd l))).length = (prod x).toNat := by
  have hm := (part_all F hp).1
  have hsl : (strd l).length = x.length := by rw [strd_length, hp.l2]
  have hlen := Vw.plc_length x (strd l) (Vw.dot st (strd l)) hsl hm.fine.pos
  have hpx : 1 ≤ prod x := prod_pos _ hm.fine.pos
  obtain ⟨P, hP⟩ : ∃ P, P = Vw.plc x (strd l) (Vw.dot st (strd l)) := ⟨_, rfl⟩
  rw [← hP] at hlen ⊢
  have hat : ∀ n, n < P.length → P.getD n 0 = offs l (addC st (crds x n)) ∧ inside l (addC st (crds x n)) = true := fun n hn => by
    rw [hP]
    exact part_place F hp n (by rw [hlen] at hn; omega)
  have g : ∀ (i : Nat) (h : i < P.length), P[i] = P.getD i 0 := fun i h => by simp [List.getD, h]
  have hr : ∀ p ∈ P, 0 ≤ p ∧ p < prod l := fun p hpm => by
    obtain ⟨i, hi, rfl⟩ := List.getElem_of_mem hpm
    obtain ⟨h1, h2⟩ := hat i hi
    rw [g, h1]
    exact offs_in h2
  refine ⟨?_, hr, hlen⟩
  unfold List.Nodup
  rw [List.pairwise_iff_getElem]
  intro i j hi hj hlt hij
  simp only [List.length_map] at hi hj
  simp only [List.getElem_map] at hij
  have ri := hr _ (List.getElem_mem hi)
  have rj := hr _ (List.getElem_mem hj)
  have eij : P[i] = P[j] := by omega
  rw [g, g, (hat i hi).1, (hat j hj).1] at eij
  have ec : addC st (crds x i) = addC st (crds x j) := by rw [← crds_offs (hat i hi).2, ← crds_offs (hat j hj).2, eij]
  have hci : (crds x (i : Int)).length = x.length := crds_length x i
  have hcj : (crds x (j : Int)).length = x.length := crds_length x j
  have ecc : crds x (i : Int) = crds x (j : Int) := by
    refine List.ext_getElem (by rw [hci, hcj]) fun k h1 h2 => ?_
    have gg : ∀ (L : List Int) (h : k < L.length), L[k] = L.getD k 0 := fun L h => by simp [List.getD, h]
    have hk : k < x.length := by rw [← hci]; exact h1
    have e := congrArg (fun L : List Int => L.getD k 0) ec
    rw [addC_at _ _ _ (by rw [hp.l1, ← hp.l2]; exact hk) h1, addC_at _ _ _ (by rw [hp.l1, ← hp.l2]; exact hk) h2] at e
    rw [gg, gg]
    omega
  have o1 := offs_crds x i hm.fine.pos
  have o2 := offs_crds x j hm.fine.pos
  rw [ecc, o2, Int.emod_eq_of_lt (by omega) (by rw [hlen] at hj; omega), Int.emod_eq_of_lt (by omega) (by rw [hlen] at hi; omega)] at o1
  omega

def padL' (l st x : List Int) (v : Int) (xs : List Int) : List Int := putZ (List.replicate (prod l).toNat v) ((Vw.plc x (strd l) (Vw.dot st (strd l))).zip xs)

theorem pad_len (l st x : List Int) (v : Int) (xs : List Int) : (padL' l st x v xs).length = (prod l).toNat := by
  unfold padL'
  rw [putZ_len, List.length_replicate]

theorem pad_cut {l st x : List Int} {v : Int} {xs : List Int} (F : Fine l) (hp : Parts l st x) (hl : (xs.length : Int) = prod x) : Vw.rdL (Vw.dot st (strd l)) x (strd l) (padL' l st x v xs) = xs := by
  have hF := F.prod_pos
  obtain ⟨h1, h2, h3⟩ := part_unlike F hp
  have hpx : 1 ≤ prod x := prod_pos _ (part_all F hp).1.fine.pos
  unfold Vw.rdL
  rw [if_pos (part_rd F hp (by rw [pad_len]; omega))]
  unfold Vw.shows padL'
  obtain ⟨P, hP⟩ : ∃ P, P = Vw.plc x (strd l) (Vw.dot st (strd l)) := ⟨_, rfl⟩
  rw [← hP] at h1 h2 h3 ⊢
  have hPl : P.length = xs.length := by omega
  have hz : (P.zip xs).map (fun q => q.1.toNat) = P.map Int.toNat := by
    rw [show (fun q : Int × Int => q.1.toNat) = Int.toNat ∘ Prod.fst from rfl, ← List.map_map, List.map_fst_zip (by omega)]
  refine List.ext_getElem (by rw [List.length_map, hPl]) fun i i1 i2 => ?_
  rw [List.getElem_map]
  have hi : i < (P.zip xs).length := by rw [List.length_zip]; omega
  have hq := putZ_at (P.zip xs) (List.replicate (prod l).toNat v) (by rw [hz]; exact h1) (fun q hq => by
    have := h2 q.1 (List.of_mem_zip hq).1
    rw [List.length_replicate]
    omega) (P.zip xs)[i] (List.getElem_mem hi)
  rw [List.getElem_zip] at hq
  exact hq

end Go.Proofs.YtaoplfpigjkgpaaGreatDoor

namespace Go.Proofs.YtaoplfpigjkgpaaGreatDoor

open Go.RowKit

def inA (nm : ByteArray) (s : Sl) : Atr := ⟨nm, 7, 0, 0, ⟨#[]⟩, 0, nilS, nilS, s⟩

set_option maxRecDepth 100000 in
set_option maxHeartbeats 4000000 in
theorem mints_any (nm : ByteArray) (s : Sl) (w : World) : Calls Tryz.prog 13 #[.string nm, .slice s.a s.n s.c] w fun e w' => e = .returned (.slice (some ⟨w.heap.size, 0, none⟩) 1 1) ∧ w' = w.alloc (.cells #[.string nm, .int .i64 7, .int .i64 0, .int .i64 0, .string ⟨#[]⟩, .int .i64 0, .slice none 0 0, .slice none 0 0, .slice s.a s.n s.c] 41) := by
  obtain ⟨sa, sn, sc⟩ := s
  go_enter Tryz.func13, Tryz.ntmps13
  go_wp2
  go_ret
  exact ⟨rfl, rfl⟩

def inAt (op nm : ByteArray) (s : Sl) (P : List Int) : At := ⟨op, [inA nm s], [⟨[], [], P⟩]⟩

theorem in_attrs {w : World} {B : Nat} {nm : ByteArray} {s : Sl} (h : w.heap[B]? = some (.cells #[.string nm, .int .i64 7, .int .i64 0, .int .i64 0, .string ⟨#[]⟩, .int .i64 0, .slice none 0 0, .slice none 0 0, .slice s.a s.n s.c] 41 (0, 0))) : IsAttrs w (.slice (some ⟨B, 0, none⟩) 1 1) [inA nm s] :=
  lit_isLG (te := 41) (bytes := 136) (xs := [inA nm s]) acells_len h rfl rfl (Nat.le_of_ble_eq_true rfl) (Nat.le_of_ble_eq_true rfl)

theorem in_has {w : World} (op nm : ByteArray) {s : Sl} {P : List Int} (hp : IsInts w s.v P) : ∀ (j : Nat) (b : Atr), (inAt op nm s P).xs[j]? = some b → ∃ c, (inAt op nm s P).cs[j]? = some c ∧ Has w b c
  | 0, b, h => by
    cases h
    exact ⟨_, rfl, ⟨ints_nil w, ints_nil w, hp⟩⟩
  | _ + 1, b, h => by simp [inAt] at h

theorem in_ok {w : World} {op nm out : ByteArray} {iv s : Sl} {B : Nat} {P : List Int} (hp : IsInts w s.v P) (h : IsAttrs w (.slice (some ⟨B, 0, none⟩) 1 1) [inA nm s]) : NodeOk w ⟨op, ⟨#[]⟩, iv, out, ⟨some ⟨B, 0, none⟩, 1, 1⟩⟩ (inAt op nm s P) :=
  ⟨rfl, h, in_has op nm hp, fun b hb => by
    simp only [inAt, List.mem_cons, List.not_mem_nil, or_false] at hb
    subst hb
    show -9223372036854775808 ≤ (0 : Int) ∧ (0 : Int) ≤ 9223372036854775807
    omega⟩

theorem in_in {w : World} {op nm out : ByteArray} {iv s : Sl} {B : Nat} {P : List Int} {ins : List ByteArray} (hi : IsStrs w iv.v ins) (hp : IsInts w s.v P) (h : IsAttrs w (.slice (some ⟨B, 0, none⟩) 1 1) [inA nm s]) : NodeIn w ⟨op, ⟨#[]⟩, iv, out, ⟨some ⟨B, 0, none⟩, 1, 1⟩⟩ ins (inAt op nm s P).xs (inAt op nm s P).cs :=
  ⟨hi, h, in_has op nm hp, by simp [inAt], fun b hb => by
    simp only [inAt, List.mem_cons, List.not_mem_nil, or_false] at hb
    subst hb
    show 0 ≤ 1048576
    omega⟩

theorem x_strs {w : World} {B : Nat} (h : w.heap[B]? = some (.cells #[.string ⟨#[120]⟩] 9 (0, 0))) : IsStrs w (.slice (some ⟨B, 0, none⟩) 1 1) [⟨#[120]⟩] := lit_isLG (te := 9) (bytes := 16) (xs := [⟨#[120]⟩]) scell_len h rfl rfl (Nat.le_of_ble_eq_true rfl) (Nat.le_of_ble_eq_true rfl)

theorem axesO_some {rank : Nat} : ∀ {l : List Int} {is : List Bool}, is.length = rank → l.Nodup → (∀ a ∈ l, 0 ≤ a ∧ a < rank ∧ is.getD a.toNat false = false) → ∃ r, axesO rank l is = some r
  | [], is, _, _, _ => ⟨is, rfl⟩
  | a :: l, is, hl, hn, h => by
    obtain ⟨h1, h2, h3⟩ := h a (by simp)
    rw [List.nodup_cons] at hn
    have e : axisO a rank = some a.toNat := by
      have hf : fromEndP a rank = a := by unfold fromEndP; rw [if_neg (by omega)]
      unfold axisO
      rw [hf, if_neg (by omega), if_neg (by omega)]
    obtain ⟨r, hr⟩ := axesO_some (rank := rank) (l := l) (is := is.set a.toNat true) (by rw [List.length_set]; exact hl) hn.2 (fun b hb => by
      obtain ⟨b1, b2, b3⟩ := h b (by simp [hb])
      have hne : a.toNat ≠ b.toNat := fun e => hn.1 (by rw [show a = b by omega]; exact hb)
      refine ⟨b1, b2, ?_⟩
      simp only [List.getD] at b3 ⊢
      rw [List.getElem?_set_ne hne]
      exact b3)
    refine ⟨r, ?_⟩
    unfold axesO
    rw [e]
    simp only [h3, Bool.false_eq_true, if_false]
    exact hr

end Go.Proofs.YtaoplfpigjkgpaaGreatDoor
