/- Joined texts: MvSlice, MvSlDo, MvInts. -/
import Derived.Test.YtaoplfpigjkgpaaGreatDoorPartBO
import Derived.Test.YtaoplfpigjkgpaaGreatDoorPartBA
import Derived.Test.YtaoplfpigjkgpaaGreatDoorPartBH
import Derived.Test.YtaoplfpigjkgpaaGreatDoorPartBG
import Derived.Test.YtaoplfpigjkgpaaGreatDoorPartBC
import Derived.Test.YtaoplfpigjkgpaaGreatDoorPartAB
import Derived.Test.YtaoplfpigjkgpaaGreatDoorPartAV
namespace Go.Proofs.YtaoplfpigjkgpaaGreatDoor

open Go.RowKit

theorem boundedP_rng (s : Int) (d : Nat) : 0 ≤ boundedP s d ∧ boundedP s d ≤ d := by
  unfold boundedP
  split <;> (split <;> omega)

theorem slice_parts {x : List Int} (F : Fine x) : ∀ {L S E dims acc l : List Int}, L.length = S.length → S.length = E.length → Parts x acc dims → sliceL x L S E dims = .ok l → Parts x (stL x L S acc) l
  | [], [], [], dims, acc, l, _, _, hp, h => by cases h; exact hp
  | a :: L, s :: S, e :: E, dims, acc, l, h1, h2, hp, h => by
    simp only [sliceL] at h
    obtain ⟨ax, ha, h⟩ := bind_ok h
    obtain ⟨_, hm, h⟩ := bind_ok h
    have hi : axisO a x.length = some ax := by
      unfold axisP at ha
      split at ha
      · rename_i i hi; cases ha; exact hi
      · cases ha
    have hlt := axisO_lt hi
    have hse : boundedP s (x.getD ax 0).toNat < boundedP e (x.getD ax 0).toNat := by
      unfold mustP at hm
      split at hm
      · rename_i q; simpa using q
      · cases hm
    have b1 := boundedP_rng s (x.getD ax 0).toNat
    have b2 := boundedP_rng e (x.getD ax 0).toNat
    have hx := F.at ax hlt
    unfold stL
    rw [hi]
    simp only [Option.getD_some]
    refine slice_parts F (by simpa using h1) (by simpa using h2) ⟨by rw [List.length_set]; exact hp.l1, by rw [List.length_set]; exact hp.l2, fun i hi => ?_⟩ h
    have ho := hp.ok i hi
    have ga : ∀ (L : List Int) (z : Int), ax < L.length → (L.set ax z).getD i 0 = if ax = i then z else L.getD i 0 := fun L z hL => by
      simp only [List.getD]
      by_cases e : ax = i
      · subst e
        rw [if_pos rfl, List.getElem?_set_self hL]
        rfl
      · rw [if_neg e, List.getElem?_set_ne e]
    rw [ga acc _ (by rw [hp.l1]; exact hlt), ga dims _ (by rw [hp.l2]; exact hlt)]
    by_cases e : ax = i
    · subst e
      rw [if_pos rfl, if_pos rfl]
      omega
    · rw [if_neg e, if_neg e]
      exact ho
  | [], _ :: _, _, _, _, _, h, _, _, _ => by simp at h
  | _ :: _, [], _, _, _, _, h, _, _, _ => by simp at h
  | _, [], _ :: _, _, _, _, _, h, _, _ => by simp at h
  | _, _ :: _, [], _, _, _, _, h, _, _ => by simp at h

theorem sliced_ok {A : At} {x l : List Int} (F : Fine x) (h : slicedP A x = .ok l) : Parts x (startsP A x) l ∧ (A.ints ⟨#[97, 120, 101, 115]⟩ (upToP (A.ints ⟨#[115, 116, 97, 114, 116, 115]⟩ []).length)).length = (A.ints ⟨#[115, 116, 97, 114, 116, 115]⟩ []).length ∧ ∀ a ∈ A.ints ⟨#[97, 120, 101, 115]⟩ (upToP (A.ints ⟨#[115, 116, 97, 114, 116, 115]⟩ []).length), ∃ i, axisO a x.length = some i := by
  unfold slicedP at h
  simp only at h
  obtain ⟨_, hm, h⟩ := bind_ok h
  obtain ⟨r, ha, h⟩ := bind_ok h
  have hl : (A.ints ⟨#[115, 116, 97, 114, 116, 115]⟩ []).length = (A.ints ⟨#[101, 110, 100, 115]⟩ []).length ∧ (A.ints ⟨#[115, 116, 97, 114, 116, 115]⟩ []).length = (A.ints ⟨#[97, 120, 101, 115]⟩ (upToP (A.ints ⟨#[115, 116, 97, 114, 116, 115]⟩ []).length)).length := by
    unfold mustP at hm
    split at hm
    · rename_i q; simpa using q
    · cases hm
  refine ⟨?_, hl.2.symm, ?_⟩
  · refine slice_parts F hl.2.symm hl.1 ⟨by simp, rfl, fun i hi => ?_⟩ h
    have := F.at i hi
    have e : (List.replicate x.length (0 : Int)).getD i 0 = 0 := by simp [List.getD, hi]
    rw [e]
    omega
  · unfold axesP at ha
    split at ha
    · rename_i is his
      exact axesO_all his
    · cases ha

theorem dot_lst : ∀ {ds ss st dims : List Int}, st.length = ds.length → dims.length = ds.length → ss.length = ds.length → (∀ i, i < ds.length → st.getD i 0 + dims.getD i 0 ≤ ds.getD i 0) → (∀ s ∈ ss, 0 ≤ s) → Vw.dot st ss + Vw.lst dims ss ≤ Vw.lst ds ss
  | [], [], [], [], _, _, _, _, _ => by simp [Vw.dot, Vw.lst]
  | d :: ds, s :: ss, c :: st, e :: dims, h1, h2, h3, h, hs => by
    have ih := @dot_lst ds ss st dims (by simpa using h1) (by simpa using h2) (by simpa using h3) (fun i hi => by simpa using h (i + 1) (by simpa using hi)) (fun z hz => hs z (by simp [hz]))
    have h0 := h 0 (by simp)
    simp only [List.getD_cons_zero] at h0
    have hs0 := hs s (by simp)
    simp only [Vw.dot, Vw.lst]
    have k : (c + (e - 1)) * s ≤ (d - 1) * s := Int.mul_le_mul_of_nonneg_right (by omega) hs0
    rw [Int.add_mul] at k
    omega
  | [], _, _ :: _, _, h, _, _, _, _ => by simp at h
  | [], _, _, _ :: _, _, h, _, _, _ => by simp at h
  | [], _ :: _, _, _, _, _, h, _, _ => by simp at h
  | _ :: _, _, [], _, h, _, _, _, _ => by simp at h
  | _ :: _, _, _, [], _, h, _, _, _ => by simp at h
  | _ :: _, [], _, _, _, _, h, _, _ => by simp at h

theorem part_all {x st l : List Int} (F : Fine x) (hp : Parts x st l) : Vw.MayV (Vw.dot st (strd x)) l (strd x) ∧ Vw.dot st (strd x) + Vw.lst l (strd x) < prod x := by
  have hm := Vw.may_whole F
  have h1 := part_may hm hp (by rw [Vw.lst_whole x F.pos]; have := F.le; omega) x.length
  rw [cutD_all hp.l2] at h1
  have e : offK 0 (strd x) st x.length = Vw.dot st (strd x) := by
    unfold offK
    rw [← hp.l1, List.take_length, Int.zero_add]
  rw [e] at h1
  refine ⟨h1, ?_⟩
  have h2 := dot_lst (ss := strd x) hp.l1 hp.l2 (strd_length x) (fun i hi => (hp.ok i hi).2.2) (fun s hs => by have := strd_le F s hs; omega)
  rw [Vw.lst_whole x F.pos] at h2
  omega

theorem part_rd {x st l xs : List Int} (F : Fine x) (hp : Parts x st l) (hl : (xs.length : Int) = prod x) : Vw.rdOk (Vw.dot st (strd x)) l (strd x) xs = true := by
  obtain ⟨h1, h2⟩ := part_all F hp
  unfold Vw.rdOk
  rw [Vw.mayB_iff.2 h1, Bool.true_and, decide_eq_true_eq, hl]
  exact h2

set_option maxRecDepth 100000 in
set_option maxHeartbeats 4000000 in
theorem partfrom_any (s : Sl) (w : World) : Calls Tryz.prog 29 #[.slice s.a s.n s.c] w fun e w' => e = .returned (.func (.func 52) #[] #[.pointer (some ⟨w.heap.size, 0, none⟩)]) ∧ w' = w.alloc (.cells #[.slice s.a s.n s.c] 29) := by
  obtain ⟨sa, sn, sc⟩ := s
  go_enter Tryz.func29, Tryz.ntmps29
  go_wp2
  go_ret
  exact ⟨rfl, rfl⟩

set_option maxRecDepth 100000 in
set_option maxHeartbeats 8000000 in
theorem moved_slice (n : Nod) (A : At) (hop : n.op = ⟨#[83, 108, 105, 99, 101]⟩) (u : Sl) (T0 : Ten) (x xs : List Int) (nam0 : ByteArray) (vty : Int) (dv : Sl) (l : List Int) (w : World) (hno : NodeOk w n A) (hv : TensIn w u.v [(T0, (x, xs))]) (hd : IsInts w dv.v l) (hc : cntE x = 0) (hxl : (xs.length : Int) = prod x) (hsl : slicedP A x = .ok l) :
    Calls Tryz.prog 18 #[nval n, .slice u.a u.n u.c, .agg #[.string nam0, .int .i64 vty, .slice dv.a dv.n dv.c]] w (EvQ w (.ok (Vw.rdL (Vw.dot (startsP A x) (strd x)) l (strd x) xs))) := by
  have F := fine_of hc
  obtain ⟨hP, hLS, hAX⟩ := sliced_ok F hsl
  have hr := part_rd F hP hxl
  obtain ⟨P, hPe⟩ : ∃ P, P = startsP A x := ⟨_, rfl⟩
  rw [← hPe] at hP hr ⊢
  have ST : Hid (∀ wx (dx : Sl), w.grownBy wx none → IsInts wx dx.v x → Calls Tryz.prog 30 #[nval n, .slice dx.a dx.n dx.c] wx fun e w' => ∃ v : Sl, e = .returned v.v ∧ IsInts w' v.v P ∧ wx.grownBy w' none) := fun wx dx hx hdx => by rw [hPe]; exact starts_any n A dx x wx (hno.more hx) hdx F hLS hAX
  obtain ⟨za, zn, zc⟩ := dv
  have HZ := hide hd
  obtain ⟨xa, xc, e1, p1, p2, p3⟩ := hv.vals.form
  obtain ⟨ua, un, uc⟩ := u
  simp only [Sl.v, List.map_cons, List.map_nil, List.length_cons, List.length_nil, Value.slice.injEq] at e1
  obtain ⟨rfl, rfl, rfl⟩ := e1
  obtain ⟨ub, uo, rfl⟩ := hv.vals.addr (k := 0) (by simp)
  obtain ⟨t0, t1, t2⟩ := hv.at 0 (by simp)
  have HH0 := hide (hv.has (T0, (x, xs)) (by simp))
  obtain ⟨tx, ⟨xda, xdn, xdc⟩, ⟨xta, xtn, xtc⟩⟩ := T0
  simp only [List.getElem_cons_zero, Nat.zero_mul, Nat.add_zero] at t0 t1 t2 HH0
  have AS : Hid (∀ (wx : World) (sv : Sl) (p : Nat), w.grownBy wx none → IsInts wx sv.v P → wx.heap[p]? = some (.cells #[.slice sv.a sv.n sv.c] 29 (0, 0)) → Calls Tryz.prog 22 #[.agg #[.int .i64 tx, .slice xda xdn xdc, .slice xta xtn xtc], .func (.func 52) #[] #[.pointer (some ⟨p, 0, none⟩)], .slice za zn zc] wx (AspQ wx x xs P l)) := fun wx sv p hx hsv hbp => asp_any ⟨tx, ⟨xda, xdn, xdc⟩, ⟨xta, xtn, xtc⟩⟩ x xs l P ⟨za, zn, zc⟩ sv p wx hc hP (HH0.out.1.more hx) (HH0.out.2.more hx) (HZ.out.more hx) hsv hbp
  have RE : Hid (Vw.rdE (Vw.dot P (strd x)) l (strd x) xs = 0) := if_pos hr
  obtain ⟨op, nam, ⟨ia, il, ic⟩, out, ⟨ao, al, cap⟩⟩ := n
  simp only at hop
  subst hop
  unfold nval at ST ⊢
  simp only at ST ⊢
  obtain ⟨w0, hw0⟩ : ∃ w0, w0 = (w.alloc (.cells #[.string ⟨#[83, 108, 105, 99, 101]⟩, .string nam, .slice ia il ic, .string out, .slice ao al cap] 25)).alloc (.cells #[.string nam0, .int .i64 vty, .slice za zn zc] 50) := ⟨_, rfl⟩
  have g0 : w.grownBy w0 none := by rw [hw0]; exact grown_trans (grown_new _ _) (grown_new _ _)
  have hbx := two_boxes w (.cells #[.string ⟨#[83, 108, 105, 99, 101]⟩, .string nam, .slice ia il ic, .string out, .slice ao al cap] 25) (.cells #[.string nam0, .int .i64 vty, .slice za zn zc] 50)
  rw [← hw0] at hbx
  obtain ⟨n0, n1, n2, n3, n4⟩ := nod_cells (n := ⟨⟨#[83, 108, 105, 99, 101]⟩, nam, ⟨ia, il, ic⟩, out, ⟨ao, al, cap⟩⟩) hbx.1
  obtain ⟨v0, v1, v2⟩ := ten_cells hbx.2
  have t0 := cell_still t0 g0
  have t1 := cell_still t1 g0
  have t2 := cell_still t2 g0
  have G0 := hide g0
  have i0' : (0 : Int) < 1 := by decide
  clear hbx hv hd hno hc hP hr hPe g0 p1 p2 p3 hLS hAX hsl hxl F
  rw [hw0] at n0
  go_enter Tryz.func18, Tryz.ntmps18
  go_wp2_with fail
  rw [← hw0]
  rw [← hw0] at n0
  clear hw0
  refine wp_region_held_drew (S := fun w' => w0.grownBy w' none) (by kernel_rfl) (grown_drew (grown_refl _)) (fun hHeld => ?_)
  refine wpAnyH_take (i := 0) (v := ?_) rfl (by kernel_rfl) (by kernel_rfl) (by kernel_rfl) (fun _ _ _ h => h) (Or.inl ⟨by kernel_rfl, ?_⟩) (by assumption) ?_
  rotate_left 1
  · (intro wS hSw; go_simp; (try with_reducible rfl))
  try simp only [Act.put]
  refine wpAnyH_take (i := 1) (v := ?_) rfl (by kernel_rfl) (by kernel_rfl) (by kernel_rfl) (fun _ _ _ h => h) (Or.inl ⟨by kernel_rfl, ?_⟩) (by assumption) ?_
  rotate_left 1
  · (intro wS hSw; go_simp; (try with_reducible rfl))
  try simp only [Act.put]
  refine wpAnyH_take (i := 2) (v := ?_) rfl (by kernel_rfl) (by kernel_rfl) (by kernel_rfl) (fun _ _ _ h => h) (Or.inl ⟨by kernel_rfl, ?_⟩) (by assumption) ?_
  rotate_left 1
  · (intro wS hSw; have c0 := cell_still t0 hSw; have c1 := cell_still t1 hSw; have c2 := cell_still t2 hSw; go_simp; (try with_reducible rfl))
  try simp only [Act.put]
  refine wpAnyH_take (i := 3) (v := ?_) rfl (by kernel_rfl) (by kernel_rfl) (by kernel_rfl) (fun _ _ _ h => h) (Or.inl ⟨by kernel_rfl, ?_⟩) (by assumption) ?_
  rotate_left 1
  · (intro wS hSw; have c0 := cell_still n0 hSw; have c1 := cell_still n1 hSw; have c2 := cell_still n2 hSw; have c3 := cell_still n3 hSw; have c4 := cell_still n4 hSw; go_simp; (try with_reducible rfl))
  try simp only [Act.put]
  refine wpAnyH_take (i := 4) (v := ?_) rfl (by kernel_rfl) (by kernel_rfl) (by kernel_rfl) (fun _ _ _ h => h) (Or.inl ⟨by kernel_rfl, ?_⟩) (by assumption) ?_
  rotate_left 1
  · (intro wS hSw; go_simp; (try with_reducible rfl))
  try simp only [Act.put]
  refine wpAnyH_take (i := 5) (v := ?_) rfl (by kernel_rfl) (by kernel_rfl) (by kernel_rfl) (fun _ _ _ h => h) (Or.inl ⟨by kernel_rfl, ?_⟩) (by assumption) ?_
  rotate_left 1
  · (intro wS hSw; go_simp; (try with_reducible rfl))
  try simp only [Act.put]
  refine wpAnyH_take (i := 6) (v := ?_) rfl (by kernel_rfl) (by kernel_rfl) (by kernel_rfl) (fun _ _ _ h => h) (Or.inl ⟨by kernel_rfl, ?_⟩) (by assumption) ?_
  rotate_left 1
  · (intro wS hSw; go_simp; (try with_reducible rfl))
  try simp only [Act.put]
  refine wpAnyH_take (i := 7) (v := ?_) rfl (by kernel_rfl) (by kernel_rfl) (by kernel_rfl) (fun _ _ _ h => h) (Or.inl ⟨by kernel_rfl, ?_⟩) (by assumption) ?_
  rotate_left 1
  · (intro wS hSw; have c0 := cell_still t1 hSw; go_simp; (try with_reducible rfl))
  try simp only [Act.put]
  refine wpAnyH_take (i := 10) (v := ?_) rfl (by kernel_rfl) (by kernel_rfl) (by kernel_rfl) (fun _ _ _ h => h) (Or.inl ⟨by kernel_rfl, ?_⟩) (by assumption) ?_
  rotate_left 1
  · (intro wS hSw; go_simp; (try with_reducible rfl))
  try simp only [Act.put]
  refine wpAnyH_take (i := 11) (v := ?_) rfl (by kernel_rfl) (by kernel_rfl) (by kernel_rfl) (fun _ _ _ h => h) (Or.inl ⟨by kernel_rfl, ?_⟩) (by assumption) ?_
  rotate_left 1
  · (intro wS hSw; have c0 := cell_still v2 hSw; go_simp; (try with_reducible rfl))
  try simp only [Act.put]
  refine wpAnyH_ready (rs := [8]) (by kernel_rfl) (by simp) ?_
  refine AllReadyH.cons rfl (fun K hK => ?_) AllReadyH.nil
  go_simp
  refine (ST.out w0.drew ⟨xda, xdn, xdc⟩ (grown_drew G0.out) (HH0.out.1.more (grown_drew G0.out))).mono ?_
  rintro e w1 ⟨⟨pa, pn, pc⟩, rfl, ip, hg1⟩
  have g1 : w0.grownBy w1 none := grown_trans (grown_drew (grown_refl _)) hg1
  refine hK.out _ _ g1 (fun hHeld => ?_)
  clear hK K
  try simp only [Act.put]
  refine wpAnyH_ready (rs := [9]) (by kernel_rfl) (by simp) ?_
  refine AllReadyH.cons rfl (fun K hK => ?_) AllReadyH.nil
  go_simp
  refine (partfrom_any ⟨pa, pn, pc⟩ w1).mono ?_
  rintro e w2 ⟨rfl, hw2⟩
  have b2 := heap_alloc_new w1 (.cells #[.slice pa pn pc] 29)
  simp only at hw2
  rw [← hw2] at b2
  have g12 : w1.grownBy w2 none := by rw [hw2]; exact grown_new _ _
  clear hw2
  have g2 : w0.grownBy w2 none := grown_trans g1 g12
  refine hK.out _ _ g2 (fun hHeld => ?_)
  clear hK K
  try simp only [Act.put]
  refine wpAnyH_ready (rs := [12]) (by kernel_rfl) (by simp) ?_
  refine AllReadyH.cons rfl (fun K hK => ?_) AllReadyH.nil
  go_simp
  refine (AS.out w2 ⟨pa, pn, pc⟩ w1.heap.size (grown_trans G0.out g2) (ip.more g12) b2).mono ?_
  rintro e w3 ⟨⟨ra, rn, rc⟩, rfl, ho3, hg3⟩
  have g3 : w0.grownBy w3 none := grown_trans g2 hg3
  rw [RE.out]
  refine hK.out _ _ g3 (fun hHeld => ?_)
  clear hK K
  refine wpAnyH_take (i := 13) (v := ?_) rfl (by kernel_rfl) (by kernel_rfl) (by kernel_rfl) (fun _ _ _ h => h) (Or.inl ⟨by kernel_rfl, ?_⟩) (by assumption) ?_
  rotate_left 1
  · (intro wS hSw; go_simp; (try with_reducible rfl))
  try simp only [Act.put]
  refine wpAnyH_take (i := 14) (v := ?_) rfl (by kernel_rfl) (by kernel_rfl) (by kernel_rfl) (fun _ _ _ h => h) (Or.inl ⟨by kernel_rfl, ?_⟩) (by assumption) ?_
  rotate_left 1
  · (intro wS hSw; go_simp; (try with_reducible rfl))
  try simp only [Act.put]
  refine wpAnyH_take (i := 15) (v := ?_) rfl (by kernel_rfl) (by kernel_rfl) (by kernel_rfl) (fun _ _ _ h => h) (Or.inl ⟨by kernel_rfl, ?_⟩) (by assumption) ?_
  rotate_left 1
  · (intro wS hSw; go_simp; (try with_reducible rfl))
  try simp only [Act.put]
  refine wpAnyH_take (i := 16) (v := ?_) rfl (by kernel_rfl) (by kernel_rfl) (by kernel_rfl) (fun _ _ _ h => h) (Or.inl ⟨by kernel_rfl, ?_⟩) (by assumption) ?_
  rotate_left 1
  · (intro wS hSw; go_simp; (try with_reducible rfl))
  try simp only [Act.put]
  refine wpAnyH_done (by kernel_rfl) ?_ _
  have HO : Hid (OwnsE w3 w.heap.size (.slice ra rn rc) (Vw.rdL (Vw.dot P (strd x)) l (strd x) xs)) := ⟨ownsRow_base ho3.1 (Nat.le_trans G0.out.size g2.size), ho3.2⟩
  have HG := hide (grown_trans G0.out g3)
  clear ho3 hg3 g3 g2 hg1 g1 ip b2 g12 t0 t1 t2 n0 n1 n2 n3 n4 v0 v1 v2 hHeld
  go_simp
  go_wp2
  go_ret2
  exact ev_ok rfl HG.out ⟨⟨ra, rn, rc⟩, rfl, HO.out⟩

end Go.Proofs.YtaoplfpigjkgpaaGreatDoor

namespace Go.Proofs.YtaoplfpigjkgpaaGreatDoor

open Go.RowKit

theorem bindE {α β : Type} {c : Int} {r : R α} {f : α → R β} (h : r.bind f = .error c) : r = .error c ∨ ∃ a, r = .ok a ∧ f a = .error c := by
  cases r with
  | error c' => exact .inl (by cases h; rfl)
  | ok a => exact .inr ⟨a, rfl, h⟩

theorem nz_mustE {b : Bool} {c : Int} (h : mustP b = .error c) : c ≠ 0 := by
  unfold mustP at h
  split at h
  · cases h
  · cases h; decide

theorem nz_axisP {a c : Int} {r : Nat} (h : axisP a r = .error c) : c ≠ 0 := by
  unfold axisP at h
  split at h
  · cases h
  · cases h; decide

theorem nz_sliceL (x : List Int) (c : Int) : ∀ (L S E dims : List Int), sliceL x L S E dims = .error c → c ≠ 0
  | a :: L, s :: S, e :: E, dims, h => by
    simp only [sliceL] at h
    rcases bindE h with h | ⟨_, -, h⟩
    · exact nz_axisP h
    rcases bindE h with h | ⟨_, -, h⟩
    · exact nz_mustE h
    exact nz_sliceL x c L S E _ h
  | [], _, _, _, h => by simp [sliceL] at h
  | _ :: _, [], _, _, h => by simp [sliceL] at h
  | _ :: _, _ :: _, [], _, h => by simp [sliceL] at h

theorem nz_sliced (A : At) (x : List Int) : ∀ c, slicedP A x = .error c → c ≠ 0 := by
  intro c h
  unfold slicedP at h
  simp only at h
  rcases bindE h with h | ⟨_, -, h⟩
  · exact nz_mustE h
  rcases bindE h with h | ⟨_, -, h⟩
  · unfold axesP at h
    split at h
    · cases h
    · cases h; decide
  · exact nz_sliceL _ _ _ _ _ _ h

theorem nz_outD (t : Int) (x : List Int) (d : R (List Int)) (hd : ∀ c, d = .error c → c ≠ 0) : ∀ c, outT t x d = .error c → c ≠ 0 := by
  intro c h
  unfold outT at h
  rcases bindE h with h | ⟨_, -, h⟩
  · exact nz_typT h
  rcases bindE h with h | ⟨_, -, h⟩
  · exact nz_cntT h
  rcases bindE h with h | ⟨_, -, h⟩
  · exact hd _ h
  rcases bindE h with h | ⟨_, -, h⟩
  · exact nz_cntT h
  · cases h

theorem soutG (n : Nod) (A : At) (i1 : ByteArray) (hop : n.op = ⟨#[83, 108, 105, 99, 101]⟩) (u : Sl) (v0 : Val) (x : List Int) (w : World) (hl : Laid w) (hni : NodeIn w n [i1] A.xs A.cs) (hno : NodeOk w n A) (hck : checkF (ruleF n.op) n.op [i1] n.out A.xs A.cs = 0) (hth : thenL (A.xs.find? (isA ⟨#[116, 104, 101, 110]⟩ 3)) = []) (ho : n.out.size ≤ 1048576) (hv : ValsIn w u.v [(v0, x)]) :
    Calls Tryz.prog 38 #[nval n, .slice u.a u.n u.c] w (AttQ n.out w (outT v0.ty x (slicedP A x))) := by
  refine out_any n u _ w fun wx hx => ?_
  have key := valueof_any n A [i1] u [(v0, x)] wx (hl.more hx) (hni.more hx) (hv.more hx) (by omega) _ _ (fun hc hll hin wy hy => ((type_same n A u [(v0, x)] wy (by rw [hop]; simp) (hno.more (grown_trans hx hy)) (hv.more (grown_trans hx hy)) (by simp) (by simp) (vinT hin).1).mono fun e w' he => ended_monoE he fun t v e1 e2 => ⟨e2, sameP_typ e1 (by simp [tysOf]) (vinT hin).1⟩)) (fun hc hll hin wy hy => dims_sliced n A u v0 x wy (by rw [hop]; simp) (hno.more (grown_trans hx hy)) (hv.more (grown_trans hx hy)) (fine_of (vinT hin).2))
  rw [hck, hth] at key
  have e := valueT v0 x (slicedP A x)
  refine key.mono fun e' w' he => ?_
  rw [← e]
  exact ended_monoE he fun r v _ e2 => e2

def slG (A : At) (t : Int) (x xs : List Int) : R (Int × List Int × List Int) :=
  doR (nodeP [tq t x xs] (outT t x (slicedP A x))) fun l => .ok (Vw.rdL (Vw.dot (startsP A x) (strd x)) l (strd x) xs)

theorem sl_do (n : Nod) (A : At) (i1 : ByteArray) (hop : n.op = ⟨#[83, 108, 105, 99, 101]⟩) (u : Sl) (T0 : Ten) (x xs : List Int) (w : World) (hl : Laid w) (hni : NodeIn w n [i1] A.xs A.cs) (hno : NodeOk w n A) (hck : checkF (ruleF n.op) n.op [i1] n.out A.xs A.cs = 0) (hth : thenL (A.xs.find? (isA ⟨#[116, 104, 101, 110]⟩ 3)) = []) (ho : n.out.size ≤ 1048576) (hv : TensIn w u.v [(T0, (x, xs))]) :
    Calls Tryz.prog 11 #[nval n, .slice u.a u.n u.c] w (DoQ w (slG A T0.ty x xs)) := by
  refine mdo_any _ u _ w fun wx hx => mbdo_any _ u _ _ wx (nz_node (nz_outD _ _ _ (nz_sliced _ _))) (fun l => nz_ok _) (fun wy hy => ?_) (fun wy ty dv l hy hr hd => ?_)
  · have hg := grown_trans hx hy
    refine bnode_any n u [(T0, (x, xs))] _ wy (hv.more hg) (by simp) fun wz s vs hz hvs h1 h2 => ?_
    obtain ⟨v0, rfl, e0⟩ := one_valT h1 h2
    have key := soutG n A i1 hop s v0 x wz (hl.more (grown_trans hg hz)) (hni.more (grown_trans hg hz)) (hno.more (grown_trans hg hz)) hck hth ho hvs
    rw [e0] at key
    exact key
  · have hg := grown_trans hx hy
    obtain ⟨hall, hr⟩ := node_inv hr
    obtain ⟨-, c1, hp, c3⟩ := outT_inv hr
    simp only [tq, okT, List.all_cons, List.all_nil, Bool.and_true, beq_iff_eq] at hall
    exact moved_slice n A hop u T0 x xs _ ty dv l wy (hno.more hg) (hv.more hg) hd c1 (pb_inv hall).2 hp

theorem slG_inv {A : At} {t ty : Int} {x xs l zs : List Int} (h : slG A t x xs = .ok (ty, l, zs)) : ty = t ∧ cntE x = 0 ∧ cntE l = 0 ∧ slicedP A x = .ok l ∧ zs = Vw.rdL (Vw.dot (startsP A x) (strd x)) l (strd x) xs ∧ pbE t x xs = 0 ∧ ∃ q, typP t = .ok q := by
  unfold slG doR at h
  split at h
  · rename_i ty' l' hn
    obtain ⟨hall, ho⟩ := node_inv hn
    obtain ⟨e1, c1, hp, c3⟩ := outT_inv ho
    simp only [tq, okT, List.all_cons, List.all_nil, Bool.and_true, beq_iff_eq] at hall
    cases h
    refine ⟨e1, c1, c3, hp, rfl, hall, ?_⟩
    unfold outT at ho
    obtain ⟨q, hq, -⟩ := bind_ok ho
    exact ⟨q, hq⟩
  · cases h

theorem nz_slG (A : At) (t : Int) (x xs : List Int) : ∀ c, slG A t x xs = .error c → c ≠ 0 := by
  intro c h
  unfold slG doR at h
  split at h
  · cases h
  · rename_i c' hn
    cases h
    exact nz_node (nz_outD _ _ _ (nz_sliced _ _)) _ hn

end Go.Proofs.YtaoplfpigjkgpaaGreatDoor

namespace Go.Proofs.YtaoplfpigjkgpaaGreatDoor

open Go.RowKit

def inA (nm : ByteArray) (s : Sl) : Atr := ⟨nm, 7, 0, 0, ⟨#[]⟩, 0, nilS, nilS, s⟩

set_option maxRecDepth 100000 in
set_option maxHeartbeats 4000000 in
theorem mints_any (nm : ByteArray) (s : Sl) (w : World) : Calls Tryz.prog 13 #[.string nm, .slice s.a s.n s.c] w fun e w' => e = .returned (.slice (some ⟨w.heap.size, 0, none⟩) 1 1) ∧ w' = w.alloc (.cells #[.string nm, .int .i64 7, .int .i64 0, .int .i64 0, .string ⟨#[]⟩, .int .i64 0, .slice none 0 0, .slice none 0 0, .slice s.a s.n s.c] 41) := by
  obtain ⟨sa, sn, sc⟩ := s
  go_enter Tryz.func13, Tryz.ntmps13
  go_wp2
  go_ret
  exact ⟨rfl, rfl⟩

theorem set_grown (x : World) (B j : Nat) (v : Value) : x.grownBy (x.setCell ⟨B, j, none⟩ v) (some B) :=
  ⟨rfl, rfl, rfl, by simp [World.setCell], fun k _ hk => Below.heap_setCell _ _ _ _ (fun e => hk (by rw [e]))⟩

theorem x_strs {w : World} {B : Nat} (h : w.heap[B]? = some (.cells #[.string ⟨#[120]⟩] 9 (0, 0))) : IsStrs w (.slice (some ⟨B, 0, none⟩) 1 1) [⟨#[120]⟩] := lit_isLG (te := 9) (bytes := 16) (xs := [⟨#[120]⟩]) scell_len h rfl rfl (Nat.le_of_ble_eq_true rfl) (Nat.le_of_ble_eq_true rfl)

end Go.Proofs.YtaoplfpigjkgpaaGreatDoor
