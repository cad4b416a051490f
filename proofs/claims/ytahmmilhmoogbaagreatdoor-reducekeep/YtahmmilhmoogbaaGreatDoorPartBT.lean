/- Joined texts: RdKeepP. -/
import Derived.Test.YtahmmilhmoogbaaGreatDoorPartBS
namespace Go.Proofs.YtahmmilhmoogbaaGreatDoor

open Go.RowKit

theorem prod_geR {l : List Int} (h : ∀ z ∈ l, 1 ≤ z) : 1 ≤ prod l := by
  induction l with
  | nil => exact Int.le_refl _
  | cons a l ih =>
    have i1 := ih (fun z hz => h z (by simp [hz]))
    have m : 1 * prod l ≤ a * prod l := Int.mul_le_mul_of_nonneg_right (h a (by simp)) (by omega)
    show 1 ≤ a * prod l
    omega

theorem kept_fine (keep : Bool) : ∀ (x : List Int) (g : List Bool), (∀ z ∈ x, 1 ≤ z) → (∀ z ∈ keptL keep x g, 1 ≤ z) ∧ 1 ≤ prod (keptL keep x g) ∧ prod (keptL keep x g) ≤ prod x
  | [], g, _ => by simp [keptL, prod]
  | d :: x, [], h => by
    have hp : 1 ≤ prod (d :: x) := prod_geR h
    simp only [keptL]
    exact ⟨fun z hz => by simp at hz, Int.le_refl _, hp⟩
  | d :: x, b :: g, h => by
    have hd : 1 ≤ d := h d (by simp)
    obtain ⟨i1, i2, i3⟩ := kept_fine keep x g (fun z hz => h z (by simp [hz]))
    have m0 : 1 * prod x ≤ d * prod x := Int.mul_le_mul_of_nonneg_right hd (by omega)
    have m1 : d * prod (keptL keep x g) ≤ d * prod x := Int.mul_le_mul_of_nonneg_left i3 (by omega)
    have m2 : 1 * prod (keptL keep x g) ≤ d * prod (keptL keep x g) := Int.mul_le_mul_of_nonneg_right hd (by omega)
    simp only [keptL]
    split
    · refine ⟨fun z hz => ?_, ?_, ?_⟩
      · rcases List.mem_cons.1 hz with rfl | hz
        · exact hd
        · exact i1 z hz
      · show 1 ≤ d * prod (keptL keep x g)
        omega
      · exact m1
    · split
      · refine ⟨fun z hz => ?_, ?_, ?_⟩
        · rcases List.mem_cons.1 hz with rfl | hz
          · exact Int.le_refl _
          · exact i1 z hz
        · show 1 ≤ 1 * prod (keptL keep x g)
          omega
        · show 1 * prod (keptL keep x g) ≤ d * prod x
          omega
      · exact ⟨i1, i2, by show _ ≤ d * prod x; omega⟩

theorem kept_cnt (keep : Bool) {x : List Int} (g : List Bool) (h : cntE x = 0) : countP (keptL keep x g) = .ok (prod (keptL keep x g)) := by
  have F := fine_of h
  obtain ⟨i1, -, i3⟩ := kept_fine keep x g F.pos
  have hl := keptL_len keep x g
  unfold countP
  rw [if_pos (cntE_ok i1 (by have := F.few; omega) (by have := F.le; omega))]

theorem kept_all : ∀ (x : List Int) (g : List Bool), g.length = x.length → (keptL true x g).length = x.length
  | [], _, _ => by simp [keptL]
  | d :: x, [], h => by simp at h
  | d :: x, b :: g, h => by
    have ih := kept_all x g (by simpa using h)
    simp only [keptL]
    split
    · simp [ih]
    · simp [ih]

structure Kept (x : List Int) (r0 r1 : R (Int × List Int × List Int)) : Prop where
  err : rC r0 = rC r1
  dat : rZ r0 = rZ r1
  len : rC r1 = 0 → (rL r1).length = x.length
  nz0 : ∀ c, r0 = .error c → c ≠ 0
  nz1 : ∀ c, r1 = .error c → c ≠ 0

theorem kept_err (x : List Int) {c : Int} (h : c ≠ 0) : Kept x (.error c) (.error c) := ⟨rfl, rfl, fun e => absurd e h, fun c' e => by cases e; exact h, fun c' e => by cases e; exact h⟩

theorem keep_rel {A0 A1 : At} {t : Int} {x D : List Int} {L : List Int} {ts : R Int} {ps : List (Ten × Tq)} (hts : ∀ c, ts = .error c → c ≠ 0) (h0 : reducedP A0 x = (axesP L x.length).bind fun g => .ok (keptL false x g)) (h1 : reducedP A1 x = (axesP L x.length).bind fun g => .ok (keptL true x g)) :
    Kept x (doR (nodeP ps (outR t x ts (reducedP A0 x))) fun _ => .ok D) (doR (nodeP ps (outR t x ts (reducedP A1 x))) fun _ => .ok D) := by
  rw [h0, h1]
  unfold nodeP outR
  split
  · cases h2 : typP t with
    | error c => exact kept_err x (nz_typT h2)
    | ok _ =>
      cases h3 : countP x with
      | error c => exact kept_err x (nz_cntT h3)
      | ok n =>
        cases h4 : ts with
        | error c => exact kept_err x (hts c h4)
        | ok t' =>
          cases h5 : axesP L x.length with
          | error c => exact kept_err x (nz_axesR h5)
          | ok g =>
            have hg : g.length = x.length := by
              unfold axesP at h5
              split at h5
              · rename_i is hs
                cases h5
                rw [axesO_length hs, List.length_replicate]
              · cases h5
            have e0 := kept_cnt false g (count_ok h3)
            have e1 := kept_cnt true g (count_ok h3)
            simp only [Except.bind]
            rw [e0, e1]
            exact ⟨rfl, rfl, fun _ => kept_all x g hg, fun c e => (by cases e), fun c e => (by cases e)⟩
  · exact kept_err x (by decide)

theorem red_zero (A : At) (x : List Int) (L : List Int) (hk : A.int ⟨#[107, 101, 101, 112, 100, 105, 109, 115]⟩ 1 = 0) (ha : alongP A x.length = L) : reducedP A x = (axesP L x.length).bind fun g => .ok (keptL false x g) := by
  unfold reducedP
  rw [hk, ha]
  rfl

theorem red_one (A : At) (x : List Int) (L : List Int) (hk : A.int ⟨#[107, 101, 101, 112, 100, 105, 109, 115]⟩ 1 = 1) (ha : alongP A x.length = L) : reducedP A x = (axesP L x.length).bind fun g => .ok (keptL true x g) := by
  unfold reducedP
  rw [hk, ha]
  rfl

theorem gone_of {A : At} {x L : List Int} (ha : alongP A x.length = L) : goneP A x = (axesO x.length L (List.replicate x.length false)).getD [] := by
  unfold goneP
  rw [ha]

def opsK : List ByteArray := [⟨#[82, 101, 100, 117, 99, 101, 83, 117, 109]⟩, ⟨#[82, 101, 100, 117, 99, 101, 77, 97, 120]⟩, ⟨#[82, 101, 100, 117, 99, 101, 77, 101, 97, 110]⟩, ⟨#[65, 114, 103, 77, 97, 120]⟩]

theorem sum_s (k t : Int) (s : Sl) (L x xs : List Int) : sumR (kpAt ⟨#[82, 101, 100, 117, 99, 101, 83, 117, 109]⟩ k nilS L) t x xs = sumR (kpAt ⟨#[82, 101, 100, 117, 99, 101, 83, 117, 109]⟩ k s L) t x xs := by kernel_rfl
theorem max_s (k t : Int) (s : Sl) (L x xs : List Int) : maxR (kpAt ⟨#[82, 101, 100, 117, 99, 101, 77, 97, 120]⟩ k nilS L) t x xs = maxR (kpAt ⟨#[82, 101, 100, 117, 99, 101, 77, 97, 120]⟩ k s L) t x xs := by kernel_rfl
theorem mean_s (k t : Int) (s : Sl) (L x xs : List Int) : meanR (kpAt ⟨#[82, 101, 100, 117, 99, 101, 77, 101, 97, 110]⟩ k nilS L) t x xs = meanR (kpAt ⟨#[82, 101, 100, 117, 99, 101, 77, 101, 97, 110]⟩ k s L) t x xs := by kernel_rfl

def NodeQ (op : ByteArray) (t : Int) (x xs : List Int) (r : R (Int × List Int × List Int)) (w : World) (e : Ending) (w' : World) : Prop :=
  ∃ (iv av : Sl), e = .returned (.agg #[.string op, .string ⟨#[]⟩, .slice iv.a iv.n iv.c, .string ⟨#[122]⟩, .slice av.a av.n av.c]) ∧ w.grownBy w' none ∧ ∀ (wx : World) (u : Sl) (T0 : Ten), T0.ty = t → w'.grownBy wx none → TensIn wx u.v [(T0, (x, xs))] → Calls Tryz.prog 9 #[.agg #[.string op, .string ⟨#[]⟩, .slice iv.a iv.n iv.c, .string ⟨#[122]⟩, .slice av.a av.n av.c], .slice u.a u.n u.c] wx (DoQ wx r)

theorem keep_any (q : Nat) (hq : q < 4) (t a : Int) (x xs : List Int) (ha : Rng a) (w : World) (hl : Laid w) : ∃ r0 r1, Kept x r0 r1 ∧ ∀ v, w.grownBy v none → Calls Tryz.prog 10 #[.string (opsK.getD q ⟨#[]⟩), .int .i64 a, .int .i64 0] v (NodeQ (opsK.getD q ⟨#[]⟩) t x xs r0 v) ∧ Calls Tryz.prog 10 #[.string (opsK.getD q ⟨#[]⟩), .int .i64 a, .int .i64 1] v (NodeQ (opsK.getD q ⟨#[]⟩) t x xs r1 v) := by
  have z0 : Rng 0 := by unfold Rng; omega
  have z1 : Rng 1 := by unfold Rng; omega
  match q, hq with
  | 0, _ =>
    refine ⟨sumR (kpAt ⟨#[82, 101, 100, 117, 99, 101, 83, 117, 109]⟩ 0 nilS [a]) t x xs, sumR (kpAt ⟨#[82, 101, 100, 117, 99, 101, 83, 117, 109]⟩ 1 nilS [a]) t x xs, ?_, fun v hv => ⟨(axis_list ⟨#[82, 101, 100, 117, 99, 101, 83, 117, 109]⟩ (by kernel_rfl) a 0 v ha).mono ?_, (axis_list ⟨#[82, 101, 100, 117, 99, 101, 83, 117, 109]⟩ (by kernel_rfl) a 1 v ha).mono ?_⟩⟩
    · unfold sumR
      rw [gone_of (kp_along1 0 nilS [a] x.length), gone_of (kp_along1 1 nilS [a] x.length)]
      exact keep_rel (nz_tysame _) (red_zero _ _ _ (kp_keep _ _ _ _) (kp_along1 _ _ _ _)) (red_one _ _ _ (kp_keep _ _ _ _) (kp_along1 _ _ _ _))
    · rintro e w' ⟨iv, s, av, rfl, hg, hs, hi, hat⟩
      exact ⟨iv, av, rfl, hg, fun wx u T0 ht hx hv' => by
        rw [← ht, sum_s _ _ s]
        exact sum_do ⟨⟨#[82, 101, 100, 117, 99, 101, 83, 117, 109]⟩, ⟨#[]⟩, iv, ⟨#[122]⟩, av⟩ (kpAt ⟨#[82, 101, 100, 117, 99, 101, 83, 117, 109]⟩ 0 s [a]) ⟨#[120]⟩ rfl u T0 x xs wx (hl.more (grown_trans hv (grown_trans hg hx))) (two_in (hs.more hx) (has_i wx _ _) (has_l (hi.more hx)) (by show 0 ≤ 1048576; omega) (by show 0 ≤ 1048576; omega) (hat.more hx)) (two_ok (has_i wx _ _) (has_l (hi.more hx)) z0 z0 (hat.more hx)) (kp_check1 _ _ _) (kp_then _ _ _ _) (by show 1 ≤ 1048576; omega) hv'⟩
    · rintro e w' ⟨iv, s, av, rfl, hg, hs, hi, hat⟩
      exact ⟨iv, av, rfl, hg, fun wx u T0 ht hx hv' => by
        rw [← ht, sum_s _ _ s]
        exact sum_do ⟨⟨#[82, 101, 100, 117, 99, 101, 83, 117, 109]⟩, ⟨#[]⟩, iv, ⟨#[122]⟩, av⟩ (kpAt ⟨#[82, 101, 100, 117, 99, 101, 83, 117, 109]⟩ 1 s [a]) ⟨#[120]⟩ rfl u T0 x xs wx (hl.more (grown_trans hv (grown_trans hg hx))) (two_in (hs.more hx) (has_i wx _ _) (has_l (hi.more hx)) (by show 0 ≤ 1048576; omega) (by show 0 ≤ 1048576; omega) (hat.more hx)) (two_ok (has_i wx _ _) (has_l (hi.more hx)) z1 z0 (hat.more hx)) (kp_check1 _ _ _) (kp_then _ _ _ _) (by show 1 ≤ 1048576; omega) hv'⟩
  | 1, _ =>
    refine ⟨maxR (kpAt ⟨#[82, 101, 100, 117, 99, 101, 77, 97, 120]⟩ 0 nilS [a]) t x xs, maxR (kpAt ⟨#[82, 101, 100, 117, 99, 101, 77, 97, 120]⟩ 1 nilS [a]) t x xs, ?_, fun v hv => ⟨(axis_list ⟨#[82, 101, 100, 117, 99, 101, 77, 97, 120]⟩ (by kernel_rfl) a 0 v ha).mono ?_, (axis_list ⟨#[82, 101, 100, 117, 99, 101, 77, 97, 120]⟩ (by kernel_rfl) a 1 v ha).mono ?_⟩⟩
    · unfold maxR
      rw [gone_of (kp_along2 0 nilS [a] x.length), gone_of (kp_along2 1 nilS [a] x.length)]
      exact keep_rel (nz_tysame _) (red_zero _ _ _ (kp_keep _ _ _ _) (kp_along2 _ _ _ _)) (red_one _ _ _ (kp_keep _ _ _ _) (kp_along2 _ _ _ _))
    · rintro e w' ⟨iv, s, av, rfl, hg, hs, hi, hat⟩
      exact ⟨iv, av, rfl, hg, fun wx u T0 ht hx hv' => by
        rw [← ht, max_s _ _ s]
        exact max_do ⟨⟨#[82, 101, 100, 117, 99, 101, 77, 97, 120]⟩, ⟨#[]⟩, iv, ⟨#[122]⟩, av⟩ (kpAt ⟨#[82, 101, 100, 117, 99, 101, 77, 97, 120]⟩ 0 s [a]) ⟨#[120]⟩ rfl u T0 x xs wx (hl.more (grown_trans hv (grown_trans hg hx))) (two_in (hs.more hx) (has_i wx _ _) (has_l (hi.more hx)) (by show 0 ≤ 1048576; omega) (by show 0 ≤ 1048576; omega) (hat.more hx)) (two_ok (has_i wx _ _) (has_l (hi.more hx)) z0 z0 (hat.more hx)) (kp_check2 _ _ _) (kp_then _ _ _ _) (by show 1 ≤ 1048576; omega) hv'⟩
    · rintro e w' ⟨iv, s, av, rfl, hg, hs, hi, hat⟩
      exact ⟨iv, av, rfl, hg, fun wx u T0 ht hx hv' => by
        rw [← ht, max_s _ _ s]
        exact max_do ⟨⟨#[82, 101, 100, 117, 99, 101, 77, 97, 120]⟩, ⟨#[]⟩, iv, ⟨#[122]⟩, av⟩ (kpAt ⟨#[82, 101, 100, 117, 99, 101, 77, 97, 120]⟩ 1 s [a]) ⟨#[120]⟩ rfl u T0 x xs wx (hl.more (grown_trans hv (grown_trans hg hx))) (two_in (hs.more hx) (has_i wx _ _) (has_l (hi.more hx)) (by show 0 ≤ 1048576; omega) (by show 0 ≤ 1048576; omega) (hat.more hx)) (two_ok (has_i wx _ _) (has_l (hi.more hx)) z1 z0 (hat.more hx)) (kp_check2 _ _ _) (kp_then _ _ _ _) (by show 1 ≤ 1048576; omega) hv'⟩
  | 2, _ =>
    refine ⟨meanR (kpAt ⟨#[82, 101, 100, 117, 99, 101, 77, 101, 97, 110]⟩ 0 nilS [a]) t x xs, meanR (kpAt ⟨#[82, 101, 100, 117, 99, 101, 77, 101, 97, 110]⟩ 1 nilS [a]) t x xs, ?_, fun v hv => ⟨(axis_list ⟨#[82, 101, 100, 117, 99, 101, 77, 101, 97, 110]⟩ (by kernel_rfl) a 0 v ha).mono ?_, (axis_list ⟨#[82, 101, 100, 117, 99, 101, 77, 101, 97, 110]⟩ (by kernel_rfl) a 1 v ha).mono ?_⟩⟩
    · unfold meanR
      rw [gone_of (kp_along3 0 nilS [a] x.length), gone_of (kp_along3 1 nilS [a] x.length)]
      exact keep_rel (nz_tyflt _) (red_zero _ _ _ (kp_keep _ _ _ _) (kp_along3 _ _ _ _)) (red_one _ _ _ (kp_keep _ _ _ _) (kp_along3 _ _ _ _))
    · rintro e w' ⟨iv, s, av, rfl, hg, hs, hi, hat⟩
      exact ⟨iv, av, rfl, hg, fun wx u T0 ht hx hv' => by
        rw [← ht, mean_s _ _ s]
        exact mean_do ⟨⟨#[82, 101, 100, 117, 99, 101, 77, 101, 97, 110]⟩, ⟨#[]⟩, iv, ⟨#[122]⟩, av⟩ (kpAt ⟨#[82, 101, 100, 117, 99, 101, 77, 101, 97, 110]⟩ 0 s [a]) ⟨#[120]⟩ rfl u T0 x xs wx (hl.more (grown_trans hv (grown_trans hg hx))) (two_in (hs.more hx) (has_i wx _ _) (has_l (hi.more hx)) (by show 0 ≤ 1048576; omega) (by show 0 ≤ 1048576; omega) (hat.more hx)) (two_ok (has_i wx _ _) (has_l (hi.more hx)) z0 z0 (hat.more hx)) (kp_check3 _ _ _) (kp_then _ _ _ _) (by show 1 ≤ 1048576; omega) hv'⟩
    · rintro e w' ⟨iv, s, av, rfl, hg, hs, hi, hat⟩
      exact ⟨iv, av, rfl, hg, fun wx u T0 ht hx hv' => by
        rw [← ht, mean_s _ _ s]
        exact mean_do ⟨⟨#[82, 101, 100, 117, 99, 101, 77, 101, 97, 110]⟩, ⟨#[]⟩, iv, ⟨#[122]⟩, av⟩ (kpAt ⟨#[82, 101, 100, 117, 99, 101, 77, 101, 97, 110]⟩ 1 s [a]) ⟨#[120]⟩ rfl u T0 x xs wx (hl.more (grown_trans hv (grown_trans hg hx))) (two_in (hs.more hx) (has_i wx _ _) (has_l (hi.more hx)) (by show 0 ≤ 1048576; omega) (by show 0 ≤ 1048576; omega) (hat.more hx)) (two_ok (has_i wx _ _) (has_l (hi.more hx)) z1 z0 (hat.more hx)) (kp_check3 _ _ _) (kp_then _ _ _ _) (by show 1 ≤ 1048576; omega) hv'⟩
  | 3, _ =>
    refine ⟨argR (kaAt ⟨#[65, 114, 103, 77, 97, 120]⟩ 0 a) t x xs, argR (kaAt ⟨#[65, 114, 103, 77, 97, 120]⟩ 1 a) t x xs, ?_, fun v hv => ⟨(axis_int a 0 v).mono ?_, (axis_int a 1 v).mono ?_⟩⟩
    · unfold argR
      rw [gone_of (ka_along 0 a x.length), gone_of (ka_along 1 a x.length)]
      exact keep_rel (nz_tyarg _) (red_zero _ _ _ (ka_keep _ _ _) (ka_along _ _ _)) (red_one _ _ _ (ka_keep _ _ _) (ka_along _ _ _))
    · rintro e w' ⟨iv, av, rfl, hg, hs, hat⟩
      exact ⟨iv, av, rfl, hg, fun wx u T0 ht hx hv' => by
        rw [← ht]
        exact arg_do ⟨⟨#[65, 114, 103, 77, 97, 120]⟩, ⟨#[]⟩, iv, ⟨#[122]⟩, av⟩ (kaAt ⟨#[65, 114, 103, 77, 97, 120]⟩ 0 a) ⟨#[120]⟩ rfl u T0 x xs wx (hl.more (grown_trans hv (grown_trans hg hx))) (two_in (hs.more hx) (has_i wx _ _) (has_i wx _ _) (by show 0 ≤ 1048576; omega) (by show 0 ≤ 1048576; omega) (hat.more hx)) (two_ok (has_i wx _ _) (has_i wx _ _) z0 ha (hat.more hx)) (ka_check _ _) (ka_then _ _ _) (by show 1 ≤ 1048576; omega) hv'⟩
    · rintro e w' ⟨iv, av, rfl, hg, hs, hat⟩
      exact ⟨iv, av, rfl, hg, fun wx u T0 ht hx hv' => by
        rw [← ht]
        exact arg_do ⟨⟨#[65, 114, 103, 77, 97, 120]⟩, ⟨#[]⟩, iv, ⟨#[122]⟩, av⟩ (kaAt ⟨#[65, 114, 103, 77, 97, 120]⟩ 1 a) ⟨#[120]⟩ rfl u T0 x xs wx (hl.more (grown_trans hv (grown_trans hg hx))) (two_in (hs.more hx) (has_i wx _ _) (has_i wx _ _) (by show 0 ≤ 1048576; omega) (by show 0 ≤ 1048576; omega) (hat.more hx)) (two_ok (has_i wx _ _) (has_i wx _ _) z1 ha (hat.more hx)) (ka_check _ _) (ka_then _ _ _) (by show 1 ≤ 1048576; omega) hv'⟩

end Go.Proofs.YtahmmilhmoogbaaGreatDoor
