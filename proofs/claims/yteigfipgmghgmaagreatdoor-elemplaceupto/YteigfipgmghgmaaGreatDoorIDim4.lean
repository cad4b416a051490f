/- What infer makes of dims: flattened, sliced, by the walk. -/
import Derived.Test.YteigfipgmghgmaaGreatDoorIDim3
namespace Go.Proofs.YteigfipgmghgmaaGreatDoor
open Go.RowKit

theorem Fine.take {zs : List Int} (h : Fine zs) (k : Nat) : Fine (zs.take k) :=
  ⟨pos_take h.pos k, by have := h.few; simp; omega, Int.le_trans (prod_take_le h.pos k) h.le⟩

theorem IsInts.front {w : World} {a : Option Addr} {n c : Nat} {zs : List Int} (h : IsInts w (.slice a n c) zs) {k : Nat} (hk : k ≤ zs.length) : IsInts w (.slice a k c) (zs.take k) := by
  obtain ⟨ao, cap, e, h1, h2, h3, h4, h5, h6⟩ := h
  cases e
  have hl : (zs.take k).length = k := by simp; omega
  refine ⟨a, c, by rw [hl], by rw [hl]; omega, h2, by rw [hl]; omega, fun h => ?_, fun hp => ?_, fun z hz => h6 z (List.mem_of_mem_take hz)⟩
  · obtain ⟨rfl, rfl⟩ := h4 h
    exact ⟨by simp, rfl⟩
  · rw [hl] at hp
    obtain ⟨b, off, rfl, hc⟩ := h5 (by omega)
    refine ⟨b, off, rfl, fun t ht => ?_⟩
    rw [hl] at ht
    rw [hc t (by omega)]
    simp [List.getD, ht]

theorem IsInts.back {w : World} {ad : Addr} {n c : Nat} {zs : List Int} (h : IsInts w (.slice (some ad) n c) zs) {k : Nat} (hk : k ≤ zs.length) : IsInts w (.slice (if c = k then some ad else some (ad.add k)) (n - k) (c - k)) (zs.drop k) := by
  obtain ⟨ao, cap, e, h1, h2, h3, h4, h5, h6⟩ := h
  cases e
  have hl : (zs.drop k).length = zs.length - k := by simp
  have hm : ∀ z ∈ zs.drop k, -9223372036854775808 ≤ z ∧ z ≤ 9223372036854775807 := fun z hz => h6 z (List.mem_of_mem_drop hz)
  by_cases hc : c = k
  · rw [if_pos hc]
    exact ⟨_, _, by rw [hl], by rw [hl]; omega, by omega, by rw [hl]; omega, (fun h => by cases h), fun h => (by rw [hl] at h; omega), hm⟩
  · rw [if_neg hc]
    refine ⟨_, _, by rw [hl], by rw [hl]; omega, by omega, by rw [hl]; omega, (fun h => by cases h), fun hp => ?_, hm⟩
    rw [hl] at hp
    obtain ⟨b', off', e', hcx⟩ := h5 (by omega)
    cases e'
    refine ⟨b', off' + k, by rw [Addr.add_lit], fun t ht => ?_⟩
    rw [hl] at ht
    rw [Nat.add_assoc, hcx (k + t) (by omega)]
    simp [List.getD]

set_option maxRecDepth 100000 in
set_option maxHeartbeats 1000000 in
theorem flattened_any (n : Nod) (A : At) (u : Sl) (x : List Int) (w : World) (hn : NodeOk w n A) (hx : IsInts w u.v x) (hf : Fine x) : Calls Tryz.prog 122 #[nval n, .slice u.a u.n u.c] w (Ended w (flattenedP A x) DimsQ) := by
  obtain ⟨ux, uc, eu, c1, c2, c3⟩ := hx.sl
  obtain ⟨ua, un, uu⟩ := u
  simp only [Sl.v, Value.slice.injEq] at eu
  obtain ⟨rfl, rfl, rfl⟩ := eu
  have HX := hide hx
  have FEW := hf.few
  have FN := hide hf
  clear hx hf
  have RG := hn.int ⟨#[97, 120, 105, 115]⟩ 1 (by omega)
  have NK := hide hn
  obtain ⟨op, nam, ⟨ia, il, ic⟩, out, ⟨ao, al, cap⟩⟩ := n
  unfold nval
  simp only
  obtain ⟨w0, hw0⟩ : ∃ w0, w0 = w.alloc (.cells #[.string op, .string nam, .slice ia il ic, .string out, .slice ao al cap] 25) := ⟨_, rfl⟩
  have g0 : Hid (w.grownBy w0 none) := by show w.grownBy w0 none; rw [hw0]; exact grown_new _ _
  have hb0 := heap_alloc_new w (.cells #[.string op, .string nam, .slice ia il ic, .string out, .slice ao al cap] 25)
  rw [← hw0] at hb0
  have BX : Hid (∀ wx, w0.grownBy wx none → wx.heap[w.heap.size]? = some (.cells #[.string op, .string nam, .slice ia il ic, .string out, .slice ao al cap] 25 (0, 0))) := fun wx hg => box_kept hb0 hg
  clear hb0 hn
  have I0 := hide (nint_any ⟨op, nam, ⟨ia, il, ic⟩, out, ⟨ao, al, cap⟩⟩ A ⟨#[97, 120, 105, 115]⟩ 1 w0 (NK.out.more g0.out))
  unfold nval at I0
  simp only at I0
  obtain ⟨z, hz⟩ : ∃ z, z = A.int ⟨#[97, 120, 105, 115]⟩ 1 := ⟨_, rfl⟩
  rw [← hz] at I0 RG
  obtain ⟨y, hy⟩ : ∃ y, y = fromEndP z x.length := ⟨_, rfl⟩
  have FE := hide (fun wx => fromend_any z x.length wx (by omega) RG.1)
  rw [← hy] at FE
  have E0 : Hid (flattenedP A x = (mustP (decide (0 ≤ y ∧ y ≤ x.length))).bind (fun _ => (countP (x.take y.toNat)).bind (fun a => (countP (x.drop y.toNat)).bind (fun b => .ok [a, b])))) := by show _ = _; unfold flattenedP; rw [← hz, ← hy]; rfl
  clear hy hz
  go_enter Tryz.func122, Tryz.ntmps122
  go_wp2_with fail
  rw [← hw0]
  clear hw0
  refine I0.out.mono ?_
  rintro e w1 ⟨rfl, hg1⟩
  have G1 := hide (grown_trans g0.out hg1)
  clear hg1 I0
  by_cases h0 : 0 ≤ y
  · by_cases h1 : y ≤ x.length
    · obtain ⟨k, rfl⟩ := Int.eq_ofNat_of_zero_le h0
      have hk : k ≤ x.length := by omega
      have P1 : Hid (countP (x.take k) = .ok (prod (x.take k))) := by show _ = _; unfold countP; rw [if_pos (FN.out.take k).ok]
      have P2 : Hid (countP (x.drop k) = .ok (prod (x.drop k))) := by show _ = _; unfold countP; rw [if_pos (FN.out.drop k).ok]
      have E1 : Hid (flattenedP A x = .ok [prod (x.take k), prod (x.drop k)]) := by show _ = _; rw [E0.out, Int.toNat_natCast, P1.out, P2.out]; simp [mustP, h0, h1]; rfl
      have B1 := (FN.out.take k).le
      have B1' := (FN.out.take k).prod_pos
      have B2 := (FN.out.drop k).le
      have B2' := (FN.out.drop k).prod_pos
      have X1 := hide (HX.out.more G1.out)
      have CF := hide (fun (wx : World) (hg : w.grownBy wx none) => countof_any _ _ wx ((HX.out.front hk).more hg))
      rw [P1.out] at CF
      obtain ⟨p1, hp1⟩ : ∃ p, p = prod (x.take k) := ⟨_, rfl⟩
      obtain ⟨p2, hp2⟩ : ∃ p, p = prod (x.drop k) := ⟨_, rfl⟩
      rw [← hp1] at CF E1 B1 B1'
      rw [← hp2] at E1 B2 B2'
      go_wp2_with (first | (go_at_call 152; refine (FE.out _).mono ?_; rintro e w' ⟨rfl, rfl⟩) | (go_at_call 71; refine (must_yes _).mono ?_; rintro e w' ⟨rfl, rfl⟩) | fail)
      have hku : k ≤ uu := by omega
      have q1 : (0 : Int) ≤ (k : Int) := by omega
      have q2 : (k : Int) ≤ (uu : Int) := by omega
      have q3 : (k : Int) ≤ (x.length : Int) := by omega
      cases ua with
      | none =>
        obtain ⟨ao', cap', e, h1', h2', h3', h4', h5', h6'⟩ := HX.out
        cases e
        obtain ⟨hx0, rfl⟩ := h4' rfl
        subst hx0
        have hk0 : k = 0 := by simpa using hk
        subst hk0
        have CN := hide (fun (wx : World) => countof_any (.slice none 0 0) [] wx ⟨none, 0, rfl, Nat.le_refl _, by decide, by simp, fun _ => ⟨rfl, rfl⟩, fun h => (by simp at h), fun z hz => (by simp at hz)⟩)
        rw [show countP [] = .ok 1 from rfl] at CN
        have e1 : p1 = 1 := hp1
        have e2 : p2 = 1 := hp2
        subst e1 e2
        clear h4' h5' h6' hp1 hp2
        simp only [List.length_nil] at *
        go_region_held3 (fun _ => True) (trivial) (first | (go_at_call 73; refine (CN.out _).mono ?_; rintro e w' ⟨-, v, rfl, rfl, rfl⟩) | fail)
        go_wp2
        go_ret
        exact ended_ok E1.out (grown_trans (grown_drew G1.out) (grown_new _ _)) ⟨⟨_, 2, 2⟩, rfl, ints_new _ [1, 1] 3 (by decide) (by decide)⟩
      | some ad =>
        have CB := hide (fun (wx : World) (hg : w.grownBy wx none) => countof_any _ _ wx ((HX.out.back hk).more hg))
        rw [P2.out, ← hp2] at CB
        simp only at CF CB
        clear hp1 hp2
        by_cases huk : uu = k
        · rw [if_pos huk] at CB
          have e1 : x.length - k = 0 := by omega
          have e2 : uu - k = 0 := by omega
          have e3 : k = x.length := by omega
          have e4 : uu = x.length := by omega
          rw [e1, e2] at CB
          clear e1 e2 huk
          subst e3 e4
          go_region_held3 (fun _ => True) (trivial) (first | (go_at_call 73; have hh := done1; refine (CB.out _ (grown_drew G1.out)).mono ?_; rintro e w' ⟨-, v, rfl, rfl, rfl⟩) | (go_at_call 73; refine (CF.out _ (grown_drew G1.out)).mono ?_; rintro e w' ⟨-, v, rfl, rfl, rfl⟩; have done1 : True := trivial) | fail)
          go_wp2
          go_ret
          exact ended_ok E1.out (grown_trans (grown_drew G1.out) (grown_new _ _)) ⟨⟨_, 2, 2⟩, rfl, ints_new _ [p1, p2] 3 (by simp) (fun y hy => by simp at hy; omega)⟩
        · rw [if_neg huk] at CB
          go_region_held3 (fun _ => True) (trivial) (first | (go_at_call 73; have hh := done1; refine (CB.out _ (grown_drew G1.out)).mono ?_; rintro e w' ⟨-, v, rfl, rfl, rfl⟩) | (go_at_call 73; refine (CF.out _ (grown_drew G1.out)).mono ?_; rintro e w' ⟨-, v, rfl, rfl, rfl⟩; have done1 : True := trivial) | fail)
          go_wp2
          go_ret
          exact ended_ok E1.out (grown_trans (grown_drew G1.out) (grown_new _ _)) ⟨⟨_, 2, 2⟩, rfl, ints_new _ [p1, p2] 3 (by simp) (fun y hy => by simp at hy; omega)⟩
    · have E1 : Hid (flattenedP A x = .error 4) := by show _ = _; rw [E0.out]; simp [mustP, h0, h1]; rfl
      have b1 : decide (y ≤ (x.length : Int)) = false := by simpa using h1
      go_wp2_with (first | (go_at_call 152; refine (FE.out _).mono ?_; rintro e w' ⟨rfl, rfl⟩) | (go_at_call 71; refine (must_no _).mono ?_; rintro e w' ⟨rfl, rfl⟩))
      exact ⟨rfl, ended_err E1.out G1.out⟩
  · have E1 : Hid (flattenedP A x = .error 4) := by show _ = _; rw [E0.out]; simp [mustP, h0]; rfl
    go_wp2_with (first | (go_at_call 152; refine (FE.out _).mono ?_; rintro e w' ⟨rfl, rfl⟩) | (go_at_call 71; refine (must_no _).mono ?_; rintro e w' ⟨rfl, rfl⟩))
    exact ⟨rfl, ended_err E1.out G1.out⟩
end Go.Proofs.YteigfipgmghgmaaGreatDoor
