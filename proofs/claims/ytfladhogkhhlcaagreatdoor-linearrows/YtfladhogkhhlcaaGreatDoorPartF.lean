/- Joined texts: VwBase, VwEq, VwPlc. -/
import Derived.Test.YtfladhogkhhlcaaGreatDoorPartE
import Derived.Test.YtfladhogkhhlcaaGreatDoorPartD
/- Views: what one reads as; whether it may be, by the walk. -/
namespace Go.Proofs.YtfladhogkhhlcaaGreatDoor.Vw
open Go.RowKit

/-- The value v is a view, in the world w. -/
def IsView (w : World) (v : Value) (off : Int) (ds ss : List Int) : Prop :=
  ∃ dv sv, v = .agg #[.int .i64 off, dv, sv] ∧ IsInts w dv ds ∧ IsInts w sv ss ∧ -9223372036854775808 ≤ off ∧ off ≤ 9223372036854775807

theorem IsView.more {w w' : World} {v : Value} {off : Int} {ds ss : List Int} (h : IsView w v off ds ss) (hg : w.grownBy w' none) : IsView w' v off ds ss := by
  obtain ⟨dv, sv, rfl, hd, hs, ho⟩ := h
  exact ⟨dv, sv, rfl, hd.more hg, hs.more hg, ho⟩

def mayB (off : Int) (ds ss : List Int) : Bool := decide (cntE ds = 0) && (decide (ss.length = ds.length) && (decide (0 ≤ off ∧ off ≤ 65535) && ss.all (fun s => decide (0 ≤ s ∧ s ≤ 65536))))

/-- A view that may be. -/
structure MayV (off : Int) (ds ss : List Int) : Prop where
  fine : Fine ds
  len : ss.length = ds.length
  lo : 0 ≤ off
  hi : off ≤ 65535
  str : ∀ s ∈ ss, 0 ≤ s ∧ s ≤ 65536

theorem mayB_iff {off : Int} {ds ss : List Int} : mayB off ds ss = true ↔ MayV off ds ss := by
  unfold mayB
  simp only [Bool.and_eq_true, decide_eq_true_eq, List.all_eq_true]
  exact ⟨fun ⟨h1, h2, h3, h4⟩ => ⟨fine_of h1, h2, h3.1, h3.2, h4⟩, fun h => ⟨h.fine.ok, h.len, ⟨h.lo, h.hi⟩, h.str⟩⟩

theorem mayB_false {off : Int} {ds ss : List Int} (h : ¬ MayV off ds ss) : mayB off ds ss = false := by
  rw [Bool.eq_false_iff]
  exact fun h' => h (mayB_iff.1 h')

theorem further_any (p s t : Int) (w : World) (h1 : -4611686018427387904 ≤ p ∧ p ≤ 4611686018427387904) (h2 : -4611686018427387904 ≤ s * t ∧ s * t ≤ 4611686018427387903) (_hs : -9223372036854775808 ≤ s ∧ s ≤ 9223372036854775807) (_ht : -9223372036854775808 ≤ t ∧ t ≤ 9223372036854775807) :
    Calls Tryz.prog 82 #[.int .i64 p, .int .i64 s, .int .i64 t] w fun e w' => e = .returned (.int .i64 (p + s * t)) ∧ w = w' := by
  obtain ⟨h11, h12⟩ := h1
  obtain ⟨h21, h22⟩ := h2
  go_enter Tryz.func82, Tryz.ntmps82
  go_wp2
  go_ret
  exact ⟨rfl, rfl⟩

set_option maxHeartbeats 800000 in
theorem mayBe_any (v : Value) (off : Int) (ds ss : List Int) (w : World) (h : IsView w v off ds ss) :
    Calls Tryz.prog 48 #[v] w fun e w' => e = .returned (.bool (mayB off ds ss)) ∧ w.grownBy w' none := by
  obtain ⟨dv, sv, rfl, hd, hs, ho1, ho2⟩ := h
  have hg := grown_new w (.cells #[.int .i64 off, dv, sv] 82)
  have hc := count_any dv ds _ (hd.more hg)
  have HS := hide (hs.more hg)
  obtain ⟨ao, cap, rfl, h1, h2, h3, -, -, -⟩ := hd
  obtain ⟨bo, bcap, rfl, hb1, hb2, hb3, -, -, -⟩ := hs
  by_cases hE : cntE ds = 0
  · rw [hE] at hc
    have HC := hide hc
    by_cases hl : ss.length = ds.length
    · have hl' : ((ss.length : Int) != (ds.length : Int)) = false := by simp [hl]
      by_cases ho : 0 ≤ off ∧ off ≤ 65535
      · have HM : Hid (mayB off ds ss = ss.all (fun s => decide (0 ≤ s ∧ s ≤ 65536))) := by simp [Hid, mayB, hE, hl, ho]
        obtain ⟨ho3, ho4⟩ := ho
        clear hE hl hc
        go_enter Tryz.func48, Tryz.ntmps48
        go_wp2_with fail
        refine HC.out.mono ?_
        rintro e w' ⟨rfl, rfl⟩
        go_wp2
        go_loopw [35] (fun i wr => wr = w.alloc (.cells #[.int .i64 off, .slice ao ds.length cap, .slice bo ss.length bcap] 82) ∧ ∃ k : Nat, k ≤ ss.length ∧ i = .int .i64 k ∧ ∀ t, t < k → 0 ≤ ss.getD t 0 ∧ ss.getD t 0 ≤ 65536) (fun i _ => ss.length - (intOf i).toNat)
        case atStart => exact ⟨rfl, 0, Nat.zero_le _, rfl, fun t h => absurd h (by omega)⟩
        case round =>
          obtain ⟨hw, k, hk, rfl, hp⟩ := hrel
          subst hw
          have HP := hide hp
          clear hp
          by_cases hkl : k < ss.length
          · obtain ⟨b, o', rfl⟩ := addr_of HS.out (by omega)
            have hcell := item_at HS.out hkl
            obtain ⟨z, hz⟩ : ∃ z, z = ss.getD k 0 := ⟨_, rfl⟩
            rw [← hz] at hcell
            have HZ := hide hz
            clear hz
            by_cases hz0 : 0 ≤ z ∧ z ≤ 65536
            · obtain ⟨hz1, hz2⟩ := hz0
              go_wp2
              go_roundw
              case rel =>
                refine ⟨by trivial, k + 1, by omega, by go_num, fun t ht => ?_⟩
                rcases lt_succ_cases ht with h | rfl
                · exact HP.out t h
                · have := HZ.out; omega
              case measure => simp [intOf]; omega
            · have HF : Hid (ss.all (fun s => decide (0 ≤ s ∧ s ≤ 65536)) = false) := by
                simp only [Hid]
                rw [Bool.eq_false_iff]
                intro h
                rw [List.all_eq_true] at h
                have := h z (by rw [HZ.out, List.getD, List.getElem?_eq_getElem hkl]; simp)
                simp only [decide_eq_true_eq] at this
                exact hz0 this
              by_cases hz1 : z < 0
              · clear hz0
                go_wp2
                go_ret
                exact ⟨by rw [HM.out, HF.out]; rfl, hg⟩
              · have hz2 : 65536 < z := by omega
                clear hz0
                go_wp2
                go_ret
                exact ⟨by rw [HM.out, HF.out]; rfl, hg⟩
          · have HT : Hid (ss.all (fun s => decide (0 ≤ s ∧ s ≤ 65536)) = true) := by
              simp only [Hid]
              rw [List.all_eq_true]
              exact fun z hz => decide_eq_true (all_of (p := fun s => 0 ≤ s ∧ s ≤ 65536) (fun t ht => HP.out t (by omega)) z hz)
            go_wp2
            go_ret
            exact ⟨by rw [HM.out, HT.out]; rfl, hg⟩
      · have HM : Hid (mayB off ds ss = false) := mayB_false fun h => ho ⟨h.lo, h.hi⟩
        by_cases ho3 : off < 0
        · clear hE hl hc ho
          go_enter Tryz.func48, Tryz.ntmps48
          go_wp2_with fail
          refine HC.out.mono ?_
          rintro e w' ⟨rfl, rfl⟩
          go_wp2
          go_ret
          exact ⟨by rw [HM.out]; rfl, hg⟩
        · have ho4 : 65535 < off := by omega
          clear hE hl hc ho
          go_enter Tryz.func48, Tryz.ntmps48
          go_wp2_with fail
          refine HC.out.mono ?_
          rintro e w' ⟨rfl, rfl⟩
          go_wp2
          go_ret
          exact ⟨by rw [HM.out]; rfl, hg⟩
    · have HM : Hid (mayB off ds ss = false) := mayB_false fun h => hl h.len
      have hl' : ((ss.length : Int) != (ds.length : Int)) = true := by simp; omega
      clear hE hl hc
      go_enter Tryz.func48, Tryz.ntmps48
      go_wp2_with fail
      refine HC.out.mono ?_
      rintro e w' ⟨rfl, rfl⟩
      go_wp2
      go_ret
      exact ⟨by rw [HM.out]; rfl, hg⟩
  · have HM : Hid (mayB off ds ss = false) := mayB_false fun h => hE h.fine.ok
    have hE' := beq_zero_false hE
    obtain ⟨E, hEE⟩ : ∃ E, E = cntE ds := ⟨_, rfl⟩
    rw [← hEE] at hE' hc
    have HC := hide hc
    clear hE hEE hc
    go_enter Tryz.func48, Tryz.ntmps48
    go_wp2_with fail
    refine HC.out.mono ?_
    rintro e w' ⟨rfl, rfl⟩
    go_wp2
    go_ret
    exact ⟨by rw [HM.out]; rfl, hg⟩
end Go.Proofs.YtfladhogkhhlcaaGreatDoor.Vw

/- slices.Equal of two lists of ints, by the walk. -/
namespace Go.Proofs.YtfladhogkhhlcaaGreatDoor.Vw
open Go.RowKit

theorem equal_any (v u : Value) (xs ys : List Int) (w : World) (ha : IsInts w v xs) (hb : IsInts w u ys) :
    Calls Tryz.prog 53 #[v, u] w fun e w' => e = .returned (.bool (decide (xs = ys))) ∧ w.grownBy w' none := by
  have ha0 : Hid (IsInts w v xs) := ha
  have hb0 : Hid (IsInts w u ys) := hb
  obtain ⟨ao, acap, rfl, ha1, ha2, ha3, -, -, -⟩ := ha
  obtain ⟨bo, bcap, rfl, hb1, hb2, hb3, -, -, -⟩ := hb
  by_cases hl : xs.length = ys.length
  · have hl' : ((xs.length : Int) == (ys.length : Int)) = true := by simp [hl]
    have HL : Hid (xs.length = ys.length) := hl
    clear hl
    go_enter Tryz.func53, Tryz.ntmps53
    go_wp2
    go_loopw [13] (fun i wr => w.grownBy wr none ∧ ∃ k : Nat, k ≤ xs.length ∧ i = .int .i64 k ∧ ∀ t, t < k → xs.getD t 0 = ys.getD t 0) (fun i _ => xs.length - (intOf i).toNat)
    case atStart => exact ⟨grown_refl _, 0, Nat.zero_le _, rfl, fun t h => absurd h (by omega)⟩
    case round =>
      obtain ⟨hw, k, hk, rfl, hp⟩ := hrel
      have HP : Hid (∀ t, t < k → xs.getD t 0 = ys.getD t 0) := hp
      clear hp
      by_cases hkl : k < xs.length
      · obtain ⟨_, _, he, -, -, -, -, h5, -⟩ := ha0.out.more hw
        obtain ⟨b, off, ho, hc⟩ := h5 (by omega)
        obtain ⟨_, _, he', -, -, -, -, h5', -⟩ := hb0.out.more hw
        have hbl : k < ys.length := by have := HL.out; omega
        obtain ⟨b', off', ho', hc'⟩ := h5' (by omega)
        simp only [Value.slice.injEq, true_and] at he he'
        obtain ⟨rfl, rfl⟩ := he
        obtain ⟨rfl, rfl⟩ := he'
        subst ho ho'
        obtain ⟨z, hz⟩ : ∃ z, z = xs.getD k 0 := ⟨_, rfl⟩
        obtain ⟨y, hy⟩ : ∃ y, y = ys.getD k 0 := ⟨_, rfl⟩
        have hcell := hc k hkl
        have hcell' := hc' k hbl
        rw [← hz] at hcell
        rw [← hy] at hcell'
        have HZ : Hid (z = xs.getD k 0) := hz
        have HY : Hid (y = ys.getD k 0) := hy
        clear hz hc hy hc'
        by_cases hzy : z = y
        · have hzy' : (z == y) = true := by simp [hzy]
          have HE : Hid (z = y) := hzy
          clear hzy h5 h5'
          go_wp2
          go_region
          all_goals go_wp2
          all_goals
            go_roundw
            case rel =>
              refine ⟨grown_drew hw, k + 1, by omega, by go_num, fun t ht => ?_⟩
              rcases lt_succ_cases ht with h | rfl
              · exact HP.out t h
              · have := HZ.out; have := HY.out; have := HE.out; omega
            case measure => simp [intOf]; omega
        · have hzy' : (z == y) = false := by simp [hzy]
          have HE : Hid (xs ≠ ys) := fun h => hzy (by rw [HZ.out, HY.out, h])
          clear hzy h5 h5'
          go_wp2
          go_region
          all_goals go_wp2
          all_goals go_ret
          all_goals exact ⟨by rw [decide_eq_false HE.out]; rfl, grown_drew hw⟩
      · have HE : Hid (xs = ys) := list_eq_of HL.out (fun t ht => HP.out t (by omega))
        go_wp2
        go_ret
        exact ⟨by rw [decide_eq_true HE.out]; rfl, hw⟩
  · have hl' : ((xs.length : Int) == (ys.length : Int)) = false := by simp; omega
    have HE : Hid (xs ≠ ys) := fun h => hl (by rw [h])
    clear hl
    go_enter Tryz.func53, Tryz.ntmps53
    go_wp2
    go_ret
    exact ⟨by rw [decide_eq_false HE.out]; rfl, grown_refl _⟩
end Go.Proofs.YtfladhogkhhlcaaGreatDoor.Vw

/- The places that a view shows, one behind the other; no program stands here. -/
namespace Go.Proofs.YtfladhogkhhlcaaGreatDoor.Vw

/-- How far the last place stands behind the first one. -/
def lst : List Int → List Int → Int
  | d :: ds, s :: ss => (d - 1) * s + lst ds ss
  | _, _ => 0

/-- The places, row by row, from p on. -/
def plc : List Int → List Int → Int → List Int
  | [], _, p => [p]
  | d :: ds, s :: ss, p => (List.range d.toNat).flatMap (fun (i : Nat) => plc ds ss (p + i * s))
  | _ :: _, [], _ => []

theorem flat_length {α : Type} (f : Nat → List α) (n : Nat) : ∀ (t : Nat), (∀ i, i < t → (f i).length = n) → ((List.range t).flatMap f).length = t * n
  | 0, _ => by simp
  | t + 1, h => by
    rw [List.range_succ, List.flatMap_append, List.length_append, flat_length f n t fun i hi => h i (by omega)]
    simp only [List.flatMap_cons, List.flatMap_nil, List.append_nil, h t (by omega)]
    rw [Nat.add_mul, Nat.one_mul]

theorem plc_length : ∀ (ds ss : List Int) (p : Int), ss.length = ds.length → (∀ d ∈ ds, 1 ≤ d) → (plc ds ss p).length = (prod ds).toNat
  | [], _, _, _, _ => by simp [plc, prod]
  | d :: ds, s :: ss, p, hl, hp => by
    have h1 := hp d (by simp)
    have h2 := prod_pos ds fun y hy => hp y (by simp [hy])
    rw [plc, flat_length _ (prod ds).toNat _ fun i _ => plc_length ds ss _ (by simpa using hl) fun y hy => hp y (by simp [hy]), prod]
    obtain ⟨a, rfl⟩ : ∃ a : Nat, d = a := ⟨d.toNat, by omega⟩
    obtain ⟨b, hb⟩ : ∃ b : Nat, prod ds = b := ⟨(prod ds).toNat, by omega⟩
    rw [hb, ← Int.natCast_mul]
    simp only [Int.toNat_natCast]
  | _ :: _, [], _, hl, _ => by simp at hl

theorem lst_nonneg : ∀ (ds ss : List Int), (∀ d ∈ ds, 1 ≤ d) → (∀ s ∈ ss, 0 ≤ s) → 0 ≤ lst ds ss
  | [], _, _, _ => by simp [lst]
  | _ :: _, [], _, _ => by simp [lst]
  | d :: ds, s :: ss, hd, hs => by
    have h1 := hd d (by simp)
    have h2 := hs s (by simp)
    have h3 := lst_nonneg ds ss (fun y hy => hd y (by simp [hy])) (fun y hy => hs y (by simp [hy]))
    have h4 : 0 ≤ (d - 1) * s := Int.mul_nonneg (by omega) h2
    simp only [lst]
    omega

theorem step_bound {d s : Int} {i : Nat} (hi : (i : Int) < d) (hs : 0 ≤ s) : 0 ≤ (i : Int) * s ∧ (i : Int) * s ≤ (d - 1) * s :=
  ⟨Int.mul_nonneg (by omega) hs, Int.mul_le_mul_of_nonneg_right (by omega) hs⟩

theorem plc_mem : ∀ (ds ss : List Int) (p : Int), (∀ s ∈ ss, 0 ≤ s) → (∀ d ∈ ds, 1 ≤ d) → ∀ x ∈ plc ds ss p, p ≤ x ∧ x ≤ p + lst ds ss
  | [], ss, p, _, _, x, hx => by
    simp only [plc, List.mem_singleton] at hx
    simp [lst, hx]
  | d :: ds, s :: ss, p, hs, hd, x, hx => by
    simp only [plc, List.mem_flatMap, List.mem_range] at hx
    obtain ⟨i, hi, hx⟩ := hx
    have h1 := hd d (by simp)
    have h2 := hs s (by simp)
    obtain ⟨h3, h4⟩ := plc_mem ds ss _ (fun y hy => hs y (by simp [hy])) (fun y hy => hd y (by simp [hy])) x hx
    obtain ⟨h5, h6⟩ := step_bound (d := d) (i := i) (by omega) h2
    simp only [lst]
    omega
  | _ :: _, [], _, _, _, x, hx => by simp [plc] at hx

theorem range_prefix {α : Type} (f : Nat → List α) {t n : Nat} (h : t < n) {q : List α} (hq : q <+: f t) : (List.range t).flatMap f ++ q <+: (List.range n).flatMap f := by
  obtain ⟨r, hr⟩ := hq
  have e : List.range n = List.range t ++ (t :: (List.range (n - t - 1)).map (fun i => t + 1 + i)) := by
    have e1 : n = t + (1 + (n - t - 1)) := by omega
    rw [e1, List.range_add, List.range_add]
    simp [Nat.add_assoc, Function.comp_def]
  rw [e, List.flatMap_append, List.flatMap_cons, ← hr]
  refine ⟨r ++ ((List.range (n - t - 1)).map (fun i => t + 1 + i)).flatMap f, ?_⟩
  simp [List.append_assoc]

theorem range_flat_succ {α : Type} (f : Nat → List α) (t : Nat) : (List.range (t + 1)).flatMap f = (List.range t).flatMap f ++ f t := by
  rw [List.range_succ, List.flatMap_append]
  simp

theorem lst_drop {ds ss : List Int} (hl : ss.length = ds.length) {k : Nat} (hk : k < ds.length) : lst (ds.drop k) (ss.drop k) = (ds.getD k 0 - 1) * ss.getD k 0 + lst (ds.drop (k + 1)) (ss.drop (k + 1)) := by
  rw [drop_step ds k hk, drop_step ss k (by omega)]
  rfl

theorem plc_drop {ds ss : List Int} (hl : ss.length = ds.length) {k : Nat} (hk : k < ds.length) (p : Int) :
    plc (ds.drop k) (ss.drop k) p = (List.range (ds.getD k 0).toNat).flatMap (fun (i : Nat) => plc (ds.drop (k + 1)) (ss.drop (k + 1)) (p + i * ss.getD k 0)) := by
  rw [drop_step ds k hk, drop_step ss k (by omega)]
  rfl

theorem plc_end {ds ss : List Int} {k : Nat} (hk : ds.length ≤ k) (p : Int) : plc (ds.drop k) (ss.drop k) p = [p] := by
  rw [List.drop_of_length_le hk]
  rfl
end Go.Proofs.YtfladhogkhhlcaaGreatDoor.Vw
