/- The numbers from 0 on, and the places of the whole; the list of numbers by the walk. -/
import Derived.Test.YthphkgnigfmlaaaVLive
namespace Go.Proofs.Ythphkgnigfmlaaa
open Go.RowKit

/-- n numbers from p on. -/
def iota (p : Int) (n : Nat) : List Int := (List.range n).map (fun (i : Nat) => p + i)

theorem iota_length (p : Int) (n : Nat) : (iota p n).length = n := by simp [iota]
theorem iota_add (p : Int) (a b : Nat) : iota p (a + b) = iota p a ++ iota (p + a) b := by
  simp only [iota, List.range_add, List.map_append, List.map_map]
  congr 1
  refine List.map_congr_left fun i _ => ?_
  simp only [Function.comp_apply, Int.natCast_add]
  omega
theorem iota_succ (p : Int) (n : Nat) : iota p (n + 1) = iota p n ++ [p + n] := by
  rw [iota_add]
  simp [iota]
theorem iota_getD (p : Int) (n i : Nat) (h : i < n) : (iota p n).getD i 0 = p + i := by simp [iota, List.getD, h]

theorem iota_flat (p : Int) (m : Nat) : ∀ d : Nat, (List.range d).flatMap (fun (i : Nat) => iota (p + i * (m : Int)) m) = iota p (d * m)
  | 0 => by simp [iota]
  | d + 1 => by
    rw [range_flat_succ, iota_flat p m d, Nat.add_mul, Nat.one_mul, iota_add, Int.natCast_mul]

theorem plc_whole : ∀ (ds : List Int) (p : Int), (∀ d ∈ ds, 1 ≤ d) → plc ds (strd ds) p = iota p (prod ds).toNat
  | [], p, _ => by simp [plc, prod, iota]
  | d :: ds, p, h => by
    have hd := h d (by simp)
    have hp := prod_pos ds fun y hy => h y (by simp [hy])
    obtain ⟨a, rfl⟩ : ∃ a : Nat, d = a := ⟨d.toNat, by omega⟩
    obtain ⟨b, hb⟩ : ∃ b : Nat, prod ds = b := ⟨(prod ds).toNat, by omega⟩
    simp only [plc, strd, prod]
    rw [show (fun (i : Nat) => plc ds (strd ds) (p + i * prod ds)) = fun (i : Nat) => iota (p + i * (b : Int)) b from by
      funext i
      rw [plc_whole ds _ fun y hy => h y (by simp [hy]), hb]
      simp, hb, ← Int.natCast_mul]
    simp only [Int.toNat_natCast]
    exact iota_flat p b a

theorem lst_whole : ∀ (ds : List Int), (∀ d ∈ ds, 1 ≤ d) → lst ds (strd ds) = prod ds - 1
  | [], _ => by simp [lst, prod]
  | d :: ds, h => by
    have ih := lst_whole ds fun y hy => h y (by simp [hy])
    simp only [lst, strd, prod, ih, Int.sub_mul, Int.one_mul]
    omega

theorem may_whole {ds : List Int} (h : Fine ds) : MayV 0 ds (strd ds) :=
  ⟨h, strd_length ds, by omega, by omega, fun s hs => by have := strd_le h s hs; omega⟩

theorem map_iota (n : Nat) : (iota 0 n).map (fun x => (iota 0 n).getD x.toNat 0) = iota 0 n := by
  refine List.ext_getElem (by simp) fun i h1 h2 => ?_
  have hi : i < n := by simpa [iota_length] using h2
  have e : (iota 0 n)[i]'h2 = (i : Int) := by simp [iota]
  rw [List.getElem_map, e, Int.toNat_natCast, iota_getD 0 n i hi]
  simp

/-- The whole of some dimensions, read from the numbers from 0 on. -/
theorem rd_whole {ds : List Int} (h : Fine ds) : rdE 0 ds (strd ds) (iota 0 (prod ds).toNat) = 0 ∧ rdL 0 ds (strd ds) (iota 0 (prod ds).toNat) = iota 0 (prod ds).toNat := by
  have hp := h.prod_pos
  have hok : rdOk 0 ds (strd ds) (iota 0 (prod ds).toNat) = true := by
    simp only [rdOk, mayB_iff.2 (may_whole h), Bool.true_and, iota_length, lst_whole ds h.pos, decide_eq_true_eq]
    omega
  refine ⟨by simp [rdE, hok], ?_⟩
  simp only [rdL, hok, if_true, shows, plc_whole ds 0 h.pos]
  exact map_iota _

set_option maxHeartbeats 800000 in
theorem numbers_any (n : Nat) (hn : n ≤ 65536) (w : World) :
    Calls Try.prog 25 #[.int .i64 n] w fun e w' => ∃ u, e = .returned u ∧ Owns64 w' w.heap.size u (iota 0 n) ∧ w.grownBy w' none := by
  obtain ⟨i0, hi, hz0, hz1, hz2⟩ := info_parts info64
  go_enter Try.func25, Try.ntmps25
  go_wp2
  go_loopw [3, 4] (fun v i wr => w.grownBy wr none ∧ ∃ k : Nat, k ≤ n ∧ i = .int .i64 k ∧ wr.ownsRow w.heap.size 2 1 v k ((iota 0 k).map (Value.int .i64))) (fun _ i _ => n - (intOf i).toNat)
  case atStart => exact ⟨grown_refl _, 0, Nat.zero_le _, rfl, by simpa [iota] using World.ownsRow_nil _ _ _ _⟩
  case round =>
    obtain ⟨hw, k, hk, rfl, hown⟩ := hrel
    have HO := hide hown
    have hsz := hw.size
    by_cases hkl : k < n
    · clear hown
      go_wp2_with (at_builtin; refine wpList_append_own _ rfl (.tmp 10) (.tmp 12) 38 rfl w.heap.size 2 i0 (.int .i64 0) 1 8 Try.underlying38 hi hz0 hz1 hz2 rfl (by decide) _ _ _ rfl (HO.out.alloc _) ⟨wr.heap.size, 0, none⟩ 1 1 [.int .i64 k] rfl rfl (cell_one_new _ _ _) (by simp [Value.oneCell']) (by simp only [maxLen]; omega) (by omega) (by simp; omega) ?_; intro v' w1 hown' hgrow _)
      have HO' := hide hown'
      have HG := hide (grown_trans_row (grown_trans hw (grown_new _ _)) hgrow (fun g hg => (HO.out.lt g hg).1))
      clear hown' hgrow
      go_wp2
      go_roundw
      case rel => exact ⟨HG.out, k + 1, by omega, by go_num, by rw [iota_succ, List.map_append]; simpa using HO'.out⟩
      case measure => simp [intOf]; omega
    · obtain rfl : k = n := by omega
      clear hown
      go_wp2
      go_ret
      refine ⟨_, rfl, ⟨by rw [iota_length]; exact HO.out, by rw [iota_length]; omega, fun z hz => ?_⟩, hw⟩
      obtain ⟨i, hi', rfl⟩ := List.mem_map.1 hz
      have := List.mem_range.1 hi'
      omega
end Go.Proofs.Ythphkgnigfmlaaa
