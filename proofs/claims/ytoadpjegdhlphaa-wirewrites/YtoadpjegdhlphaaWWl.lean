/- fieldLength, by the walk. -/
import Derived.Test.YtoadpjegdhlphaaWWr
import Derived.Deep.RegionHeld3
namespace Go.Proofs.Ytoadpjegdhlphaa
open Go.RowKit

set_option maxRecDepth 100000 in
set_option maxHeartbeats 3200000 in
theorem fieldLength_any (x : Fld) (w : World) (hx : fok x = true) (hin : FldIn x) :
    Calls Try.prog 30 #[fval x] w fun e w' => e = .returned (.int .i64 (fb x).length) ∧ w.grownBy w' none := by
  have T := hide (fun wx => tag_any x wx hx)
  have tl := tag_lt hx
  have V := hide (fun wx => varintLength_any (tagOf x) wx (by omega))
  have V2 := hide (fun wx => varintLength_any x.u.toNat wx (by have := hin.2.2.2.2.2; omega))
  have V3 := hide (fun wx => varintLength_any x.b.size wx (by have := hin.2.2.2.2.2; omega))
  have hfb : Hid ((fb x).length = (vb (tagOf x)).length + (tailOf x).length) := by unfold fb; rw [List.length_append]; rfl
  have b1 := vbF_len 10 (tagOf x)
  have b2 := vbF_len 10 x.u.toNat
  have b3 := vbF_len 10 x.b.size
  change 1 ≤ (vb (tagOf x)).length ∧ (vb (tagOf x)).length ≤ 11 at b1
  change 1 ≤ (vb x.u.toNat).length ∧ (vb x.u.toNat).length ≤ 11 at b2
  change 1 ≤ (vb x.b.size).length ∧ (vb x.b.size).length ≤ 11 at b3
  have hk := fok_kind hx
  obtain ⟨L, hL⟩ : ∃ L, L = (vb (tagOf x)).length := ⟨_, rfl⟩
  obtain ⟨h1, h2, h3, h4, h5, h6, h7⟩ := hin
  rw [← hL] at V hfb b1
  obtain ⟨num, kind, u, b⟩ := x
  simp only [fval] at *
  clear tl hL h1 h2 h3 h4
  rcases hk with ⟨rfl, hb⟩ | ⟨rfl, hb⟩ | ⟨rfl, hb, hu⟩ | ⟨rfl, rfl⟩
  · go_enter Try.func30, Try.ntmps30
    go_wp2_with fail
    refine (T.out _).mono ?_
    rintro e w1 ⟨rfl, g1⟩
    go_wp2_with fail
    refine (V.out _).mono ?_
    rintro e w2 ⟨rfl, rfl⟩
    obtain ⟨c0, c1, c2, c3, -, -, -, -⟩ := box4 ((g1.block _ (by simp) (by simp)).trans (heap_alloc_new w _))
    obtain ⟨m, rfl⟩ : ∃ m : Nat, u = m := ⟨u.toNat, by omega⟩
    rw [Int.toNat_natCast] at V2 b2
    go_wp2_with fail
    refine (V2.out _).mono ?_
    rintro e w3 ⟨rfl, rfl⟩
    go_wp2
    go_ret
    refine ⟨ret_int ?_, grown_trans (grown_new _ _) g1⟩
    have hf := hfb.out
    have ht : (tailOf ⟨num, 0, m, b⟩).length = (vb m).length := by simp [tailOf]
    rw [hf, ht]
    omega
  · go_enter Try.func30, Try.ntmps30
    go_wp2_with fail
    refine (T.out _).mono ?_
    rintro e w1 ⟨rfl, g1⟩
    go_wp2_with fail
    refine (V.out _).mono ?_
    rintro e w2 ⟨rfl, rfl⟩
    obtain ⟨c0, c1, c2, c3, -, -, -, -⟩ := box4 ((g1.block _ (by simp) (by simp)).trans (heap_alloc_new w _))
    go_wp2
    go_ret
    refine ⟨ret_int ?_, grown_trans (grown_new _ _) g1⟩
    have hf := hfb.out
    have ht : (tailOf ⟨num, 1, u, b⟩).length = 8 := by simp [tailOf, lo_len]
    rw [hf, ht]
    omega
  · go_enter Try.func30, Try.ntmps30
    go_wp2_with fail
    refine (T.out _).mono ?_
    rintro e w1 ⟨rfl, g1⟩
    go_wp2_with fail
    refine (V.out _).mono ?_
    rintro e w2 ⟨rfl, rfl⟩
    obtain ⟨c0, c1, c2, c3, -, -, -, -⟩ := box4 ((g1.block _ (by simp) (by simp)).trans (heap_alloc_new w _))
    go_wp2
    go_ret
    refine ⟨ret_int ?_, grown_trans (grown_new _ _) g1⟩
    have hf := hfb.out
    have ht : (tailOf ⟨num, 5, u, b⟩).length = 4 := by simp [tailOf, lo_len]
    rw [hf, ht]
    omega
  · go_enter Try.func30, Try.ntmps30
    go_wp2_with fail
    refine (T.out _).mono ?_
    rintro e w1 ⟨rfl, g1⟩
    go_wp2_with fail
    refine (V.out _).mono ?_
    rintro e w2 ⟨rfl, rfl⟩
    obtain ⟨c0, c1, c2, c3, -, -, -, -⟩ := box4 ((g1.block _ (by simp) (by simp)).trans (heap_alloc_new w _))
    have hw1 : IntKind.u64.wrap (b.size : Int) = b.size := IntWalk.u64_in _ ⟨by omega, by omega⟩
    have hw2 : IntKind.i64.wrap ((L : Int) + ((vb b.size).length : Int)) = (L : Int) + ((vb b.size).length : Int) := by rw [IntKind.wrap_i64]; omega
    have hw3 : IntKind.i64.wrap ((L : Int) + ((vb b.size).length : Int) + (b.size : Int)) = (L : Int) + ((vb b.size).length : Int) + (b.size : Int) := by rw [IntKind.wrap_i64]; omega
    clear V2 V b2 c0 c2 T hx
    go_wp2_with fail
    go_region_held3 (fun w' => w'.cell? ⟨w.heap.size, 3, none⟩ = some (.string b)) (go_keep) (first | (go_at_call 40; refine (V3.out _).mono ?_; rintro e w' ⟨rfl, rfl⟩))
    go_wp2
    go_ret
    refine ⟨ret_int ?_, row_drew (grown_trans (grown_new _ _) g1)⟩
    have hf := hfb.out
    have ht : (tailOf ⟨num, 2, 0, b⟩).length = (vb b.size).length + b.size := by simp [tailOf, bytesOf_len]
    rw [hf, ht]
    omega
end Go.Proofs.Ytoadpjegdhlphaa
