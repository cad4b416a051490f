/- Joined texts: MvLive, MvAllP. -/
import Derived.Test.YtaoplfpigjkgpaaGreatDoorPartBM
import Derived.Test.YtaoplfpigjkgpaaGreatDoorPartBS
import Derived.Test.YtaoplfpigjkgpaaGreatDoorPartBO
namespace Go.Proofs.YtaoplfpigjkgpaaGreatDoor

open Go.RowKit

theorem five (w : World) (o0 o1 o2 o3 o4 : Obj) : ∀ W, W = ((((w.alloc o0).alloc o1).alloc o2).alloc o3).alloc o4 →
    W.heap[w.heap.size]? = some o0 ∧ W.heap[w.heap.size + 1]? = some o1 ∧ W.heap[w.heap.size + 1 + 1]? = some o2 ∧ W.heap[w.heap.size + 1 + 1 + 1]? = some o3 ∧ W.heap[w.heap.size + 1 + 1 + 1 + 1]? = some o4 ∧ w.grownBy W none := by
  rintro W rfl
  obtain ⟨a0, z0⟩ := new_alloc o0 (x := w) rfl
  obtain ⟨a1, z1⟩ := new_alloc o1 z0
  obtain ⟨a2, z2⟩ := new_alloc o2 z1
  obtain ⟨a3, z3⟩ := new_alloc o3 z2
  obtain ⟨a4, z4⟩ := new_alloc o4 z3
  refine ⟨?_, ?_, ?_, ?_, a4, ?_⟩
  · exact up_alloc _ (up_alloc _ (up_alloc _ (up_alloc _ a0)))
  · exact up_alloc _ (up_alloc _ (up_alloc _ a1))
  · exact up_alloc _ (up_alloc _ a2)
  · exact up_alloc _ a3
  · exact grown_trans (grown_trans (grown_trans (grown_trans (grown_new _ _) (grown_new _ _)) (grown_new _ _)) (grown_new _ _)) (grown_new _ _)

theorem live_ga : gaR ⟨⟨#[71, 97, 116, 104, 101, 114]⟩, [], []⟩ 6 7 [3] [3] [10, 20, 30] [2, 0, -1] = .ok (6, [3], [30, 10, 30]) := by kernel_rfl

theorem live_ge : gaR ⟨⟨#[71, 97, 116, 104, 101, 114]⟩, [], []⟩ 6 7 [3] [] [10, 20, 30] [3] = .error 8 := by kernel_rfl

set_option maxRecDepth 100000 in
set_option maxHeartbeats 4000000 in
theorem small10_any (u : Sl) (ps : List (Ten × Tq)) (w : World) (hv : TensIn w u.v ps) : Calls Tryz.prog 9 #[.slice u.a u.n u.c] w (Told w) := by
  obtain ⟨xa, xc, e1, p1, p2, p3⟩ := hv.vals.form
  rw [List.length_map] at e1 p1 p3
  obtain ⟨ua, un, uc⟩ := u
  simp only [Sl.v, Value.slice.injEq] at e1
  obtain ⟨rfl, rfl, rfl⟩ := e1
  have HV := hide hv
  clear hv
  go_enter Tryz.func9, Tryz.ntmps9
  go_wp2_with fail
  go_loopw [3] (fun i wr => w.grownBy wr none ∧ ∃ (k : Nat), k ≤ ps.length ∧ i = .int .i64 k) (fun i _ => ps.length - (intOf i).toNat)
  case atStart => exact ⟨grown_refl _, 0, Nat.zero_le _, rfl⟩
  case round =>
    obtain ⟨hg, k, hk, rfl⟩ := hrel
    have HG := hide hg
    by_cases hlt : k < ps.length
    · obtain ⟨b, off, rfl⟩ := HV.out.vals.addr (k := k) (by rw [List.length_map]; exact hlt)
      obtain ⟨-, -, a2⟩ := (HV.out.more hg).at k hlt
      obtain ⟨⟨ta, tn, tc⟩, hp⟩ : ∃ p, p = ps[k].1.tv := ⟨_, rfl⟩
      rw [← hp] at a2
      simp only at a2
      clear hp hg
      by_cases hb : 2000 < tn
      · have hb' : (2000 : Int) < tn := by omega
        go_wp2
        go_ret
        exact ⟨_, rfl, HG.out⟩
      · have hb' : ¬ (2000 : Int) < tn := by omega
        go_wp2_with fail
        go_roundw
        case rel => exact ⟨HG.out, k + 1, by omega, by go_num⟩
        case measure => simp [intOf]; omega
    · obtain rfl : k = ps.length := by omega
      clear hg
      go_wp2
      go_ret
      exact ⟨_, rfl, HG.out⟩

set_option maxRecDepth 100000 in
set_option maxHeartbeats 8000000 in
theorem live10_any (w : World) (hl : Laid w) : Calls Tryz.prog 10 #[] w fun e w' => e = .returned (.bool true) ∧ w.grownBy w' none := by
  have HL := hide hl
  clear hl
  obtain ⟨W, hW⟩ : ∃ W, W = ((((w.alloc (.cells #[.string ⟨#[120]⟩, .string ⟨#[121]⟩] 9)).alloc (.cells #[.string ⟨#[71, 97, 116, 104, 101, 114]⟩, .string ⟨#[]⟩, .slice (some ⟨w.heap.size, 0, none⟩) 2 2, .string ⟨#[122]⟩, .slice none 0 0] 25)).alloc (.cells #[.int .i64 3] 3)).alloc (.cells #[.int .i64 10, .int .i64 20, .int .i64 30] 2)).alloc (.cells #[.int .i64 6, .slice (some ⟨w.heap.size + 1 + 1, 0, none⟩) 1 1, .slice (some ⟨w.heap.size + 1 + 1 + 1, 0, none⟩) 3 3] 32) := ⟨_, rfl⟩
  obtain ⟨b0, b1, b2, b3, b4, gW⟩ := five w _ _ _ _ _ W hW
  have GW := hide gW
  have BX : Hid (∀ wx, W.grownBy wx none → wx.heap[w.heap.size]? = some (.cells #[.string ⟨#[120]⟩, .string ⟨#[121]⟩] 9 (0, 0)) ∧ wx.heap[w.heap.size + 1]? = some (.cells #[.string ⟨#[71, 97, 116, 104, 101, 114]⟩, .string ⟨#[]⟩, .slice (some ⟨w.heap.size, 0, none⟩) 2 2, .string ⟨#[122]⟩, .slice none 0 0] 25 (0, 0)) ∧ wx.heap[w.heap.size + 1 + 1]? = some (.cells #[.int .i64 3] 3 (0, 0)) ∧ wx.heap[w.heap.size + 1 + 1 + 1]? = some (.cells #[.int .i64 10, .int .i64 20, .int .i64 30] 2 (0, 0)) ∧ wx.heap[w.heap.size + 1 + 1 + 1 + 1]? = some (.cells #[.int .i64 6, .slice (some ⟨w.heap.size + 1 + 1, 0, none⟩) 1 1, .slice (some ⟨w.heap.size + 1 + 1 + 1, 0, none⟩) 3 3] 32 (0, 0))) := fun wx hx => ⟨box_kept b0 hx, box_kept b1 hx, box_kept b2 hx, box_kept b3 hx, box_kept b4 hx⟩
  have ZW : W.heap.size = w.heap.size + 1 + 1 + 1 + 1 + 1 := by rw [hW]; simp
  obtain ⟨n0, n1, n2, n3, n4⟩ := nod_cells (n := ⟨⟨#[71, 97, 116, 104, 101, 114]⟩, ⟨#[]⟩, ⟨some ⟨w.heap.size, 0, none⟩, 2, 2⟩, ⟨#[122]⟩, ⟨none, 0, 0⟩⟩) b1
  obtain ⟨x0, x1, x2⟩ := ten_cells b4
  rw [hW] at n0 n1 n2 n3 n4 x0 x1 x2
  obtain ⟨V, hV⟩ : ∃ V, V = ((W.alloc (.cells #[.int .i64 3] 3)).alloc (.cells #[.int .i64 2, .int .i64 0, .int .i64 (-1)] 2)).alloc (.cells #[.int .i64 6, .slice (some ⟨w.heap.size + 1 + 1, 0, none⟩) 1 1, .slice (some ⟨w.heap.size + 1 + 1 + 1, 0, none⟩) 3 3, .int .i64 7, .slice (some ⟨w.heap.size + 1 + 1 + 1 + 1 + 1, 0, none⟩) 1 1, .slice (some ⟨w.heap.size + 1 + 1 + 1 + 1 + 1 + 1, 0, none⟩) 3 3] 32) := ⟨_, rfl⟩
  obtain ⟨c0, c1, c2⟩ := three_boxes W (.cells #[.int .i64 3] 3) (.cells #[.int .i64 2, .int .i64 0, .int .i64 (-1)] 2) (.cells #[.int .i64 6, .slice (some ⟨w.heap.size + 1 + 1, 0, none⟩) 1 1, .slice (some ⟨w.heap.size + 1 + 1 + 1, 0, none⟩) 3 3, .int .i64 7, .slice (some ⟨w.heap.size + 1 + 1 + 1 + 1 + 1, 0, none⟩) 1 1, .slice (some ⟨w.heap.size + 1 + 1 + 1 + 1 + 1 + 1, 0, none⟩) 3 3] 32)
  rw [← hV] at c0 c1 c2
  rw [ZW] at c0 c1 c2
  have gV : W.grownBy V none := by rw [hV]; exact grown_trans (grown_trans (grown_new _ _) (grown_new _ _)) (grown_new _ _)
  have GV := hide (grown_trans gW gV)
  have GV0 := hide gV
  obtain ⟨p0, p1, p2, p3, p4⟩ := BX.out V gV
  have E1 := hide (ga_do ⟨⟨#[71, 97, 116, 104, 101, 114]⟩, ⟨#[]⟩, ⟨some ⟨w.heap.size, 0, none⟩, 2, 2⟩, ⟨#[122]⟩, nilS⟩ ⟨⟨#[71, 97, 116, 104, 101, 114]⟩, [], []⟩ ⟨#[120]⟩ ⟨#[121]⟩ rfl ⟨some ⟨w.heap.size + 1 + 1 + 1 + 1 + 1 + 1 + 1, 0, none⟩, 2, 2⟩ ⟨6, ⟨some ⟨w.heap.size + 1 + 1, 0, none⟩, 1, 1⟩, ⟨some ⟨w.heap.size + 1 + 1 + 1, 0, none⟩, 3, 3⟩⟩ ⟨7, ⟨some ⟨w.heap.size + 1 + 1 + 1 + 1 + 1, 0, none⟩, 1, 1⟩, ⟨some ⟨w.heap.size + 1 + 1 + 1 + 1 + 1 + 1, 0, none⟩, 3, 3⟩⟩ [3] [3] [10, 20, 30] [2, 0, -1] V (HL.out.more GV.out) (bare_in V _ _ _ _ (xy_strs p0)) (bare_ok V _ _ _) (by kernel_rfl) (by kernel_rfl) (by show 1 ≤ 1048576; omega) (two_tens _ _ c2 (blk_ints (zs := [3]) p2 (by simp) (by simp)) (blk_ints (zs := [10, 20, 30]) p3 (by simp) (by simp)) (blk_ints (zs := [3]) c0 (by simp) (by simp)) (blk_ints (zs := [2, 0, -1]) c1 (by simp) (by simp))) (by decide) (fun _ _ _ => by simp))
  rw [show gaR ⟨⟨#[71, 97, 116, 104, 101, 114]⟩, [], []⟩ (Ten.ty ⟨6, ⟨some ⟨w.heap.size + 1 + 1, 0, none⟩, 1, 1⟩, ⟨some ⟨w.heap.size + 1 + 1 + 1, 0, none⟩, 3, 3⟩⟩) (Ten.ty ⟨7, ⟨some ⟨w.heap.size + 1 + 1 + 1 + 1 + 1, 0, none⟩, 1, 1⟩, ⟨some ⟨w.heap.size + 1 + 1 + 1 + 1 + 1 + 1, 0, none⟩, 3, 3⟩⟩) [3] [3] [10, 20, 30] [2, 0, -1] = .ok (6, [3], [30, 10, 30]) from live_ga] at E1
  unfold nval nilS at E1
  simp only at E1
  clear b0 b1 b2 b3 b4 gW gV c0 c1 c2 p0 p1 p2 p3 p4 ZW
  go_enter Tryz.func10, Tryz.ntmps10
  go_wp2_with fail
  rw [← hW, ← hV]
  clear hW hV n0 n1 n2 n3 n4 x0 x1 x2
  refine E1.out.mono ?_
  rintro e w1 ⟨hg1, ⟨ty, ⟨da, dn, dc⟩, ⟨ta, tn, tc⟩⟩, ht, rfl, od, ot⟩
  simp only at ht
  subst ht
  unfold tval
  simp only
  obtain ⟨p, hp⟩ : ∃ p, p = w1.alloc (.cells #[.int .i64 6, .slice da dn dc, .slice ta tn tc] 32) := ⟨_, rfl⟩
  obtain ⟨bp, zp⟩ := new_alloc (.cells #[.int .i64 6, .slice da dn dc, .slice ta tn tc] 32) (x := w1) rfl
  rw [← hp] at bp zp
  have gp : w1.grownBy p none := by rw [hp]; exact grown_new _ _
  obtain ⟨q, hq⟩ : ∃ q, q = (p.alloc (.cells #[.int .i64 3] 2)).alloc (.cells #[.int .i64 6, .slice (some ⟨w.heap.size + 1 + 1, 0, none⟩) 1 1, .slice (some ⟨w.heap.size + 1 + 1 + 1, 0, none⟩) 3 3, .int .i64 7, .slice none 0 0, .slice (some ⟨w1.heap.size + 1, 0, none⟩) 1 1] 32) := ⟨_, rfl⟩
  obtain ⟨c0, c1⟩ := two_boxes p (.cells #[.int .i64 3] 2) (.cells #[.int .i64 6, .slice (some ⟨w.heap.size + 1 + 1, 0, none⟩) 1 1, .slice (some ⟨w.heap.size + 1 + 1 + 1, 0, none⟩) 3 3, .int .i64 7, .slice none 0 0, .slice (some ⟨w1.heap.size + 1, 0, none⟩) 1 1] 32)
  rw [← hq, zp] at c0 c1
  have gq : p.grownBy q none := by rw [hq]; exact grown_trans (grown_new _ _) (grown_new _ _)
  have GQ := hide (grown_trans (grown_trans GV.out hg1) (grown_trans gp gq))
  have GP := hide (grown_trans (grown_trans GV.out hg1) gp)
  have GP0 := hide (grown_trans (grown_trans GV0.out hg1) gp)
  have D1 := hide (od.ints.more (grown_trans gp gq))
  have T1 := hide (ot.ints.more (grown_trans gp gq))
  obtain ⟨p0, p1, p2, p3, p4⟩ := BX.out q (grown_trans GP0.out gq)
  have E2 := hide (ga_do ⟨⟨#[71, 97, 116, 104, 101, 114]⟩, ⟨#[]⟩, ⟨some ⟨w.heap.size, 0, none⟩, 2, 2⟩, ⟨#[122]⟩, nilS⟩ ⟨⟨#[71, 97, 116, 104, 101, 114]⟩, [], []⟩ ⟨#[120]⟩ ⟨#[121]⟩ rfl ⟨some ⟨w1.heap.size + 1 + 1, 0, none⟩, 2, 2⟩ ⟨6, ⟨some ⟨w.heap.size + 1 + 1, 0, none⟩, 1, 1⟩, ⟨some ⟨w.heap.size + 1 + 1 + 1, 0, none⟩, 3, 3⟩⟩ ⟨7, ⟨none, 0, 0⟩, ⟨some ⟨w1.heap.size + 1, 0, none⟩, 1, 1⟩⟩ [3] [] [10, 20, 30] [3] q (HL.out.more GQ.out) (bare_in q _ _ _ _ (xy_strs p0)) (bare_ok q _ _ _) (by kernel_rfl) (by kernel_rfl) (by show 1 ≤ 1048576; omega) (two_tens _ _ c1 (blk_ints (zs := [3]) p2 (by simp) (by simp)) (blk_ints (zs := [10, 20, 30]) p3 (by simp) (by simp)) (ints_nil q) (blk_ints (zs := [3]) c0 (by simp) (by simp))) (by decide) (fun ax h1 h2 => by
    exfalso
    rw [show axisO (At.int ⟨⟨#[71, 97, 116, 104, 101, 114]⟩, [], []⟩ ⟨#[97, 120, 105, 115]⟩ 0) [(3 : Int)].length = some 0 from by kernel_rfl] at h1
    cases h1
    exact absurd h2 (by decide)))
  rw [show gaR ⟨⟨#[71, 97, 116, 104, 101, 114]⟩, [], []⟩ (Ten.ty ⟨6, ⟨some ⟨w.heap.size + 1 + 1, 0, none⟩, 1, 1⟩, ⟨some ⟨w.heap.size + 1 + 1 + 1, 0, none⟩, 3, 3⟩⟩) (Ten.ty ⟨7, ⟨none, 0, 0⟩, ⟨some ⟨w1.heap.size + 1, 0, none⟩, 1, 1⟩⟩) [3] [] [10, 20, 30] [3] = .error 8 from live_ge] at E2
  unfold nval nilS at E2
  simp only at E2
  obtain ⟨n0, n1, n2, n3, n4⟩ := nod_cells (n := ⟨⟨#[71, 97, 116, 104, 101, 114]⟩, ⟨#[]⟩, ⟨some ⟨w.heap.size, 0, none⟩, 2, 2⟩, ⟨#[122]⟩, ⟨none, 0, 0⟩⟩) (BX.out p GP0.out).2.1
  obtain ⟨x0, x1, x2⟩ := ten_cells (BX.out p GP0.out).2.2.2.2
  rw [hp] at n0 n1 n2 n3 n4 x0 x1 x2
  have BP := hide (box_kept bp gq)
  clear p0 p1 p2 p3 p4 c0 c1 bp zp gp gq od ot E1 hg1
  go_wp2_with fail
  rw [← hp, ← hq]
  clear hp hq n0 n1 n2 n3 n4 x0 x1 x2
  refine E2.out.mono ?_
  rintro e w2 ⟨hg2, rfl⟩
  simp only
  obtain ⟨p, hp⟩ : ∃ p, p = ((w2.alloc (.cells #[.int .i64 0, .slice none 0 0, .slice none 0 0] 32)).alloc (.cells #[.int .i64 3] 3)).alloc (.cells #[.int .i64 30, .int .i64 10, .int .i64 30] 2) := ⟨_, rfl⟩
  obtain ⟨c0, c1, c2⟩ := three_boxes w2 (.cells #[.int .i64 0, .slice none 0 0, .slice none 0 0] 32) (.cells #[.int .i64 3] 3) (.cells #[.int .i64 30, .int .i64 10, .int .i64 30] 2)
  have gp : w2.grownBy p none := by rw [hp]; exact grown_trans (grown_trans (grown_new _ _) (grown_new _ _)) (grown_new _ _)
  rw [← hp] at c0 c1 c2
  have hg3 := grown_trans hg2 gp
  obtain ⟨x0, x1, x2⟩ := ten_cells (box_kept BP.out (grown_trans hg2 (grown_new w2 (.cells #[.int .i64 0, .slice none 0 0, .slice none 0 0] 32))))
  have SA := hide (sameten_eq 6 _ _ _ _ [3] [30, 10, 30] p (D1.out.more hg3) (T1.out.more hg3) (blk_ints (zs := [3]) c1 (by simp) (by simp)) (blk_ints (zs := [30, 10, 30]) c2 (by simp) (by simp)))
  simp only [Sl.v, List.length_cons, List.length_nil] at SA
  have GZ := hide (grown_trans GQ.out hg3)
  clear c0 c1 c2 gp hg2 hg3 E2
  go_wp2_with (first | (go_at_call 12; rw [← hp]; refine SA.out.mono ?_; rintro e w7 ⟨rfl, hg7⟩) | fail)
  go_ret
  exact ⟨rfl, grown_trans GZ.out hg7⟩

end Go.Proofs.YtaoplfpigjkgpaaGreatDoor

namespace Go.Proofs.YtaoplfpigjkgpaaGreatDoor

open Go.RowKit

def axA (a : Int) : Atr := ⟨⟨#[97, 120, 105, 115]⟩, 2, 0, a, ⟨#[]⟩, 0, nilS, nilS, nilS⟩
def axAt (op : ByteArray) (a : Int) : At := ⟨op, [axA a], [⟨[], [], []⟩]⟩

theorem ax_attrs {w : World} {B : Nat} {a : Int} (h : w.heap[B]? = some (.cells #[.string ⟨#[97, 120, 105, 115]⟩, .int .i64 2, .int .i64 0, .int .i64 a, .string ⟨#[]⟩, .int .i64 0, .slice none 0 0, .slice none 0 0, .slice none 0 0] 41 (0, 0))) : IsAttrs w (.slice (some ⟨B, 0, none⟩) 1 1) [axA a] :=
  lit_isLG (te := 41) (bytes := 136) (xs := [axA a]) acells_len h rfl rfl (Nat.le_of_ble_eq_true rfl) (Nat.le_of_ble_eq_true rfl)

theorem ax_has (w : World) (op : ByteArray) (a : Int) : ∀ (j : Nat) (b : Atr), (axAt op a).xs[j]? = some b → ∃ c, (axAt op a).cs[j]? = some c ∧ Has w b c
  | 0, b, h => by
    cases h
    exact ⟨_, rfl, ⟨ints_nil w, ints_nil w, ints_nil w⟩⟩
  | _ + 1, b, h => by simp [axAt] at h

theorem ax_ok {w : World} {op out : ByteArray} {iv : Sl} {B : Nat} {a : Int} (h1 : -9223372036854775808 ≤ a) (h2 : a ≤ 9223372036854775807) (h : IsAttrs w (.slice (some ⟨B, 0, none⟩) 1 1) [axA a]) : NodeOk w ⟨op, ⟨#[]⟩, iv, out, ⟨some ⟨B, 0, none⟩, 1, 1⟩⟩ (axAt op a) :=
  ⟨rfl, h, ax_has w op a, fun b hb => by
    simp only [axAt, List.mem_cons, List.not_mem_nil, or_false] at hb
    subst hb
    exact ⟨h1, h2⟩⟩

theorem ax_in {w : World} {op out : ByteArray} {iv : Sl} {B : Nat} {a : Int} {ins : List ByteArray} (hi : IsStrs w iv.v ins) (h : IsAttrs w (.slice (some ⟨B, 0, none⟩) 1 1) [axA a]) : NodeIn w ⟨op, ⟨#[]⟩, iv, out, ⟨some ⟨B, 0, none⟩, 1, 1⟩⟩ ins (axAt op a).xs (axAt op a).cs :=
  ⟨hi, h, ax_has w op a, by simp [axAt], fun b hb => by
    simp only [axAt, List.mem_cons, List.not_mem_nil, or_false] at hb
    subst hb
    show 0 ≤ 1048576
    omega⟩

theorem ax_int (op : ByteArray) (a : Int) : At.int (axAt op a) ⟨#[97, 120, 105, 115]⟩ 0 = a := by kernel_rfl

theorem ax_then (op : ByteArray) (a : Int) : thenL ((axAt op a).xs.find? (isA ⟨#[116, 104, 101, 110]⟩ 3)) = [] := by kernel_rfl

theorem ax_check (a : Int) : checkF (ruleF ⟨#[71, 97, 116, 104, 101, 114]⟩) ⟨#[71, 97, 116, 104, 101, 114]⟩ [⟨#[120]⟩, ⟨#[121]⟩] ⟨#[122]⟩ (axAt ⟨#[71, 97, 116, 104, 101, 114]⟩ a).xs (axAt ⟨#[71, 97, 116, 104, 101, 114]⟩ a).cs = 0 := by kernel_rfl

theorem plc_up (dim : Nat) : plcAll dim (upToP dim) = true ∧ (upToP dim).map (plcF dim) = upToP dim := by
  have key : ∀ j, j < dim → axisO (Int.ofNat j) dim = some j := by
    intro j hj
    unfold axisO fromEndP
    have h1 : ¬ (Int.ofNat j) < 0 := by simp
    rw [if_neg h1, if_neg h1, if_neg (by simp; omega)]
    simp
  constructor
  · unfold plcAll upToP
    rw [List.all_eq_true]
    intro a ha
    obtain ⟨j, hj, rfl⟩ := List.mem_map.1 ha
    rw [key j (List.mem_range.1 hj)]
    rfl
  · unfold upToP
    rw [List.map_map]
    refine List.map_congr_left fun j hj => ?_
    show plcF dim (Int.ofNat j) = _
    unfold plcF
    rw [key j (List.mem_range.1 hj)]
    rfl

theorem upToP_snoc (j : Nat) : upToP (j + 1) = upToP j ++ [(j : Int)] := by
  unfold upToP
  rw [List.range_succ, List.map_append]
  rfl

theorem upToP_rng (j : Nat) (h : j ≤ 65536) : ∀ z ∈ upToP j, -9223372036854775808 ≤ z ∧ z ≤ 9223372036854775807 := fun z hz => by have := upToP_mem hz; omega

theorem all_answer {a t0 t1 ty : Int} {x xs l zs : List Int} {k dim : Nat} (hk : axisO a x.length = some k) (hd : x.getD k 0 = (dim : Int)) (h : gaR (axAt ⟨#[71, 97, 116, 104, 101, 114]⟩ a) t0 t1 x [(dim : Int)] xs (upToP dim) = .ok (ty, l, zs)) : ty = t0 ∧ l = x ∧ zs = xs := by
  unfold gaR doR at h
  split at h
  · rename_i ty' l' hn
    obtain ⟨hall, ho⟩ := node_inv hn
    obtain ⟨e1, c1, c2, ⟨ax, hax, hle⟩, c3⟩ := outG_inv ho
    rw [ax_int, hk] at hax
    cases hax
    have lt := axisO_lt hk
    have ex : x = x.take k ++ ([x.getD k 0] ++ x.drop (k + 1)) := by
      have e : x.getD k 0 = x[k] := by simp [List.getD, lt]
      rw [e]
      simp
    have el : l' = x := by rw [hle, ← hd, ← ex]
    simp only [ax_int, hk, Option.getD_some, hd, Int.toNat_natCast] at h
    unfold gathR at h
    rw [if_pos (plc_up dim).1, (plc_up dim).2] at h
    simp only [tq, okT, List.all_cons, List.all_nil, Bool.and_true, Bool.and_eq_true, beq_iff_eq] at hall
    have F := fine_of c1
    have lx := (pb_inv hall.1).2
    have pA : 1 ≤ prod (x.take k) := prod_pos _ (fun z hz => F.pos z (List.mem_of_mem_take hz))
    have pW : 1 ≤ prod (x.drop (k + 1)) := prod_pos _ (fun z hz => F.pos z (List.mem_of_mem_drop hz))
    obtain ⟨W, hW⟩ : ∃ d : Nat, prod (x.drop (k + 1)) = d := ⟨(prod (x.drop (k + 1))).toNat, by omega⟩
    obtain ⟨A0, hA⟩ : ∃ d : Nat, prod (x.take k) = d := ⟨(prod (x.take k)).toNat, by omega⟩
    rw [hW, hA] at h
    simp only [Int.toNat_natCast] at h
    have epx : prod x = ((A0 * dim * W : Nat) : Int) := by
      conv => lhs; rw [ex]
      rw [prod_append, prod_append, hA, hW, hd]
      simp [prod, Int.mul_assoc]
    rw [gath_all xs W dim A0 (by rw [epx] at lx; omega)] at h
    cases h
    exact ⟨e1, el, rfl⟩
  · cases h

theorem nz_gaR (A : At) (t0 t1 : Int) (x y xs ys : List Int) : ∀ c, gaR A t0 t1 x y xs ys = .error c → c ≠ 0 := by
  intro c h
  unfold gaR doR at h
  split at h
  · unfold Except.map at h
    split at h
    · rename_i c' hg
      cases h
      exact nz_gathR _ _ _ _ _ _ hg
    · cases h
  · rename_i c' hn
    cases h
    exact nz_node (nz_outG _ _ _ _ _) _ hn

end Go.Proofs.YtaoplfpigjkgpaaGreatDoor
