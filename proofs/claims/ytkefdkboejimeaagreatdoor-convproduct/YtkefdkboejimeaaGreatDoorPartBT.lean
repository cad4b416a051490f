/- A part. -/
import Derived.Test.YtkefdkboejimeaaGreatDoorMini2
import Derived.Test.YtkefdkboejimeaaGreatDoorPartBR
import Derived.Test.YtkefdkboejimeaaGreatDoorPartBS
import Derived.Deep.CutRange
set_option maxHeartbeats 16000000
set_option maxRecDepth 100000
namespace Go.Proofs.YtkefdkboejimeaaGreatDoor
open Go.RowKit
theorem jia (u : Sl) (ps : List (Ten × Tq)) (w : World) (hv : TensIn w u.v ps) : Calls Tryz.prog 7 #[.slice u.a u.n u.c] w (Told w) := by
 obtain ⟨xa, xc, e1, p1, p2, p3⟩ := hv.vals.form
 rw [List.length_map] at e1 p1 p3
 obtain ⟨ua, un, uc⟩ := u
 simp only [Sl.v, Value.slice.injEq] at e1
 obtain ⟨rfl, rfl, rfl⟩ := e1
 have HV := jae hv
 clear hv
 go_enter Tryz.func7, Tryz.ntmps7
 go_wp2_with fail
 go_loopw [3] (fun i wr => w.grownBy wr none ∧ ∃ (k : Nat), k ≤ ps.length ∧ i = .int .i64 k) (fun i _ => ps.length - (intOf i).toNat)
 case atStart => exact ⟨jaf _, 0, Nat.zero_le _, rfl⟩
 case round =>
  obtain ⟨hg, k, hk, rfl⟩ := hrel
  have HG := jae hg
  by_cases hlt : k < ps.length
  ·obtain ⟨b, off, rfl⟩ := HV.out.vals.addr (k := k) (by rw [List.length_map]; exact hlt)
   obtain ⟨-, -, a2⟩ := (HV.out.more hg).at k hlt
   obtain ⟨⟨ta, tn, tc⟩, hp⟩ : ∃ p, p = ps[k].1.tv := ⟨_, rfl⟩
   rw [← hp] at a2
   simp only at a2
   clear hp hg
   by_cases hb : 600 < tn
   ·have hb' : (600 : Int) < tn := by omega
    go_wp2
    go_ret
    exact ⟨_, rfl, HG.out⟩
   ·have hb' : ¬ (600 : Int) < tn := by omega
    go_wp2_with fail
    go_roundw
    case rel => exact ⟨HG.out, k + 1, by omega, by go_num⟩
    case measure => simp [intOf]; omega
  ·obtain rfl : k = ps.length := by omega
   clear hg
   by_cases h6 : ps.length ≤ 6
   ·have h6' : (ps.length : Int) ≤ 6 := by omega
    go_wp2
    go_ret
    exact ⟨_, rfl, HG.out⟩
   ·have h6' : ¬ (ps.length : Int) ≤ 6 := by omega
    go_wp2
    go_ret
    exact ⟨_, rfl, HG.out⟩
theorem jpx : cvG 1 1 [1, 1, 2, 2] [1, 1, 2, 2] [1065353216, 1073741824, 1077936128, 1082130432] [1065353216, 1065353216, 1065353216, 1065353216] = .ok (1, [1, 1, 1, 1], [1092616192]) := by kernel_rfl
theorem jpy (s : Sl) : jpu (jbE 1) (jgd ⟨#[77, 97, 120, 80, 111, 111, 108]⟩ ⟨#[107, 101, 114, 110, 101, 108, 95, 115, 104, 97, 112, 101]⟩ s [2, 2]) 1 [1, 1, 2, 2] [1065353216, 1073741824, 1077936128, 1082130432] = .ok (1, [1, 1, 1, 1], [1082130432]) := by kernel_rfl
theorem jib {w : World} {B : Nat} (h : w.heap[B]? = some (.cells #[.string ⟨#[120]⟩, .string ⟨#[119]⟩] 9 (0, 0))) : jb8 w (.slice (some ⟨B, 0, none⟩) 2 2) [⟨#[120]⟩, ⟨#[119]⟩] := jej (te := 9) (bytes := 16) (xs := [⟨#[120]⟩, ⟨#[119]⟩]) jeJ h rfl rfl (Nat.le_of_ble_eq_true rfl) (Nat.le_of_ble_eq_true rfl)
theorem jnU (s : Sl) (L : List Int) : jbl (jcf ⟨#[77, 97, 120, 80, 111, 111, 108]⟩) ⟨#[77, 97, 120, 80, 111, 111, 108]⟩ [⟨#[120]⟩] ⟨#[122]⟩ (jgd ⟨#[77, 97, 120, 80, 111, 111, 108]⟩ ⟨#[107, 101, 114, 110, 101, 108, 95, 115, 104, 97, 112, 101]⟩ s L).xs (jgd ⟨#[77, 97, 120, 80, 111, 111, 108]⟩ ⟨#[107, 101, 114, 110, 101, 108, 95, 115, 104, 97, 112, 101]⟩ s L).cs = 0 := by kernel_rfl
theorem jpz (op : ByteArray) (s : Sl) (L : List Int) : jdp ((jgd op ⟨#[107, 101, 114, 110, 101, 108, 95, 115, 104, 97, 112, 101]⟩ s L).xs.find? (isA ⟨#[116, 104, 101, 110]⟩ 3)) = [] := by kernel_rfl
theorem jqg (op : ByteArray) (s : Sl) (L d : List Int) : At.ints (jgd op ⟨#[107, 101, 114, 110, 101, 108, 95, 115, 104, 97, 112, 101]⟩ s L) ⟨#[115, 116, 114, 105, 100, 101, 115]⟩ d = d := by kernel_rfl
theorem jqh (op : ByteArray) (s : Sl) (L d : List Int) : At.ints (jgd op ⟨#[107, 101, 114, 110, 101, 108, 95, 115, 104, 97, 112, 101]⟩ s L) ⟨#[100, 105, 108, 97, 116, 105, 111, 110, 115]⟩ d = d := by kernel_rfl
theorem jqi (op : ByteArray) (s : Sl) (L d : List Int) : At.ints (jgd op ⟨#[107, 101, 114, 110, 101, 108, 95, 115, 104, 97, 112, 101]⟩ s L) ⟨#[112, 97, 100, 115]⟩ d = d := by kernel_rfl
theorem jok (op : ByteArray) (s : Sl) (L d : List Int) : At.ints (jgd op ⟨#[107, 101, 114, 110, 101, 108, 95, 115, 104, 97, 112, 101]⟩ s L) ⟨#[107, 101, 114, 110, 101, 108, 95, 115, 104, 97, 112, 101]⟩ d = L := by kernel_rfl
theorem jjN (w : World) (hl : Laid w) : Calls Tryz.prog 8 #[] w fun e w' => e = .returned (.bool true) ∧ w.grownBy w' none := by
 have HL := jae hl
 clear hl
 obtain ⟨V, hV⟩ : ∃ V, V = (((w.alloc (.cells #[.int .i64 1, .int .i64 1, .int .i64 2, .int .i64 2] 3)).alloc (.cells #[.int .i64 1065353216, .int .i64 1073741824, .int .i64 1077936128, .int .i64 1082130432] 2)).alloc (.cells #[.int .i64 1, .slice (some ⟨w.heap.size, 0, none⟩) 4 4, .slice (some ⟨w.heap.size + 1, 0, none⟩) 4 4] 25)).alloc (.cells #[.int .i64 1, .int .i64 1, .int .i64 2, .int .i64 2] 3) := ⟨_, rfl⟩
 obtain ⟨W, hW⟩ : ∃ W, W = (((V.alloc (.cells #[.int .i64 1065353216, .int .i64 1065353216, .int .i64 1065353216, .int .i64 1065353216] 2)).alloc (.cells #[.int .i64 1, .slice (some ⟨w.heap.size + 1 + 1 + 1, 0, none⟩) 4 4, .slice (some ⟨w.heap.size + 1 + 1 + 1 + 1, 0, none⟩) 4 4] 25)).alloc (.cells #[.string ⟨#[120]⟩, .string ⟨#[119]⟩] 9)).alloc (.cells #[.int .i64 1, .slice (some ⟨w.heap.size, 0, none⟩) 4 4, .slice (some ⟨w.heap.size + 1, 0, none⟩) 4 4, .int .i64 1, .slice (some ⟨w.heap.size + 1 + 1 + 1, 0, none⟩) 4 4, .slice (some ⟨w.heap.size + 1 + 1 + 1 + 1, 0, none⟩) 4 4] 25) := ⟨_, rfl⟩
 obtain ⟨b0, b1, b2, b3, gV, zV⟩ := jd4 w _ _ _ _ V hV
 obtain ⟨b4, b5, b6, b7, gW, zW⟩ := jd4 V _ _ _ _ W hW
 rw [zV] at b4 b5 b6 b7
 have GW := jae (jaa gV gW)
 have BX := jae (jad b2 gW)
 have ID := jae (jdD (zs := [1, 1, 2, 2]) (jad b0 gW) (by simp) (by simp))
 have IX := jae (jdD (zs := [1065353216, 1073741824, 1077936128, 1082130432]) (jad b1 gW) (by simp) (by simp))
 have E1 := jae (joj ⟨#[122]⟩ ⟨some ⟨w.heap.size + 1 + 1 + 1 + 1 + 1 + 1, 0, none⟩, 2, 2⟩ ⟨#[120]⟩ ⟨#[119]⟩ (by kernel_rfl) (by decide) ⟨some ⟨w.heap.size + 1 + 1 + 1 + 1 + 1 + 1 + 1, 0, none⟩, 2, 2⟩ ⟨1, ⟨some ⟨w.heap.size, 0, none⟩, 4, 4⟩, ⟨some ⟨w.heap.size + 1, 0, none⟩, 4, 4⟩⟩ ⟨1, ⟨some ⟨w.heap.size + 1 + 1 + 1, 0, none⟩, 4, 4⟩, ⟨some ⟨w.heap.size + 1 + 1 + 1 + 1, 0, none⟩, 4, 4⟩⟩ [1, 1, 2, 2] [1, 1, 2, 2] [1065353216, 1073741824, 1077936128, 1082130432] [1065353216, 1065353216, 1065353216, 1065353216] W (HL.out.more GW.out) (jib b6) (jel ⟨1, ⟨some ⟨w.heap.size, 0, none⟩, 4, 4⟩, ⟨some ⟨w.heap.size + 1, 0, none⟩, 4, 4⟩⟩ ⟨1, ⟨some ⟨w.heap.size + 1 + 1 + 1, 0, none⟩, 4, 4⟩, ⟨some ⟨w.heap.size + 1 + 1 + 1 + 1, 0, none⟩, 4, 4⟩⟩ b7 ID.out IX.out (jdD (zs := [1, 1, 2, 2]) (jad b3 gW) (by simp) (by simp)) (jdD (zs := [1065353216, 1065353216, 1065353216, 1065353216]) b4 (by simp) (by simp))) rfl)
 rw [show cvG (Ten.ty ⟨1, ⟨some ⟨w.heap.size, 0, none⟩, 4, 4⟩, ⟨some ⟨w.heap.size + 1, 0, none⟩, 4, 4⟩⟩) (Ten.ty ⟨1, ⟨some ⟨w.heap.size + 1 + 1 + 1, 0, none⟩, 4, 4⟩, ⟨some ⟨w.heap.size + 1 + 1 + 1 + 1, 0, none⟩, 4, 4⟩⟩) [1, 1, 2, 2] [1, 1, 2, 2] [1065353216, 1073741824, 1077936128, 1082130432] [1065353216, 1065353216, 1065353216, 1065353216] = .ok (1, [1, 1, 1, 1], [1092616192]) from jpx] at E1
 unfold jaL jbQ at E1
 simp only at E1
 obtain ⟨x0, x1, x2⟩ := jal BX.out
 obtain ⟨y0, y1, y2⟩ := jal b5
 rw [hW, hV] at x0 x1 x2 y0 y1 y2
 clear b0 b1 b2 b3 b4 b5 b6 b7 gV gW zW zV
 go_enter Tryz.func8, Tryz.ntmps8
 go_wp2_with fail
 rw [← hV, ← hW]
 clear hV hW x0 x1 x2 y0 y1 y2
 refine E1.out.mono ?_
 rintro e w1 ⟨hg1, ⟨ty, ⟨da, dn, dc⟩, ⟨ta, tn, tc⟩⟩, ht, rfl, od, ot⟩
 simp only at ht
 subst ht
 unfold jdL
 simp only
 obtain ⟨p, hp⟩ : ∃ p, p = w1.alloc (.cells #[.int .i64 1, .slice da dn dc, .slice ta tn tc] 25) := ⟨_, rfl⟩
 obtain ⟨bp, zp⟩ := jbr (.cells #[.int .i64 1, .slice da dn dc, .slice ta tn tc] 25) (x := w1) rfl
 rw [← hp] at bp zp
 have gp : w1.grownBy p none := by rw [hp]; exact jab _ _
 obtain ⟨q, hq⟩ : ∃ q, q = (((p.alloc (.cells #[.string ⟨#[120]⟩] 9)).alloc (.cells #[.int .i64 2, .int .i64 2] 2)).alloc (.cells #[.string ⟨#[107, 101, 114, 110, 101, 108, 95, 115, 104, 97, 112, 101]⟩, .int .i64 7, .int .i64 0, .int .i64 0, .string ⟨#[]⟩, .int .i64 0, .slice none 0 0, .slice none 0 0, .slice (some ⟨w1.heap.size + 1 + 1, 0, none⟩) 2 2] 38)).alloc (.cells #[.int .i64 1, .slice (some ⟨w.heap.size, 0, none⟩) 4 4, .slice (some ⟨w.heap.size + 1, 0, none⟩) 4 4] 25) := ⟨_, rfl⟩
 obtain ⟨c0, c1, c2, c3, gq, zq⟩ := jd4 p _ _ _ _ q hq
 rw [zp] at c0 c1 c2 c3
 have GP := jae (jaa GW.out (jaa hg1 gp))
 have GQ := jae (jaa GP.out gq)
 have gwq := jaa (jaa hg1 gp) gq
 have IK := jdD (zs := [2, 2]) c1 (by simp) (by simp)
 have AA := jnD (s := ⟨some ⟨w1.heap.size + 1 + 1, 0, none⟩, 2, 2⟩) c2
 have E2 := jae (jqe ⟨⟨#[77, 97, 120, 80, 111, 111, 108]⟩, ⟨#[]⟩, ⟨some ⟨w1.heap.size + 1, 0, none⟩, 1, 1⟩, ⟨#[122]⟩, ⟨some ⟨w1.heap.size + 1 + 1 + 1, 0, none⟩, 1, 1⟩⟩ (jgd ⟨#[77, 97, 120, 80, 111, 111, 108]⟩ ⟨#[107, 101, 114, 110, 101, 108, 95, 115, 104, 97, 112, 101]⟩ ⟨some ⟨w1.heap.size + 1 + 1, 0, none⟩, 2, 2⟩ [2, 2]) ⟨#[120]⟩ rfl ⟨some ⟨w1.heap.size + 1 + 1 + 1 + 1, 0, none⟩, 1, 1⟩ ⟨1, ⟨some ⟨w.heap.size, 0, none⟩, 4, 4⟩, ⟨some ⟨w.heap.size + 1, 0, none⟩, 4, 4⟩⟩ [1, 1, 2, 2] [1065353216, 1073741824, 1077936128, 1082130432] q (HL.out.more GQ.out) (in_in (jiJ c0) IK AA) (in_ok IK AA) (jnU _ _) (jpz _ _ _) (by show 1 ≤ 1048576; omega) (jgc ⟨1, ⟨some ⟨w.heap.size, 0, none⟩, 4, 4⟩, ⟨some ⟨w.heap.size + 1, 0, none⟩, 4, 4⟩⟩ c3 (ID.out.more gwq) (IX.out.more gwq)) (jqg _ _ _ _) (jqh _ _ _ _) (jqi _ _ _ _) (fun d => (jok _ _ _ d).trans (jok _ _ _ []).symm))
 rw [show jpu (jbE 1) (jgd ⟨#[77, 97, 120, 80, 111, 111, 108]⟩ ⟨#[107, 101, 114, 110, 101, 108, 95, 115, 104, 97, 112, 101]⟩ ⟨some ⟨w1.heap.size + 1 + 1, 0, none⟩, 2, 2⟩ [2, 2]) (Ten.ty ⟨1, ⟨some ⟨w.heap.size, 0, none⟩, 4, 4⟩, ⟨some ⟨w.heap.size + 1, 0, none⟩, 4, 4⟩⟩) [1, 1, 2, 2] [1065353216, 1073741824, 1077936128, 1082130432] = .ok (1, [1, 1, 1, 1], [1082130432]) from jpy _] at E2
 unfold jaL at E2
 simp only at E2
 have T1' := jae (ot.ints.more (jaa gp gq))
 have BP := jae (jad bp gq)
 have g3 : p.grownBy (((p.alloc (.cells #[.string ⟨#[120]⟩] 9)).alloc (.cells #[.int .i64 2, .int .i64 2] 2)).alloc (.cells #[.string ⟨#[107, 101, 114, 110, 101, 108, 95, 115, 104, 97, 112, 101]⟩, .int .i64 7, .int .i64 0, .int .i64 0, .string ⟨#[]⟩, .int .i64 0, .slice none 0 0, .slice none 0 0, .slice (some ⟨w1.heap.size + 1 + 1, 0, none⟩) 2 2] 38)) none := jaa (jab _ _) (jaa (jab _ _) (jab _ _))
 obtain ⟨x0, x1, x2⟩ := jal (jad BX.out (jaa (jaa hg1 gp) g3))
 rw [hp] at x0 x1 x2
 clear bp zp gp c0 c1 c2 c3 gq zq od ot E1 hg1 gwq IK AA g3
 go_wp2_with fail
 rw [← hp, ← hq]
 clear hp hq x0 x1 x2
 refine E2.out.mono ?_
 rintro e w2 ⟨hg2, ⟨ty, ⟨ea, en, ec⟩, ⟨va, vn, vc⟩⟩, ht, rfl, od, ot⟩
 simp only at ht
 subst ht
 unfold jdL
 simp only
 obtain ⟨p2, hp2⟩ : ∃ p, p = w2.alloc (.cells #[.int .i64 1, .slice ea en ec, .slice va vn vc] 25) := ⟨_, rfl⟩
 obtain ⟨bp2, zp2⟩ := jbr (.cells #[.int .i64 1, .slice ea en ec, .slice va vn vc] 25) (x := w2) rfl
 rw [← hp2] at bp2 zp2
 have gp2 : w2.grownBy p2 none := by rw [hp2]; exact jab _ _
 have I1 := T1'.out.more (jaa hg2 gp2)
 have I2 := ot.ints.more gp2
 obtain ⟨_, _, u1, -, -, -⟩ := I1.sl
 obtain ⟨_, _, u2, -, -, -⟩ := I2.sl
 simp only [Sl.v, Value.slice.injEq, List.length_cons, List.length_nil, Nat.zero_add] at u1 u2 I1 I2
 obtain ⟨rfl, rfl, rfl⟩ := u1
 obtain ⟨rfl, rfl, rfl⟩ := u2
 obtain ⟨r1, o1, rfl⟩ := jaM I1 (by simp)
 obtain ⟨r2, o2, rfl⟩ := jaM I2 (by simp)
 have i1 := jaC I1 (k := 0) (by simp)
 have i2 := jaC I2 (k := 0) (by simp)
 simp only [List.getD_cons_zero, Nat.add_zero] at i1 i2
 obtain ⟨x0, x1, x2⟩ := jal (jad BP.out (jaa hg2 gp2))
 obtain ⟨y0, y1, y2⟩ := jal bp2
 have GZ := jae (jaa GQ.out (jaa hg2 gp2))
 rw [hp2] at x0 x1 x2 y0 y1 y2 i1 i2
 have j1 : (0 : Int) < 1 := by decide
 clear bp2 zp2 gp2 od ot hg2 E2 I1 I2
 go_wp2
 rw [← hp2]
 go_ret
 exact ⟨rfl, GZ.out⟩
end Go.Proofs.YtkefdkboejimeaaGreatDoor
namespace Go.Proofs.YtkefdkboejimeaaGreatDoor
open Go.RowKit
theorem jqj (tx ty : Int) (x y xs ys : List Int) : ∀ c, cvG tx ty x y xs ys = .error c → c ≠ 0 := by
 intro c h
 unfold cvG doR at h
 split at h
 ·cases h
 ·rename_i c' hn
  cases h
  exact je2 (jh4 _ _ _ _ _ (jd8 _ _ _)) _ hn
theorem jhc {tx ty t d1 d2 d3 e0 e1 : Int} {x y xs ys l zs : List Int} (hx0 : x.getD 0 0 = 1) (hy2 : y.getD 2 0 = 1) (hy3 : y.getD 3 0 = 1) (h : cvG tx ty x y xs ys = .ok (t, l, zs)) (h1 : d1 = x.getD 1 0) (h2 : d2 = x.getD 2 0) (h3 : d3 = x.getD 3 0) (h4 : e0 = y.getD 0 0) (h5 : e1 = y.getD 1 0) :
    ∃ (dP : Int) (U V B : List Int), tx = 1 ∧ ty = 1 ∧ IntKind.i64.wrap (d2 * d3) = dP ∧ (-9223372036854775808 ≤ dP ∧ dP ≤ 9223372036854775807) ∧ trR 1 [d1, dP] xs = .ok (1, [dP, d1], U) ∧ trR 1 [e0, e1] ys = .ok (1, [e1, e0], V) ∧ mmR 1 1 [dP, d1] [e1, e0] U V = .ok (1, [dP, e0], B) ∧ trR 1 [dP, e0] B = .ok (1, [e0, dP], zs) := by
     obtain ⟨C, M, H, W, P, B, rfl, rfl, rfl, rfl, hP, hb, -, -, -, r1, r2, r3, r4⟩ := je9 hx0 hy2 hy3 h
     simp only [List.getD_cons_zero, List.getD_cons_succ] at h1 h2 h3 h4 h5
     subst h1 h2 h3 h4 h5
     refine ⟨(P : Int), _, _, B, rfl, rfl, ?_, by omega, r1, r2, r3, r4⟩
     rw [← Int.natCast_mul, ← hP]
     exact Vw.wrap_small (Int.natCast_nonneg _) (by omega)
theorem jiQ : (Tryz.prog.info? 25).map (·.size) = some 3 := by kernel_rfl
theorem jec (X : Ten) {x xs : List Int} (Y : Ten) {y ys : List Int} (w : World) (hl : Laid w) (hx : IsInts w X.dv.v x) (hxs : IsInts w X.tv.v xs) (hy : IsInts w Y.dv.v y) (hys : IsInts w Y.tv.v ys) : Calls Tryz.prog 3 #[jdL X, jdL Y] w fun e w' => e = .returned (.bool true) ∧ Below w.heap.size w w' := by
 have HL := jae hl
 have HX := jae hx
 have HXS := jae hxs
 have HY := jae hy
 have HYS := jae hys
 obtain ⟨_, _, ex, -⟩ := hx.sl
 obtain ⟨_, _, ey, -⟩ := hy.sl
 clear hl hx hxs hy hys
 obtain ⟨tx, ⟨xa, xn, xc⟩, ⟨ua, un, uc⟩⟩ := X
 obtain ⟨ty, ⟨ya, yn, yc⟩, ⟨va, vn, vc⟩⟩ := Y
 simp only [Sl.v, Value.slice.injEq] at ex ey
 obtain ⟨-, rfl, -⟩ := ex
 obtain ⟨-, rfl, -⟩ := ey
 unfold jdL
 simp only [Sl.v] at HX HXS HY HYS ⊢
 obtain ⟨w0, hw0⟩ : ∃ w0, w0 = (w.alloc (.cells #[.int .i64 tx, .slice xa x.length xc, .slice ua un uc] 25)).alloc (.cells #[.int .i64 ty, .slice ya y.length yc, .slice va vn vc] 25) := ⟨_, rfl⟩
 have hbx := jax w (.cells #[.int .i64 tx, .slice xa x.length xc, .slice ua un uc] 25) (.cells #[.int .i64 ty, .slice ya y.length yc, .slice va vn vc] 25)
 rw [← hw0] at hbx
 have g0 : w.grownBy w0 none := by rw [hw0]; exact jaa (jab _ _) (jab _ _)
 have z0 : w0.heap.size = w.heap.size + 1 + 1 := by rw [hw0]; simp
 have BX : Hid (∀ wx, w0.grownBy wx none → wx.heap[w.heap.size]? = some (.cells #[.int .i64 tx, .slice xa x.length xc, .slice ua un uc] 25 (0, 0)) ∧ wx.heap[w.heap.size + 1]? = some (.cells #[.int .i64 ty, .slice ya y.length yc, .slice va vn vc] 25 (0, 0))) := fun wx hx => ⟨jad hbx.1 hx, jad hbx.2 hx⟩
 have LV : Hid (∀ wx, w.grownBy wx none → Calls Tryz.prog 8 #[] wx fun e w' => e = .returned (.bool true) ∧ wx.grownBy w' none) := fun wx hx => jjN wx (HL.out.more hx)
 obtain ⟨wS, hwS⟩ : ∃ wS, wS = w0.alloc (.cells #[.int .i64 tx, .slice xa x.length xc, .slice ua un uc, .int .i64 ty, .slice ya y.length yc, .slice va vn vc] 25) := ⟨_, rfl⟩
 obtain ⟨bS, -⟩ := jbr (.cells #[.int .i64 tx, .slice xa x.length xc, .slice ua un uc, .int .i64 ty, .slice ya y.length yc, .slice va vn vc] 25) z0
 rw [← hwS] at bS
 have gS : w0.grownBy wS none := by rw [hwS]; exact jab _ _
 have GS := jae (jaa g0 gS)
 have GS0 := jae gS
 have SM := jae (jia ⟨some ⟨w.heap.size + 1 + 1, 0, none⟩, 2, 2⟩ [(⟨tx, ⟨xa, x.length, xc⟩, ⟨ua, un, uc⟩⟩, (x, xs)), (⟨ty, ⟨ya, y.length, yc⟩, ⟨va, vn, vc⟩⟩, (y, ys))] wS (jel ⟨tx, ⟨xa, x.length, xc⟩, ⟨ua, un, uc⟩⟩ ⟨ty, ⟨ya, y.length, yc⟩, ⟨va, vn, vc⟩⟩ bS (HX.out.more GS.out) (HXS.out.more GS.out) (HY.out.more GS.out) (HYS.out.more GS.out)))
 simp only at SM
 obtain ⟨x0, x1, x2⟩ := jal hbx.1
 obtain ⟨y0, y1, y2⟩ := jal hbx.2
 rw [hw0] at x0 x1 x2 y0 y1 y2
 clear hbx bS z0 g0 gS
 go_enter Tryz.func3, Tryz.ntmps3
 go_wp2_with fail
 rw [← hw0, ← hwS]
 clear hw0 hwS x0 x1 x2 y0 y1 y2
 refine SM.out.mono ?_
 rintro e w1 ⟨b, rfl, hg1⟩
 have G1 := jae (jaa GS.out hg1)
 have G01 := jae (jaa GS0.out hg1)
 have L1 := jae (LV.out w1 G1.out)
 clear hg1 SM
 cases b with
 | false =>
  go_wp2_with fail
  refine L1.out.mono ?_
  rintro e w2 ⟨rfl, hg2⟩
  go_wp2
  go_ret
  exact ⟨rfl, ja0 (jaa G1.out hg2)⟩
 | true =>
  obtain ⟨⟨x0, x1, x2⟩, ⟨y0, y1, y2⟩⟩ := And.intro (jal (BX.out w1 G01.out).1) (jal (BX.out w1 G01.out).2)
  by_cases h4 : x.length = 4
  ·by_cases k4 : y.length = 4
   ·rw [h4] at x1 BX ⊢
    rw [k4] at y1 BX ⊢
    have HX4 : Hid (IsInts w (.slice xa 4 xc) x) := by have h := HX.out; rw [h4] at h; exact h
    have HY4 : Hid (IsInts w (.slice ya 4 yc) y) := by have h := HY.out; rw [k4] at h; exact h
    have i4 : IsInts w (.slice xa 4 xc) x := HX4.out
    have j4 : IsInts w (.slice ya 4 yc) y := HY4.out
    obtain ⟨bx, ox, rfl⟩ := jaM i4 (by omega)
    obtain ⟨bY, oY, rfl⟩ := jaM j4 (by omega)
    have p0 := jaC i4 (k := 0) (by omega)
    have p1 := jaC i4 (k := 1) (by omega)
    have p2 := jaC i4 (k := 2) (by omega)
    have p3 := jaC i4 (k := 3) (by omega)
    have q0 := jaC j4 (k := 0) (by omega)
    rw [Nat.add_zero] at p0 q0
    have q1 := jaC j4 (k := 1) (by omega)
    have q2 := jaC j4 (k := 2) (by omega)
    have q3 := jaC j4 (k := 3) (by omega)
    obtain ⟨d0, hd0⟩ : ∃ d, d = x.getD 0 0 := ⟨_, rfl⟩
    rw [← hd0] at p0
    have Hd0 := jae hd0
    have Bd0 : Hid (-9223372036854775808 ≤ d0 ∧ d0 ≤ 9223372036854775807) := by rw [hd0]; exact i4.wf _ (by rw [List.getD, List.getElem?_eq_getElem (by omega)]; exact List.getElem_mem _)
    clear hd0
    obtain ⟨d1, hd1⟩ : ∃ d, d = x.getD 1 0 := ⟨_, rfl⟩
    rw [← hd1] at p1
    have Hd1 := jae hd1
    have Bd1 : Hid (-9223372036854775808 ≤ d1 ∧ d1 ≤ 9223372036854775807) := by rw [hd1]; exact i4.wf _ (by rw [List.getD, List.getElem?_eq_getElem (by omega)]; exact List.getElem_mem _)
    clear hd1
    obtain ⟨d2, hd2⟩ : ∃ d, d = x.getD 2 0 := ⟨_, rfl⟩
    rw [← hd2] at p2
    have Hd2 := jae hd2
    have Bd2 : Hid (-9223372036854775808 ≤ d2 ∧ d2 ≤ 9223372036854775807) := by rw [hd2]; exact i4.wf _ (by rw [List.getD, List.getElem?_eq_getElem (by omega)]; exact List.getElem_mem _)
    clear hd2
    obtain ⟨d3, hd3⟩ : ∃ d, d = x.getD 3 0 := ⟨_, rfl⟩
    rw [← hd3] at p3
    have Hd3 := jae hd3
    have Bd3 : Hid (-9223372036854775808 ≤ d3 ∧ d3 ≤ 9223372036854775807) := by rw [hd3]; exact i4.wf _ (by rw [List.getD, List.getElem?_eq_getElem (by omega)]; exact List.getElem_mem _)
    clear hd3
    obtain ⟨e0, he0⟩ : ∃ d, d = y.getD 0 0 := ⟨_, rfl⟩
    rw [← he0] at q0
    have He0 := jae he0
    have Be0 : Hid (-9223372036854775808 ≤ e0 ∧ e0 ≤ 9223372036854775807) := by rw [he0]; exact j4.wf _ (by rw [List.getD, List.getElem?_eq_getElem (by omega)]; exact List.getElem_mem _)
    clear he0
    obtain ⟨e1, he1⟩ : ∃ d, d = y.getD 1 0 := ⟨_, rfl⟩
    rw [← he1] at q1
    have He1 := jae he1
    have Be1 : Hid (-9223372036854775808 ≤ e1 ∧ e1 ≤ 9223372036854775807) := by rw [he1]; exact j4.wf _ (by rw [List.getD, List.getElem?_eq_getElem (by omega)]; exact List.getElem_mem _)
    clear he1
    obtain ⟨e2, he2⟩ : ∃ d, d = y.getD 2 0 := ⟨_, rfl⟩
    rw [← he2] at q2
    have He2 := jae he2
    have Be2 : Hid (-9223372036854775808 ≤ e2 ∧ e2 ≤ 9223372036854775807) := by rw [he2]; exact j4.wf _ (by rw [List.getD, List.getElem?_eq_getElem (by omega)]; exact List.getElem_mem _)
    clear he2
    obtain ⟨e3, he3⟩ : ∃ d, d = y.getD 3 0 := ⟨_, rfl⟩
    rw [← he3] at q3
    have He3 := jae he3
    have Be3 : Hid (-9223372036854775808 ≤ e3 ∧ e3 ≤ 9223372036854775807) := by rw [he3]; exact j4.wf _ (by rw [List.getD, List.getElem?_eq_getElem (by omega)]; exact List.getElem_mem _)
    clear he3
    have P1 := jae p1
    have P2 := jae p2
    have P3 := jae p3
    have Q0 := jae q0
    have Q1 := jae q1
    clear HX HY i4 j4 h4 k4 p1 p2 p3 q0 q1
    have p0 := jac p0 G1.out
    have q2 := jac q2 G1.out
    have q3 := jac q3 G1.out
    by_cases c0 : d0 = 1
    ·subst c0
     by_cases c2 : e2 = 1
     ·subst c2
      by_cases c3 : e3 = 1
      ·subst c3
       obtain ⟨q, hq⟩ : ∃ q, q = (w1.alloc (.cells #[.string ⟨#[120]⟩, .string ⟨#[119]⟩] 9)).alloc (.cells #[.int .i64 tx, .slice (some ⟨bx, ox, none⟩) 4 xc, .slice ua un uc, .int .i64 ty, .slice (some ⟨bY, oY, none⟩) 4 yc, .slice va vn vc] 25) := ⟨_, rfl⟩
       obtain ⟨k0, k1⟩ := jax w1 (.cells #[.string ⟨#[120]⟩, .string ⟨#[119]⟩] 9) (.cells #[.int .i64 tx, .slice (some ⟨bx, ox, none⟩) 4 xc, .slice ua un uc, .int .i64 ty, .slice (some ⟨bY, oY, none⟩) 4 yc, .slice va vn vc] 25)
       rw [← hq] at k0 k1
       have gq : w1.grownBy q none := by rw [hq]; exact jaa (jab _ _) (jab _ _)
       have GQ := jae (jaa G1.out gq)
       have G0Q := jae (jaa G01.out gq)
       obtain ⟨r, hr⟩ : ∃ r, r = cvG tx ty x y xs ys := ⟨_, rfl⟩
       have E1 := jae (joj ⟨#[122]⟩ ⟨some ⟨w1.heap.size, 0, none⟩, 2, 2⟩ ⟨#[120]⟩ ⟨#[119]⟩ (by kernel_rfl) (by decide) ⟨some ⟨w1.heap.size + 1, 0, none⟩, 2, 2⟩ ⟨tx, ⟨some ⟨bx, ox, none⟩, 4, xc⟩, ⟨ua, un, uc⟩⟩ ⟨ty, ⟨some ⟨bY, oY, none⟩, 4, yc⟩, ⟨va, vn, vc⟩⟩ x y xs ys q (HL.out.more GQ.out) (jib k0) (jel ⟨tx, ⟨some ⟨bx, ox, none⟩, 4, xc⟩, ⟨ua, un, uc⟩⟩ ⟨ty, ⟨some ⟨bY, oY, none⟩, 4, yc⟩, ⟨va, vn, vc⟩⟩ k1 (HX4.out.more GQ.out) (HXS.out.more GQ.out) (HY4.out.more GQ.out) (HYS.out.more GQ.out)) Hd0.out.symm)
       unfold jaL jbQ at E1
       simp only at E1
       rw [← hr] at E1
       have HR := jae hr
       obtain ⟨u0, u1, u2⟩ := jal (BX.out (w1.alloc (.cells #[.string ⟨#[120]⟩, .string ⟨#[119]⟩] 9)) (jaa G01.out (jab _ _))).1
       obtain ⟨v0, v1, v2⟩ := jal (BX.out (w1.alloc (.cells #[.string ⟨#[120]⟩, .string ⟨#[119]⟩] 9)) (jaa G01.out (jab _ _))).2
       clear k0 k1 gq hr
       go_wp2_with fail
       rw [← hq]
       clear hq x0 x1 x2 y0 y1 y2 u0 u1 u2 v0 v1 v2 p0 q2 q3
       refine E1.out.mono ?_
       intro e w2 hdo
       obtain ⟨hg2, ⟨da, dn, dc⟩, ⟨ta, tn, tc⟩, rfl, id2, it2⟩ := jg1 hdo
       simp only [Sl.v] at id2 it2 ⊢
       obtain ⟨m, hm⟩ : ∃ m, m = w2.alloc (.cells #[.int .i64 (rTy r), .slice da dn dc, .slice ta tn tc] 25) := ⟨_, rfl⟩
       have bm := heap_alloc_new w2 (.cells #[.int .i64 (rTy r), .slice da dn dc, .slice ta tn tc] 25)
       rw [← hm] at bm
       have gm : w2.grownBy m none := by rw [hm]; exact jab _ _
       have GM := jae (jaa GQ.out (jaa hg2 gm))
       have G0M := jae (jaa G0Q.out (jaa hg2 gm))
       have LM := jae (LV.out m GM.out)
       have it3 := it2.more gm
       clear E1 hdo hg2 id2 gm L1
       cases r with
       | error c =>
        have hc := jqj _ _ _ _ _ _ c HR.out.symm
        have bc : (c != 0) = true := by simpa using hc
        simp only [rC, rTy] at hm ⊢
        clear bm it2 it3 hc
        go_wp2_with fail
        rw [← hm]
        clear hm
        refine LM.out.mono ?_
        rintro e w3 ⟨rfl, hg3⟩
        go_wp2
        go_ret
        exact ⟨rfl, ja0 (jaa GM.out hg3)⟩
       | ok rr =>
        obtain ⟨tt, ll, zs⟩ := rr
        obtain ⟨dP, U, V, Bm, rfl, rfl, hP, bP, r1, r2, r3, r4⟩ := jhc Hd0.out.symm He2.out.symm He3.out.symm HR.out.symm Hd1.out Hd2.out Hd3.out He0.out He1.out
        simp only [rC, rTy, rZ] at hm bm it2 it3 ⊢
        obtain ⟨_, _, ez, -⟩ := it2.sl
        simp only [Value.slice.injEq] at ez
        obtain ⟨-, rfl, -⟩ := ez
        have BM := jae bm
        have IT := jae it3
        have HP := jae hP
        have BP := jae bP
        have R1 := jae r1
        have R2 := jae r2
        have R3 := jae r3
        have R4 := jae r4
        obtain ⟨x0, x1, x2⟩ := jal (BX.out m G0M.out).1
        have p2 := jac P2.out GM.out
        have p3 := jac P3.out GM.out
        clear bm it2 it3 hP bP r1 r2 r3 r4 LM HR
        go_upto_region 6 with fail
        rw [← hm]
        clear hm
        go_cut [7] from 71 to 79 (fun t7 wx => m.grownBy wx none ∧ t7 = .int .i64 dP)
        case first =>
         refine wp_region_held_drew (S := fun w' => m.grownBy w' none) (by kernel_rfl) (jag (jaf _)) (fun hHeld => ?_)
         refine tkE 0 ?_ (hv := by intro wS hSw; go_simp; (try with_reducible rfl))
         try simp only [Act.put]
         refine tkE 1 ?_ (hv := by intro wS hSw; have c0 := jac x1 hSw; go_simp; (try with_reducible rfl))
         try simp only [Act.put]
         refine tkE 2 ?_ (hv := by intro wS hSw; go_simp; (try with_reducible rfl))
         try simp only [Act.put]
         refine tkE 3 ?_ (hv := by intro wS hSw; have c0 := jac p2 hSw; go_simp; (try with_reducible rfl))
         try simp only [Act.put]
         refine tkE 4 ?_ (hv := by intro wS hSw; go_simp; (try with_reducible rfl))
         try simp only [Act.put]
         refine tkE 5 ?_ (hv := by intro wS hSw; have c0 := jac x1 hSw; go_simp; (try with_reducible rfl))
         try simp only [Act.put]
         refine tkE 6 ?_ (hv := by intro wS hSw; go_simp; (try with_reducible rfl))
         try simp only [Act.put]
         refine tkE 7 ?_ (hv := by intro wS hSw; have c0 := jac p3 hSw; go_simp; (try with_reducible rfl))
         try simp only [Act.put]
         have hP := HP.out
         refine wpAnyH_take (i := 8) (v := .int .i64 dP) rfl (by kernel_rfl) (by kernel_rfl) (by kernel_rfl) (fun _ _ _ h => h) (Or.inl ⟨by kernel_rfl, ?_⟩) (by assumption) ?_
         ·(intro wS hSw; go_simp; (try simp only [hP]))
         try simp only [Act.put]
         clear hP
         refine tkE 9 ?_ (hv := by intro wS hSw; go_simp; (try with_reducible rfl))
         try simp only [Act.put]
         refine wpAnyH_done (by kernel_rfl) ?_ _
         clear x0 x1 x2 p2 p3 hHeld
         go_simp
         go_wp2_with fail
         go_meet
         exact ⟨jag (jaf _), rfl⟩
        case rest =>
         obtain ⟨hgc, rfl⟩ := hcut
         obtain ⟨ma, hv⟩ : ∃ v, v = wc := ⟨_, rfl⟩
         rw [← hv] at hgc ⊢
         clear hv x0 x1 x2 p2 p3
         have GA := jae (jaa GM.out hgc)
         have G0A := jae (jaa G0M.out hgc)
         have BA := jae (jad BM.out hgc)
         have ITA := jae (IT.out.more hgc)
         obtain ⟨x0, x1, x2⟩ := jal (BX.out ma G0A.out).1
         have p1 := jac P1.out GA.out
         clear hgc BM IT GM G0M
         go_upto_region 7 with fail
         go_cut [8] from 80 to 90 (fun t8 wx => ma.grownBy wx none ∧ ∃ b7 b11 : Nat, t8 = .pointer (some ⟨b11, 0, none⟩) ∧ wx.heap[b11]? = some (.cells #[.int .i64 1, .slice (some ⟨b7, 0, none⟩) 2 2, .slice ua un uc] 25 (0, 0)) ∧ wx.heap[b7]? = some (.cells #[.int .i64 d1, .int .i64 dP] 3 (0, 0)))
         case first =>
          refine wp_region_held_drew (S := fun w' => ma.grownBy w' none) (by kernel_rfl) (jag (jaf _)) (fun _ => ?_)
          refine' jat (N := ∀ (v : World) (b7 : Nat) (b11 : Nat), ma.grownBy v none → v.heap[b7]? = some (.cells #[.int .i64 d1, .int .i64 dP] 3 (0, 0)) → v.heap[b11]? = some (.cells #[.int .i64 0, .slice none 0 0, .slice none 0 0] 25 (0, 0)) → ma.heap.size ≤ b11 → (_ : World → Nat → Nat → Prop) v b7 b11) (fun N7_11 => ?_) ?_
          rotate_left 1
          refine' jat (N := ∀ (v : World) (b7 : Nat), ma.grownBy v none → v.heap[b7]? = some (.cells #[.int .i64 d1, .int .i64 dP] 3 (0, 0)) → (_ : World → Nat → Prop) v b7) (fun N7 => ?_) ?_
          rotate_left 1
          refine' jat (N := ∀ (v : World) (b11 : Nat), ma.grownBy v none → v.heap[b11]? = some (.cells #[.int .i64 0, .slice none 0 0, .slice none 0 0] 25 (0, 0)) → ma.heap.size ≤ b11 → (_ : World → Nat → Prop) v b11) (fun N11 => ?_) ?_
          rotate_left 1
          ·have g : ma.grownBy ma.drew none := jag (jaf _)
           generalize hv : ma.drew = v at g ⊢
           clear hv
           refine tkE 0 ?_ (hv := by intro wS hSw; go_simp; (try with_reducible rfl))
           try simp only [Act.put]
           refine tkE 1 ?_ (hv := by intro wS hSw; have c0 := jac x0 hSw; go_simp; (try with_reducible rfl))
           try simp only [Act.put]
           refine tkE 2 ?_ (hv := by intro wS hSw; go_simp; (try with_reducible rfl))
           try simp only [Act.put]
           refine tkE 3 ?_ (hv := by intro wS hSw; have c0 := jac x1 hSw; go_simp; (try with_reducible rfl))
           try simp only [Act.put]
           refine tkE 4 ?_ (hv := by intro wS hSw; go_simp; (try with_reducible rfl))
           try simp only [Act.put]
           refine tkE 5 ?_ (hv := by intro wS hSw; have c0 := jac p1 hSw; go_simp; (try with_reducible rfl))
           try simp only [Act.put]
           refine tkE 6 ?_ (hv := by intro wS hSw; go_simp; (try with_reducible rfl))
           try simp only [Act.put]
           refine tkE 8 ?_ (hv := by intro wS hSw; go_simp; (try with_reducible rfl))
           try simp only [Act.put]
           refine tkE 9 ?_ (hv := by intro wS hSw; have c0 := jac x2 hSw; go_simp; (try with_reducible rfl))
           try simp only [Act.put]
           refine wpAnyH_ready (rs := [7, 11]) (by kernel_rfl) (by simp) ?_
           refine AllReadyH.cons rfl (fun K hK => ?_) ?_
           ·go_simp
            have h7 := heap_alloc_new v (.cells #[.int .i64 d1, .int .i64 dP] 3)
            have gs := jab v (.cells #[.int .i64 d1, .int .i64 dP] 3)
            generalize hvn : v.alloc (.cells #[.int .i64 d1, .int .i64 dP] 3) = u at h7 gs ⊢
            clear hvn
            generalize v.heap.size = b7 at h7 ⊢
            have gn := jaa g gs
            refine hK.out _ _ gn (fun hHeld => ?_)
            clear hK K
            try simp only [Act.put]
            refine tkE 10 ?_ (hv := by intro wS hSw; go_simp; (try with_reducible rfl))
            try simp only [Act.put]
            clear g gs hHeld
            exact N7 u b7 gn h7
           refine AllReadyH.cons rfl (fun K hK => ?_) ?_
           ·go_simp
            have hb11 := g.size
            have h11 := heap_alloc_new v (.cells #[.int .i64 0, .slice none 0 0, .slice none 0 0] 25)
            have gs := jab v (.cells #[.int .i64 0, .slice none 0 0, .slice none 0 0] 25)
            generalize hvn : v.alloc (.cells #[.int .i64 0, .slice none 0 0, .slice none 0 0] 25) = u at h11 gs ⊢
            clear hvn
            generalize v.heap.size = b11 at h11 hb11 ⊢
            have gn := jaa g gs
            refine hK.out _ _ gn (fun hHeld => ?_)
            clear hK K
            try simp only [Act.put]
            clear g gs hHeld
            exact N11 u b11 gn h11 hb11
           exact AllReadyH.nil
          ·intro v b11 g h11 hb11
           refine wpAnyH_ready (rs := [7]) (by kernel_rfl) (by simp) ?_
           refine AllReadyH.cons rfl (fun K hK => ?_) ?_
           ·go_simp
            have h7 := heap_alloc_new v (.cells #[.int .i64 d1, .int .i64 dP] 3)
            have gs := jab v (.cells #[.int .i64 d1, .int .i64 dP] 3)
            generalize hvn : v.alloc (.cells #[.int .i64 d1, .int .i64 dP] 3) = u at h7 gs ⊢
            clear hvn
            generalize v.heap.size = b7 at h7 ⊢
            have gn := jaa g gs
            refine hK.out _ _ gn (fun hHeld => ?_)
            clear hK K
            try simp only [Act.put]
            refine tkE 10 ?_ (hv := by intro wS hSw; go_simp; (try with_reducible rfl))
            try simp only [Act.put]
            have h11 := jad h11 gs
            clear g gs hHeld
            exact N7_11 u b7 b11 gn h7 h11 hb11
           exact AllReadyH.nil
          ·intro v b7 g h7
           refine wpAnyH_ready (rs := [11]) (by kernel_rfl) (by simp) ?_
           refine AllReadyH.cons rfl (fun K hK => ?_) ?_
           ·go_simp
            have hb11 := g.size
            have h11 := heap_alloc_new v (.cells #[.int .i64 0, .slice none 0 0, .slice none 0 0] 25)
            have gs := jab v (.cells #[.int .i64 0, .slice none 0 0, .slice none 0 0] 25)
            generalize hvn : v.alloc (.cells #[.int .i64 0, .slice none 0 0, .slice none 0 0] 25) = u at h11 gs ⊢
            clear hvn
            generalize v.heap.size = b11 at h11 hb11 ⊢
            have gn := jaa g gs
            refine hK.out _ _ gn (fun hHeld => ?_)
            clear hK K
            try simp only [Act.put]
            have h7 := jad h7 gs
            clear g gs hHeld
            refine cast ?_ (N7_11 u b7 b11 gn h7 h11 hb11)
            kernel_rfl
           exact AllReadyH.nil
          ·intro v b7 b11 g h7 h11 hb11
           refine wpAnyH_ready (rs := [12]) (by kernel_rfl) (by simp) ?_
           refine AllReadyH.cons rfl (fun K hK => ?_) ?_
           ·rw [if_pos (by kernel_rfl)]
            refine wp_store_row 25 (.tmp 8) (.tmp 90) rfl b11 #[.int .i64 1, .slice (some ⟨b7, 0, none⟩) 2 2, .slice ua un uc] rfl rfl 25 _ h11 jiQ rfl (by simp [Value.oneCell']) ?_
            have s14 := setRow_heap v b11 _ #[.int .i64 1, .slice (some ⟨b7, 0, none⟩) 2 2, .slice ua un uc] _ _ h11
            have rg := jcr v b11 #[.int .i64 1, .slice (some ⟨b7, 0, none⟩) 2 2, .slice ua un uc]
            have y14 := jah g rg (fun r e => by cases e; exact hb11)
            have k0 := (rg.block b7 (Array.getElem?_eq_some_iff.1 h7).1 (fun e => by injection e with e; rw [e, h11] at h7; cases h7)).trans h7
            refine hK.out _ _ y14 (fun hHeld => ?_)
            clear hK K
            try simp only [Act.put]
            refine wpAnyH_done (by kernel_rfl) ?_ _
            clear h7 h11 g hHeld rg
            go_simp
            go_wp2_with fail
            go_meet
            exact ⟨y14, b7, b11, rfl, s14, k0⟩
           exact AllReadyH.nil
         case rest =>
          obtain ⟨hgc, b7, b11, rfl, h11, h7⟩ := hcut
          obtain ⟨mb, hv⟩ : ∃ v, v = wc := ⟨_, rfl⟩
          rw [← hv] at hgc h11 h7 ⊢
          clear hv x0 x1 x2 p1
          have GB := jae (jaa GA.out hgc)
          have G0B := jae (jaa G0A.out hgc)
          have BB := jae (jad BA.out hgc)
          have ITB := jae (ITA.out.more hgc)
          have FB := jae h11
          have FI := jae (jem h7 Bd1.out BP.out)
          obtain ⟨y0, y1, y2⟩ := jal (BX.out mb G0B.out).2
          have q0 := jac Q0.out GB.out
          have q1 := jac Q1.out GB.out
          clear hgc h11 h7 BA ITA GA G0A
          go_upto_region 8 with fail
          go_cut [9] from 91 to 104 (fun t9 wx => mb.grownBy wx none ∧ ∃ b10 b14 : Nat, t9 = .pointer (some ⟨b14, 0, none⟩) ∧ wx.heap[b14]? = some (.cells #[.int .i64 1, .slice (some ⟨b10, 0, none⟩) 2 2, .slice va vn vc] 25 (0, 0)) ∧ wx.heap[b10]? = some (.cells #[.int .i64 e0, .int .i64 e1] 3 (0, 0)))
          case first =>
           refine wp_region_held_drew (S := fun w' => mb.grownBy w' none) (by kernel_rfl) (jag (jaf _)) (fun _ => ?_)
           refine' jat (N := ∀ (v : World) (b10 : Nat) (b14 : Nat), mb.grownBy v none → v.heap[b10]? = some (.cells #[.int .i64 e0, .int .i64 e1] 3 (0, 0)) → v.heap[b14]? = some (.cells #[.int .i64 0, .slice none 0 0, .slice none 0 0] 25 (0, 0)) → mb.heap.size ≤ b14 → (_ : World → Nat → Nat → Prop) v b10 b14) (fun N10_14 => ?_) ?_
           rotate_left 1
           refine' jat (N := ∀ (v : World) (b10 : Nat), mb.grownBy v none → v.heap[b10]? = some (.cells #[.int .i64 e0, .int .i64 e1] 3 (0, 0)) → (_ : World → Nat → Prop) v b10) (fun N10 => ?_) ?_
           rotate_left 1
           refine' jat (N := ∀ (v : World) (b14 : Nat), mb.grownBy v none → v.heap[b14]? = some (.cells #[.int .i64 0, .slice none 0 0, .slice none 0 0] 25 (0, 0)) → mb.heap.size ≤ b14 → (_ : World → Nat → Prop) v b14) (fun N14 => ?_) ?_
           rotate_left 1
           ·have g : mb.grownBy mb.drew none := jag (jaf _)
            generalize hv : mb.drew = v at g ⊢
            clear hv
            refine tkE 0 ?_ (hv := by intro wS hSw; go_simp; (try with_reducible rfl))
            try simp only [Act.put]
            refine tkE 1 ?_ (hv := by intro wS hSw; have c0 := jac y0 hSw; go_simp; (try with_reducible rfl))
            try simp only [Act.put]
            refine tkE 2 ?_ (hv := by intro wS hSw; go_simp; (try with_reducible rfl))
            try simp only [Act.put]
            refine tkE 3 ?_ (hv := by intro wS hSw; have c0 := jac y1 hSw; go_simp; (try with_reducible rfl))
            try simp only [Act.put]
            refine tkE 4 ?_ (hv := by intro wS hSw; go_simp; (try with_reducible rfl))
            try simp only [Act.put]
            refine tkE 5 ?_ (hv := by intro wS hSw; have c0 := jac q0 hSw; go_simp; (try with_reducible rfl))
            try simp only [Act.put]
            refine tkE 6 ?_ (hv := by intro wS hSw; go_simp; (try with_reducible rfl))
            try simp only [Act.put]
            refine tkE 7 ?_ (hv := by intro wS hSw; have c0 := jac y1 hSw; go_simp; (try with_reducible rfl))
            try simp only [Act.put]
            refine tkE 8 ?_ (hv := by intro wS hSw; go_simp; (try with_reducible rfl))
            try simp only [Act.put]
            refine tkE 9 ?_ (hv := by intro wS hSw; have c0 := jac q1 hSw; go_simp; (try with_reducible rfl))
            try simp only [Act.put]
            refine tkE 11 ?_ (hv := by intro wS hSw; go_simp; (try with_reducible rfl))
            try simp only [Act.put]
            refine tkE 12 ?_ (hv := by intro wS hSw; have c0 := jac y2 hSw; go_simp; (try with_reducible rfl))
            try simp only [Act.put]
            refine wpAnyH_ready (rs := [10, 14]) (by kernel_rfl) (by simp) ?_
            refine AllReadyH.cons rfl (fun K hK => ?_) ?_
            ·go_simp
             have h10 := heap_alloc_new v (.cells #[.int .i64 e0, .int .i64 e1] 3)
             have gs := jab v (.cells #[.int .i64 e0, .int .i64 e1] 3)
             generalize hvn : v.alloc (.cells #[.int .i64 e0, .int .i64 e1] 3) = u at h10 gs ⊢
             clear hvn
             generalize v.heap.size = b10 at h10 ⊢
             have gn := jaa g gs
             refine hK.out _ _ gn (fun hHeld => ?_)
             clear hK K
             try simp only [Act.put]
             refine tkE 13 ?_ (hv := by intro wS hSw; go_simp; (try with_reducible rfl))
             try simp only [Act.put]
             clear g gs hHeld
             exact N10 u b10 gn h10
            refine AllReadyH.cons rfl (fun K hK => ?_) ?_
            ·go_simp
             have hb14 := g.size
             have h14 := heap_alloc_new v (.cells #[.int .i64 0, .slice none 0 0, .slice none 0 0] 25)
             have gs := jab v (.cells #[.int .i64 0, .slice none 0 0, .slice none 0 0] 25)
             generalize hvn : v.alloc (.cells #[.int .i64 0, .slice none 0 0, .slice none 0 0] 25) = u at h14 gs ⊢
             clear hvn
             generalize v.heap.size = b14 at h14 hb14 ⊢
             have gn := jaa g gs
             refine hK.out _ _ gn (fun hHeld => ?_)
             clear hK K
             try simp only [Act.put]
             clear g gs hHeld
             exact N14 u b14 gn h14 hb14
            exact AllReadyH.nil
           ·intro v b14 g h14 hb14
            refine wpAnyH_ready (rs := [10]) (by kernel_rfl) (by simp) ?_
            refine AllReadyH.cons rfl (fun K hK => ?_) ?_
            ·go_simp
             have h10 := heap_alloc_new v (.cells #[.int .i64 e0, .int .i64 e1] 3)
             have gs := jab v (.cells #[.int .i64 e0, .int .i64 e1] 3)
             generalize hvn : v.alloc (.cells #[.int .i64 e0, .int .i64 e1] 3) = u at h10 gs ⊢
             clear hvn
             generalize v.heap.size = b10 at h10 ⊢
             have gn := jaa g gs
             refine hK.out _ _ gn (fun hHeld => ?_)
             clear hK K
             try simp only [Act.put]
             refine tkE 13 ?_ (hv := by intro wS hSw; go_simp; (try with_reducible rfl))
             try simp only [Act.put]
             have h14 := jad h14 gs
             clear g gs hHeld
             exact N10_14 u b10 b14 gn h10 h14 hb14
            exact AllReadyH.nil
           ·intro v b10 g h10
            refine wpAnyH_ready (rs := [14]) (by kernel_rfl) (by simp) ?_
            refine AllReadyH.cons rfl (fun K hK => ?_) ?_
            ·go_simp
             have hb14 := g.size
             have h14 := heap_alloc_new v (.cells #[.int .i64 0, .slice none 0 0, .slice none 0 0] 25)
             have gs := jab v (.cells #[.int .i64 0, .slice none 0 0, .slice none 0 0] 25)
             generalize hvn : v.alloc (.cells #[.int .i64 0, .slice none 0 0, .slice none 0 0] 25) = u at h14 gs ⊢
             clear hvn
             generalize v.heap.size = b14 at h14 hb14 ⊢
             have gn := jaa g gs
             refine hK.out _ _ gn (fun hHeld => ?_)
             clear hK K
             try simp only [Act.put]
             have h10 := jad h10 gs
             clear g gs hHeld
             refine cast ?_ (N10_14 u b10 b14 gn h10 h14 hb14)
             kernel_rfl
            exact AllReadyH.nil
           ·intro v b10 b14 g h10 h14 hb14
            refine wpAnyH_ready (rs := [15]) (by kernel_rfl) (by simp) ?_
            refine AllReadyH.cons rfl (fun K hK => ?_) ?_
            ·rw [if_pos (by kernel_rfl)]
             refine wp_store_row 25 (.tmp 9) (.tmp 104) rfl b14 #[.int .i64 1, .slice (some ⟨b10, 0, none⟩) 2 2, .slice va vn vc] rfl rfl 25 _ h14 jiQ rfl (by simp [Value.oneCell']) ?_
             have s14 := setRow_heap v b14 _ #[.int .i64 1, .slice (some ⟨b10, 0, none⟩) 2 2, .slice va vn vc] _ _ h14
             have rg := jcr v b14 #[.int .i64 1, .slice (some ⟨b10, 0, none⟩) 2 2, .slice va vn vc]
             have y14 := jah g rg (fun r e => by cases e; exact hb14)
             have k0 := (rg.block b10 (Array.getElem?_eq_some_iff.1 h10).1 (fun e => by injection e with e; rw [e, h14] at h10; cases h10)).trans h10
             refine hK.out _ _ y14 (fun hHeld => ?_)
             clear hK K
             try simp only [Act.put]
             refine wpAnyH_done (by kernel_rfl) ?_ _
             clear h10 h14 g hHeld rg
             go_simp
             go_wp2_with fail
             go_meet
             exact ⟨y14, b10, b14, rfl, s14, k0⟩
            exact AllReadyH.nil
          case rest =>
           obtain ⟨hgc, b10, b14, rfl, h14, h10⟩ := hcut
           obtain ⟨mc, hv⟩ : ∃ v, v = wc := ⟨_, rfl⟩
           rw [← hv] at hgc h14 h10 ⊢
           clear hv y0 y1 y2 q0 q1
           have GC := jae (jaa GB.out hgc)
           have BC := jae (jad BB.out hgc)
           have ITC := jae (ITB.out.more hgc)
           have FB2 := jae (jad FB.out hgc)
           have FI2 := jae (FI.out.more hgc)
           have KB2 := jae h14
           have KI2 := jae (jem h10 Be0.out Be1.out)
           clear hgc h14 h10 BB ITB FB FI GB G0B G0Q GQ
           obtain ⟨wN, hwN⟩ : ∃ W, W = (mc.alloc (.cells #[.string ⟨#[120]⟩] 9)).alloc (.cells #[.string ⟨#[84, 114, 97, 110, 115, 112, 111, 115, 101]⟩, .string ⟨#[]⟩, .slice (some ⟨mc.heap.size, 0, none⟩) 1 1, .string ⟨#[121]⟩, .slice none 0 0] 35) := ⟨_, rfl⟩
           obtain ⟨q0, hq0⟩ : ∃ W, W = wN.alloc (.cells #[.int .i64 1, .slice (some ⟨b7, 0, none⟩) 2 2, .slice ua un uc] 25) := ⟨_, rfl⟩
           have n2 := jax mc (.cells #[.string ⟨#[120]⟩] 9) (.cells #[.string ⟨#[84, 114, 97, 110, 115, 112, 111, 115, 101]⟩, .string ⟨#[]⟩, .slice (some ⟨mc.heap.size, 0, none⟩) 1 1, .string ⟨#[121]⟩, .slice none 0 0] 35)
           rw [← hwN] at n2
           have zN : wN.heap.size = mc.heap.size + 1 + 1 := by rw [hwN]; simp
           obtain ⟨k0, -⟩ := jbr (.cells #[.int .i64 1, .slice (some ⟨b7, 0, none⟩) 2 2, .slice ua un uc] 25) zN
           rw [← hq0] at k0
           have gN : mc.grownBy wN none := by rw [hwN]; exact jaa (jab _ _) (jab _ _)
           have g0 : wN.grownBy q0 none := by rw [hq0]; exact jab _ _
           have gN0 := jaa gN g0
           have GQ := jae (jaa GC.out gN0)
           have E2 := jae (jgb ⟨#[121]⟩ ⟨some ⟨mc.heap.size, 0, none⟩, 1, 1⟩ ⟨#[120]⟩ (by kernel_rfl) (by decide) ⟨some ⟨mc.heap.size + 1 + 1, 0, none⟩, 1, 1⟩ ⟨1, ⟨some ⟨b7, 0, none⟩, 2, 2⟩, ⟨ua, un, uc⟩⟩ [d1, dP] xs rfl q0 (HL.out.more GQ.out) (jiJ (jad n2.1 g0)) (jgc ⟨1, ⟨some ⟨b7, 0, none⟩, 2, 2⟩, ⟨ua, un, uc⟩⟩ k0 (FI2.out.more gN0) (HXS.out.more GQ.out)))
           unfold jaL jbQ at E2
           simp only at E2
           rw [R1.out] at E2
           have NN : Hid (∀ wx, wN.grownBy wx none → wx.heap[mc.heap.size]? = some (.cells #[.string ⟨#[120]⟩] 9 (0, 0)) ∧ wx.heap[mc.heap.size + 1]? = some (.cells #[.string ⟨#[84, 114, 97, 110, 115, 112, 111, 115, 101]⟩, .string ⟨#[]⟩, .slice (some ⟨mc.heap.size, 0, none⟩) 1 1, .string ⟨#[121]⟩, .slice none 0 0] 35 (0, 0))) := fun wx hx => ⟨jad n2.1 hx, jad n2.2 hx⟩
           obtain ⟨n0, n1, n2, n3, n4⟩ := jai (n := ⟨⟨#[84, 114, 97, 110, 115, 112, 111, 115, 101]⟩, ⟨#[]⟩, ⟨some ⟨mc.heap.size, 0, none⟩, 1, 1⟩, ⟨#[121]⟩, ⟨none, 0, 0⟩⟩) n2.2
           obtain ⟨f0, f1, f2⟩ := jal (jad FB2.out gN)
           rw [hwN] at n0 n1 n2 n3 n4 f0 f1 f2
           simp only at n0 n1 n2 n3 n4
           have HN0 := jae g0
           have BC2 := jae (jad BC.out gN0)
           have ITC2 := jae (ITC.out.more gN0)
           have KB3 := jae (jad KB2.out gN0)
           have KI3 := jae (KI2.out.more gN0)
           clear k0 gN g0 gN0 zN BC ITC KB2 KI2 FB2 FI2 R1 GC
           go_wp2_with fail
           rw [← hwN, ← hq0]
           clear hwN hq0 n0 n1 n2 n3 n4 f0 f1 f2
           refine E2.out.mono ?_
           intro e w3 hdo
           obtain ⟨hg3, ⟨fa, fn, fc⟩, ⟨ga, gn, gc⟩, rfl, id3, it3⟩ := jg1 hdo
           simp only [rTy, rC, rL, rZ, Sl.v] at id3 it3 ⊢
           obtain ⟨p3, hp3⟩ : ∃ W, W = w3.alloc (.cells #[.int .i64 1, .slice fa fn fc, .slice ga gn gc] 25) := ⟨_, rfl⟩
           obtain ⟨q3, hq3⟩ : ∃ W, W = p3.alloc (.cells #[.int .i64 1, .slice (some ⟨b10, 0, none⟩) 2 2, .slice va vn vc] 25) := ⟨_, rfl⟩
           have t2 := jax w3 (.cells #[.int .i64 1, .slice fa fn fc, .slice ga gn gc] 25) (.cells #[.int .i64 1, .slice (some ⟨b10, 0, none⟩) 2 2, .slice va vn vc] 25)
           rw [← hp3, ← hq3] at t2
           have gp : w3.grownBy p3 none := by rw [hp3]; exact jab _ _
           have gq : p3.grownBy q3 none := by rw [hq3]; exact jab _ _
           have g3p := jaa hg3 gp
           have g3q := jaa g3p gq
           have GQ3 := jae (jaa GQ.out g3q)
           have N3 := jae (jaa HN0.out g3q)
           have E3 := jae (jgb ⟨#[121]⟩ ⟨some ⟨mc.heap.size, 0, none⟩, 1, 1⟩ ⟨#[120]⟩ (by kernel_rfl) (by decide) ⟨some ⟨w3.heap.size + 1, 0, none⟩, 1, 1⟩ ⟨1, ⟨some ⟨b10, 0, none⟩, 2, 2⟩, ⟨va, vn, vc⟩⟩ [e0, e1] ys rfl q3 (HL.out.more GQ3.out) (jiJ (NN.out q3 N3.out).1) (jgc ⟨1, ⟨some ⟨b10, 0, none⟩, 2, 2⟩, ⟨va, vn, vc⟩⟩ t2.2 (KI3.out.more g3q) (HYS.out.more GQ3.out)))
           unfold jaL jbQ at E3
           simp only at E3
           rw [R2.out] at E3
           obtain ⟨n0, n1, n2, n3, n4⟩ := jai (n := ⟨⟨#[84, 114, 97, 110, 115, 112, 111, 115, 101]⟩, ⟨#[]⟩, ⟨some ⟨mc.heap.size, 0, none⟩, 1, 1⟩, ⟨#[121]⟩, ⟨none, 0, 0⟩⟩) (NN.out p3 (jaa HN0.out g3p)).2
           obtain ⟨f0, f1, f2⟩ := jal (jad KB3.out g3p)
           rw [hp3] at n0 n1 n2 n3 n4 f0 f1 f2
           simp only at n0 n1 n2 n3 n4
           have XB := jae t2.1
           have XI := jae (id3.more (jaa gp gq))
           have XJ := jae (it3.more (jaa gp gq))
           have BC3 := jae (jad BC2.out g3q)
           have ITC3 := jae (ITC2.out.more g3q)
           clear t2 gp gq g3p g3q hg3 id3 it3 hdo E2 BC2 ITC2 KB3 KI3 R2 GQ HN0
           go_wp2_with fail
           rw [← hp3, ← hq3]
           clear hp3 hq3 n0 n1 n2 n3 n4 f0 f1 f2
           refine E3.out.mono ?_
           intro e w4 hdo
           obtain ⟨hg4, ⟨ha, hn, hc⟩, ⟨ia, im, ic⟩, rfl, id4, it4⟩ := jg1 hdo
           simp only [rTy, rC, rL, rZ, Sl.v] at id4 it4 ⊢
           obtain ⟨p4, hp4⟩ : ∃ W, W = w4.alloc (.cells #[.int .i64 1, .slice ha hn hc, .slice ia im ic] 25) := ⟨_, rfl⟩
           obtain ⟨s4, hs4⟩ : ∃ W, W = p4.alloc (.cells #[.string ⟨#[120]⟩, .string ⟨#[119]⟩] 9) := ⟨_, rfl⟩
           obtain ⟨q4, hq4⟩ : ∃ W, W = s4.alloc (.cells #[.int .i64 1, .slice fa fn fc, .slice ga gn gc, .int .i64 1, .slice ha hn hc, .slice ia im ic] 25) := ⟨_, rfl⟩
           obtain ⟨t1, zp⟩ := jbr (.cells #[.int .i64 1, .slice ha hn hc, .slice ia im ic] 25) (x := w4) rfl
           rw [← hp4] at t1 zp
           obtain ⟨t2, zs4⟩ := jbr (.cells #[.string ⟨#[120]⟩, .string ⟨#[119]⟩] 9) zp
           rw [← hs4] at t2 zs4
           obtain ⟨t3, -⟩ := jbr (.cells #[.int .i64 1, .slice fa fn fc, .slice ga gn gc, .int .i64 1, .slice ha hn hc, .slice ia im ic] 25) zs4
           rw [← hq4] at t3
           have gp : w4.grownBy p4 none := by rw [hp4]; exact jab _ _
           have gs : p4.grownBy s4 none := by rw [hs4]; exact jab _ _
           have gq : s4.grownBy q4 none := by rw [hq4]; exact jab _ _
           have g4q := jaa hg4 (jaa gp (jaa gs gq))
           have g4r := jaa gp (jaa gs gq)
           have GQ4 := jae (jaa GQ3.out g4q)
           have N4 := jae (jaa N3.out g4q)
           have E4 := jae (jlA ⟨#[122]⟩ ⟨some ⟨w4.heap.size + 1, 0, none⟩, 2, 2⟩ ⟨#[120]⟩ ⟨#[119]⟩ (by kernel_rfl) (by decide) ⟨some ⟨w4.heap.size + 1 + 1, 0, none⟩, 2, 2⟩ ⟨1, ⟨fa, fn, fc⟩, ⟨ga, gn, gc⟩⟩ ⟨1, ⟨ha, hn, hc⟩, ⟨ia, im, ic⟩⟩ [dP, d1] [e1, e0] U V q4 ⟨[], _, _, _, _, by simp, rfl, rfl⟩ (HL.out.more GQ4.out) (jib (jad t2 gq)) (jel ⟨1, ⟨fa, fn, fc⟩, ⟨ga, gn, gc⟩⟩ ⟨1, ⟨ha, hn, hc⟩, ⟨ia, im, ic⟩⟩ t3 (XI.out.more g4q) (XJ.out.more g4q) (id4.more g4r) (it4.more g4r)))
           unfold jaL jbQ at E4
           simp only at E4
           rw [R3.out] at E4
           obtain ⟨f0, f1, f2⟩ := jal (jad XB.out (jaa hg4 (jaa gp gs)))
           obtain ⟨k0, k1, k2⟩ := jal (jad t1 gs)
           rw [hs4, hp4] at f0 f1 f2 k0 k1 k2
           have BC4 := jae (jad BC3.out g4q)
           have ITC4 := jae (ITC3.out.more g4q)
           clear t1 t2 t3 zp zs4 gp gs gq g4q g4r hg4 id4 it4 hdo E3 BC3 ITC3 XB XI XJ R3 GQ3 N3
           go_wp2_with fail
           rw [← hp4, ← hs4, ← hq4]
           clear hp4 hs4 hq4 f0 f1 f2 k0 k1 k2
           refine E4.out.mono ?_
           intro e w5 hdo
           obtain ⟨hg5, ⟨ja, jn, jc⟩, ⟨la, ln, lc⟩, rfl, id5, it5⟩ := jg1 hdo
           simp only [rTy, rC, rL, rZ, Sl.v] at id5 it5 ⊢
           obtain ⟨p5, hp5⟩ : ∃ W, W = w5.alloc (.cells #[.int .i64 1, .slice ja jn jc, .slice la ln lc] 25) := ⟨_, rfl⟩
           obtain ⟨q5, hq5⟩ : ∃ W, W = p5.alloc (.cells #[.int .i64 1, .slice ja jn jc, .slice la ln lc] 25) := ⟨_, rfl⟩
           have t2 := jax w5 (.cells #[.int .i64 1, .slice ja jn jc, .slice la ln lc] 25) (.cells #[.int .i64 1, .slice ja jn jc, .slice la ln lc] 25)
           rw [← hp5, ← hq5] at t2
           have gp : w5.grownBy p5 none := by rw [hp5]; exact jab _ _
           have gq : p5.grownBy q5 none := by rw [hq5]; exact jab _ _
           have bp5 := heap_alloc_new w5 (.cells #[.int .i64 1, .slice ja jn jc, .slice la ln lc] 25)
           rw [← hp5] at bp5
           have g5p := jaa hg5 gp
           have g5q := jaa g5p gq
           have GQ5 := jae (jaa GQ4.out g5q)
           have N5 := jae (jaa N4.out g5q)
           have E5 := jae (jgb ⟨#[121]⟩ ⟨some ⟨mc.heap.size, 0, none⟩, 1, 1⟩ ⟨#[120]⟩ (by kernel_rfl) (by decide) ⟨some ⟨w5.heap.size + 1, 0, none⟩, 1, 1⟩ ⟨1, ⟨ja, jn, jc⟩, ⟨la, ln, lc⟩⟩ [dP, e0] Bm rfl q5 (HL.out.more GQ5.out) (jiJ (NN.out q5 N5.out).1) (jgc ⟨1, ⟨ja, jn, jc⟩, ⟨la, ln, lc⟩⟩ t2.2 (id5.more (jaa gp gq)) (it5.more (jaa gp gq))))
           unfold jaL jbQ at E5
           simp only at E5
           rw [R4.out] at E5
           obtain ⟨n0, n1, n2, n3, n4⟩ := jai (n := ⟨⟨#[84, 114, 97, 110, 115, 112, 111, 115, 101]⟩, ⟨#[]⟩, ⟨some ⟨mc.heap.size, 0, none⟩, 1, 1⟩, ⟨#[121]⟩, ⟨none, 0, 0⟩⟩) (NN.out p5 (jaa N4.out g5p)).2
           obtain ⟨f0, f1, f2⟩ := jal bp5
           rw [hp5] at n0 n1 n2 n3 n4 f0 f1 f2
           simp only at n0 n1 n2 n3 n4
           have BC5 := jae (jad BC4.out g5q)
           have ITC5 := jae (ITC4.out.more g5q)
           clear t2 gp gq bp5 g5p g5q hg5 id5 it5 hdo E4 BC4 ITC4 R4 GQ4 N4 N5
           go_wp2_with fail
           rw [← hp5, ← hq5]
           clear hp5 hq5 n0 n1 n2 n3 n4 f0 f1 f2
           refine E5.out.mono ?_
           intro e w6 hdo
           obtain ⟨hg6, ⟨oa, on, oc⟩, ⟨pa, pn, pc⟩, rfl, -, it6⟩ := jg1 hdo
           simp only [rTy, rC, rZ, Sl.v] at it6 ⊢
           obtain ⟨_, _, ez, -⟩ := it6.sl
           simp only [Value.slice.injEq] at ez
           obtain ⟨-, rfl, -⟩ := ez
           obtain ⟨p6, hp6⟩ : ∃ W, W = w6.alloc (.cells #[.int .i64 1, .slice oa on oc, .slice pa zs.length pc] 25) := ⟨_, rfl⟩
           have bp6 := heap_alloc_new w6 (.cells #[.int .i64 1, .slice oa on oc, .slice pa zs.length pc] 25)
           rw [← hp6] at bp6
           have gp : w6.grownBy p6 none := by rw [hp6]; exact jab _ _
           have G6 := jae (jaa GQ5.out (jaa hg6 gp))
           have BA6 := jae (jad BC5.out (jaa hg6 gp))
           have IA6 := jae (ITC5.out.more (jaa hg6 gp))
           have IC6 := jae (it6.more gp)
           have BB6 := jae bp6
           obtain ⟨a0, a1, a2⟩ := jal BA6.out
           obtain ⟨k0, k1, k2⟩ := jal BB6.out
           rw [hp6] at a0 a1 a2 k0 k1 k2
           have hZl : zs.length ≤ 140737488351232 := by have := IC6.out.le; omega
           clear bp6 gp hg6 it6 hdo E5 BC5 ITC5 GQ5
           have WB := jae (Nat.le_refl w6.heap.size)
           go_wp2_with fail
           rw [← hp6]
           clear hp6 a0 a1 a2 k0 k1 k2
           go_loopw [19] (fun i wr => p6.grownBy wr none ∧ ∃ k : Nat, k ≤ zs.length ∧ i = .int .i64 k) (fun i _ => zs.length - (intOf i).toNat)
           case atStart => exact ⟨jaf _, 0, Nat.zero_le _, rfl⟩
           case round =>
            obtain ⟨hg, k, hk, rfl⟩ := hrel
            have HG := jae hg
            obtain ⟨-, -, a2⟩ := jal (jad BA6.out hg)
            obtain ⟨-, -, k2⟩ := jal (jad BB6.out hg)
            by_cases hlt : k < zs.length
            ·obtain ⟨pa', po, rfl, hca⟩ := IA6.out.get hlt
             obtain ⟨pb', pq, rfl, hcb⟩ := IC6.out.get hlt
             have q0 := jac (hca k hlt) hg
             have q1 := jac (hcb k hlt) hg
             obtain ⟨yy, hy⟩ : ∃ y, y = zs.getD k 0 := ⟨_, rfl⟩
             rw [← hy] at q0 q1
             have l1 : (k : Int) < (zs.length : Int) := by omega
             clear hg hca hcb hy
             go_wp2_with fail
             go_region
             go_wp2_with fail
             go_roundw
             case rel => exact ⟨jag HG.out, k + 1, by omega, by go_num⟩
             case measure => simp [intOf]; omega
            ·have hke : k = zs.length := by omega
             subst hke
             have LX := jae (LV.out wr (jaa G6.out hg))
             clear hg
             go_wp2_with fail
             refine LX.out.mono ?_
             rintro e w8 ⟨rfl, hg8⟩
             go_wp2
             go_ret
             exact ⟨rfl, ja0 (jaa G6.out (jaa HG.out hg8))⟩
      ·have b0 : (e3 != 1) = true := by simpa using c3
       clear c3
       go_wp2_with fail
       refine L1.out.mono ?_
       rintro e w2 ⟨rfl, hg2⟩
       go_wp2
       go_ret
       exact ⟨rfl, ja0 (jaa G1.out hg2)⟩
     ·have b0 : (e2 != 1) = true := by simpa using c2
      clear c2
      go_wp2_with fail
      refine L1.out.mono ?_
      rintro e w2 ⟨rfl, hg2⟩
      go_wp2
      go_ret
      exact ⟨rfl, ja0 (jaa G1.out hg2)⟩
    ·have b0 : (d0 != 1) = true := by simpa using c0
     clear c0
     go_wp2_with fail
     refine L1.out.mono ?_
     rintro e w2 ⟨rfl, hg2⟩
     go_wp2
     go_ret
     exact ⟨rfl, ja0 (jaa G1.out hg2)⟩
   ·have b4 : ((y.length : Int) != 4) = true := by simp; omega
    rw [h4] at x1 BX ⊢
    clear h4 k4
    go_wp2_with fail
    refine L1.out.mono ?_
    rintro e w2 ⟨rfl, hg2⟩
    go_wp2
    go_ret
    exact ⟨rfl, ja0 (jaa G1.out hg2)⟩
  ·have b4 : ((x.length : Int) != 4) = true := by simp; omega
   clear h4
   go_wp2_with fail
   refine L1.out.mono ?_
   rintro e w2 ⟨rfl, hg2⟩
   go_wp2
   go_ret
   exact ⟨rfl, ja0 (jaa G1.out hg2)⟩
end Go.Proofs.YtkefdkboejimeaaGreatDoor
