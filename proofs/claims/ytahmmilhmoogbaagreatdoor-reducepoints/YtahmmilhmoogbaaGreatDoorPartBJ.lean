/- Joined texts: RdSoft, RdSoft2. -/
import Derived.Test.YtahmmilhmoogbaaGreatDoorPartBI
namespace Go.Proofs.YtahmmilhmoogbaaGreatDoor

open Go.RowKit

theorem exp0 (w : World) : Calls Tryz.prog 70 #[.string ⟨#[69, 120, 112]⟩, .int .i64 1, .int .i64 0] w fun e w' => e = .returned (.tuple #[.int .i64 1065353216, .int .i64 0]) ∧ w' = w :=
  calls_of_run (fn := Tryz.f70) 853 (by kernel_rfl) (fun cs => by kernel_rfl) (fun cs => by kernel_rfl)

set_option maxRecDepth 100000 in
theorem sone_any (op : ByteArray) (ty : Int) (w : World) : Calls Tryz.prog 48 #[.string op, .int .i64 ty] w fun e w' => e = .returned (.func (.func 69) #[] #[.pointer (some ⟨w.heap.size, 0, none⟩), .pointer (some ⟨w.heap.size + 1, 0, none⟩)]) ∧ w.grownBy w' none ∧ StepT op ty w' w.heap.size (w.heap.size + 1) := by
  have hmf : ∀ (fn : Fn) (first cap : Array Value) (w : World), (Instr.makeFunc fn first cap).run Tryz.prog w = .ok (.func fn first cap) w := fun _ _ _ _ => rfl
  have B2 := hide (two_boxes w (.cells #[.string op] 9) (.cells #[.int .i64 ty] 3))
  have G2 := hide (grown_trans (grown_new w (.cells #[.string op] 9)) (grown_new _ (.cells #[.int .i64 ty] 3)))
  go_enter Tryz.func48, Tryz.ntmps48
  go_wp2
  go_ret
  exact ⟨rfl, G2.out, B2.out.1, B2.out.2⟩

set_option maxRecDepth 100000 in
set_option maxHeartbeats 1000000 in
theorem step_exp0 (p1 p2 : Nat) (w : World) (h : StepT ⟨#[69, 120, 112]⟩ 1 w p1 p2) : Calls Tryz.prog 69 #[.int .i64 0, .pointer (some ⟨p1, 0, none⟩), .pointer (some ⟨p2, 0, none⟩)] w fun e w' => e = .returned (.int .i64 1065353216) ∧ w.grownBy w' none := by
  have c1 := one_cell h.1
  have c2 := one_cell h.2
  have BB := hide (fun (wx : World) => exp0 wx)
  clear h
  go_enter Tryz.func69, Tryz.ntmps69
  go_wp2_with (first | (go_at_call 70; refine (BB.out _).mono ?_; rintro e w' ⟨rfl, rfl⟩) | fail)
  go_ret
  exact ⟨rfl, grown_refl _⟩

theorem two_set (a c : Int) : ∀ k : Nat, k < 2 → (List.replicate k c ++ List.replicate (2 - k) a).set k c = List.replicate (k + 1) c ++ List.replicate (2 - (k + 1)) a
  | 0, _ => rfl
  | 1, _ => rfl
  | k + 2, h => by omega

theorem two_at (a c : Int) : ∀ k : Nat, k < 2 → (List.replicate k c ++ List.replicate (2 - k) a).getD k 0 = a
  | 0, _ => rfl
  | 1, _ => rfl
  | k + 2, h => by omega

theorem sub00 : (Nu.bin 1 1 0 0).1 = 0 := by kernel_rfl

theorem div12 : (Nu.bin 3 1 1065353216 1073741824).1 = 1056964608 := by kernel_rfl

theorem max00 : maxL (fun x y => (Nu.bin 4 1 x y).1) [0, 0] = 0 := by kernel_rfl

theorem sum11 : ([1065353216, 1065353216] : List Int).foldl (fun x y => (Nu.bin 0 1 x y).1) 0 = 1073741824 := by kernel_rfl

set_option maxRecDepth 100000 in
set_option maxHeartbeats 8000000 in
theorem shares0 (u : Sl) (w : World) (hx : IsInts w u.v [0, 0]) : Calls Tryz.prog 47 #[.slice u.a u.n u.c] w fun e w' => ∃ s : Sl, e = .returned (.slice s.a s.n s.c) ∧ OwnsE w' w.heap.size s.v [1056964608, 1056964608] ∧ w.grownBy w' none := by
  obtain ⟨i0, hi0, hz0, hz1, hz2⟩ := info_parts info64E
  obtain ⟨ua, un, uc⟩ := u
  obtain ⟨_, _, eu, c1, c2, c3⟩ := hx.sl
  simp only [Sl.v, Value.slice.injEq, List.length_cons, List.length_nil, Nat.zero_add] at eu
  obtain ⟨rfl, rfl, rfl⟩ := eu
  obtain ⟨xb, xo, rfl, hc⟩ := hx.get (k := 0) (by simp)
  have HX := hide hx
  have XC : Hid (∀ (wx : World) (k : Nat), w.grownBy wx none → k < 2 → wx.cell? ⟨xb, xo + k, none⟩ = some (.int .i64 0)) := fun wx k hg hk => by
    have := cell_still (hc k (by simpa using hk)) hg
    rw [this]
    match k, hk with
    | 0, _ => rfl
    | 1, _ => rfl
  have T2 := hide (fun op w => stwo_any op 1 w)
  have T1 := hide (fun w => sone_any ⟨#[69, 120, 112]⟩ 1 w)
  have GT := hide (fun w => greatest_any 1 w)
  have SM := hide (fun w => sum_any 1 w)
  have hb4 : i0.bytes * 2 ≤ 281474976710656 := by rw [hz2]; omega
  have hb5 : 2 ≤ maxLen := by simp only [maxLen]; omega
  clear hx hc
  go_enter Tryz.func47, Tryz.ntmps47
  go_wp2_with fail
  refine (T2.out ⟨#[83, 117, 98]⟩ w).mono ?_
  rintro e w1 ⟨rfl, hg1, a1, a2⟩
  go_wp2_with fail
  refine (T1.out w1).mono ?_
  rintro e w2 ⟨rfl, hg2, b12⟩
  go_wp2_with fail
  refine (T2.out ⟨#[68, 105, 118]⟩ w2).mono ?_
  rintro e w3 ⟨rfl, hg3, d1, d2⟩
  go_wp2_with fail
  refine (GT.out w3).mono ?_
  rintro e w4 ⟨b, rfl, ob, hg4⟩
  have g24 := grown_trans hg3 hg4
  have g14 := grown_trans hg2 g24
  have G4 := grown_trans hg1 g14
  have SS := hide (step_Sub (p1 := w.heap.size) (p2 := w.heap.size + 1) (w := w4) ⟨box_kept a1 g14, box_kept a2 g14⟩)
  have SE := hide (b12.more g24)
  have SD := hide (step_Div (p1 := w2.heap.size) (p2 := w2.heap.size + 1) (w := w4) ⟨box_kept d1 hg4, box_kept d2 hg4⟩)
  have GM := hide (greatest1_any _ b ⟨some ⟨xb, xo, none⟩, 2, uc⟩ [0, 0] w4 (HX.out.more G4) (by simp) ob)
  rw [max00] at GM
  have HG4 := hide G4
  simp only at GM
  clear hg1 a1 a2 hg2 b12 hg3 d1 d2 ob hg4 g24 g14 G4 T2 T1 GT
  go_wp2_with fail
  refine GM.out.mono ?_
  rintro e w5 ⟨rfl, hg5⟩
  have G5 := hide hg5
  clear GM hg5
  go_wp2_with (first | (refine wpList_make_full _ rfl (.tmp 20) (.tmp 20) 23 rfl w5.heap.size 2 i0 (.int .i64 0) 1 Tryz.underlying23 hi0 hz0 hz1 .i64 .i64 _ _ 2 rfl rfl (by omega) (by omega) hb4 hb5 (Nat.le_refl _) ?_; intro w6 hown6 hg6))
  rw [made_zeros] at hown6
  have O1 : Hid (OwnsE w6 w5.heap.size (.slice (some ⟨w5.heap.size, 0, none⟩) 2 2) (List.replicate 2 0)) := by
    refine ⟨by rw [List.length_replicate]; exact hown6, by rw [List.length_replicate]; omega, fun z hz => ?_⟩
    rw [(List.mem_replicate.1 hz).2]
    omega
  have G6 := hide hg6
  clear hown6 hg6 hb4 hb5
  go_wp2
  go_loopw [24] (fun i wr => w5.grownBy wr none ∧ ∃ k : Nat, k ≤ 2 ∧ i = .int .i64 k ∧ OwnsE wr w5.heap.size (.slice (some ⟨w5.heap.size, 0, none⟩) 2 2) (List.replicate k 1065353216 ++ List.replicate (2 - k) 0)) (fun i _ => 2 - (intOf i).toNat)
  case atStart => exact ⟨G6.out, 0, by omega, rfl, by simpa using O1.out⟩
  case round =>
    obtain ⟨hg, k, hk, rfl, o1⟩ := hrel
    have HG := hide hg
    have P1 := hide o1
    clear o1
    by_cases hlt : k < 2
    · have gx := grown_trans G5.out hg
      have hcell := XC.out wr k (grown_trans HG4.out gx) hlt
      have S1 := hide (SS.out 0 0 wr gx)
      simp only [sub00] at S1
      have E1 : Hid (∀ wx, wr.grownBy wx none → Calls Tryz.prog 69 #[.int .i64 0, .pointer (some ⟨w1.heap.size, 0, none⟩), .pointer (some ⟨w1.heap.size + 1, 0, none⟩)] wx fun e w' => e = .returned (.int .i64 1065353216) ∧ wx.grownBy w' none) := fun wx h => step_exp0 _ _ wx (SE.out.more (grown_trans gx h))
      have PT : Hid (∀ w8 : World, wr.grownBy w8 none → ∃ ov : Int, w8.cell? ⟨w5.heap.size, k, none⟩ = some (.int .i64 ov) ∧ w8.frozen? ⟨w5.heap.size, k, none⟩ = false ∧ OwnsE (w8.setCell ⟨w5.heap.size, k, none⟩ (.int .i64 1065353216)) w5.heap.size (.slice (some ⟨w5.heap.size, 0, none⟩) 2 2) (List.replicate (k + 1) 1065353216 ++ List.replicate (2 - (k + 1)) 0) ∧ w5.grownBy (w8.setCell ⟨w5.heap.size, k, none⟩ (.int .i64 1065353216)) none) := fun w8 h => by
        have q := P1.out.more h (.inr (by simp [Value.ownBlock]))
        obtain ⟨a1, a2, a3, a4⟩ := q.put (by simp; omega) hlt 1065353216 (by omega)
        rw [two_set 0 1065353216 k hlt] at a3
        exact ⟨_, a1, a2, a3, grown_drop (grown_trans HG.out h) a4 (Nat.le_refl _)⟩
      have l1 : (k : Int) < 2 := by omega
      clear hg gx
      go_wp2_with fail
      refine S1.out.mono ?_
      rintro e w7 ⟨rfl, hg7⟩
      go_wp2_with fail
      refine (E1.out w7 hg7).mono ?_
      rintro e w8 ⟨rfl, hg8⟩
      obtain ⟨ov, a1, a2, a3, a4⟩ := PT.out w8 (grown_trans hg7 hg8)
      have N1 := hide a3
      have N2 := hide a4
      clear hg7 hg8 a3 a4 PT S1 E1
      go_wp2_with fail
      go_roundw
      case rel => exact ⟨N2.out, k + 1, by omega, by go_num, N1.out⟩
      case measure => simp [intOf]; omega
    · have hke : k = 2 := by omega
      subst hke
      obtain ⟨wz, ewz⟩ : ∃ z, z = wr := ⟨_, rfl⟩
      subst ewz
      have P2 := P1.out
      rw [show List.replicate 2 (1065353216 : Int) ++ List.replicate (2 - 2) 0 = [1065353216, 1065353216] from rfl] at P2
      have HP2 := hide P2
      have SM1 := hide (SM.out wz)
      clear hg P2 P1
      go_wp2_with fail
      refine SM1.out.mono ?_
      rintro e w9 ⟨b9, rfl, ob9, hg9⟩
      have q9 := HP2.out.more hg9 (.inr (by simp [Value.ownBlock]))
      have S9 := hide (sum1_any _ b9 ⟨some ⟨w5.heap.size, 0, none⟩, 2, 2⟩ [1065353216, 1065353216] w9 q9.ints ob9)
      rw [sum11] at S9
      simp only at S9
      have Q9 := hide q9
      have G9 := hide (grown_trans HG.out hg9)
      clear ob9 hg9 q9 SM1 HP2 HG
      go_wp2_with fail
      refine S9.out.mono ?_
      rintro e wA ⟨rfl, hgA⟩
      have QA := hide (Q9.out.more hgA (.inr (by simp [Value.ownBlock])))
      have GA := hide (grown_trans G9.out hgA)
      clear hgA S9 Q9 G9
      go_wp2
      go_loopw [44] (fun i wr => w5.grownBy wr none ∧ ∃ k : Nat, k ≤ 2 ∧ i = .int .i64 k ∧ OwnsE wr w5.heap.size (.slice (some ⟨w5.heap.size, 0, none⟩) 2 2) (List.replicate k 1056964608 ++ List.replicate (2 - k) 1065353216)) (fun i _ => 2 - (intOf i).toNat)
      case atStart => exact ⟨GA.out, 0, by omega, rfl, QA.out⟩
      case round =>
        obtain ⟨hg, k, hk, rfl, o1⟩ := hrel
        have HG := hide hg
        have P1 := hide o1
        by_cases hlt : k < 2
        · have gx := grown_trans G5.out hg
          obtain ⟨b', off, eb, hcc⟩ := o1.ints.get (k := k) (by simp; omega)
          have hcell := hcc k (by simp; omega)
          rw [two_at _ _ k hlt] at hcell
          have eb1 : b' = w5.heap.size := by have := (Option.some.inj eb); injection this with h1 h2; exact h1.symm
          have eb2 : off = 0 := by have := (Option.some.inj eb); injection this with h1 h2; exact h2.symm
          rw [eb1, eb2, Nat.zero_add] at hcell
          have S1 := hide (SD.out 1065353216 1073741824 wr gx)
          simp only [div12] at S1
          have PT : Hid (∀ w8 : World, wr.grownBy w8 none → ∃ ov : Int, w8.cell? ⟨w5.heap.size, k, none⟩ = some (.int .i64 ov) ∧ w8.frozen? ⟨w5.heap.size, k, none⟩ = false ∧ OwnsE (w8.setCell ⟨w5.heap.size, k, none⟩ (.int .i64 1056964608)) w5.heap.size (.slice (some ⟨w5.heap.size, 0, none⟩) 2 2) (List.replicate (k + 1) 1056964608 ++ List.replicate (2 - (k + 1)) 1065353216) ∧ w5.grownBy (w8.setCell ⟨w5.heap.size, k, none⟩ (.int .i64 1056964608)) none) := fun w8 h => by
            have q := P1.out.more h (.inr (by simp [Value.ownBlock]))
            obtain ⟨a1, a2, a3, a4⟩ := q.put (by simp; omega) hlt 1056964608 (by omega)
            rw [two_set 1065353216 1056964608 k hlt] at a3
            exact ⟨_, a1, a2, a3, grown_drop (grown_trans HG.out h) a4 (Nat.le_refl _)⟩
          have l1 : (k : Int) < 2 := by omega
          clear hg gx o1 hcc eb eb1 eb2
          go_wp2_with fail
          refine S1.out.mono ?_
          rintro e w7 ⟨rfl, hg7⟩
          obtain ⟨ov, a1, a2, a3, a4⟩ := PT.out w7 hg7
          have N1 := hide a3
          have N2 := hide a4
          clear hg7 a3 a4 PT S1
          go_wp2_with fail
          go_roundw
          case rel => exact ⟨N2.out, k + 1, by omega, by go_num, N1.out⟩
          case measure => simp [intOf]; omega
        · have hke : k = 2 := by omega
          subst hke
          have hz := hide (Nat.le_trans HG4.out.size G5.out.size)
          clear hg o1
          go_wp2
          go_ret
          exact ⟨⟨some ⟨w5.heap.size, 0, none⟩, 2, 2⟩, rfl, ⟨row_base_leR P1.out.1 hz.out, P1.out.2⟩, grown_trans HG4.out (grown_trans G5.out HG.out)⟩

end Go.Proofs.YtahmmilhmoogbaaGreatDoor

namespace Go.Proofs.YtahmmilhmoogbaaGreatDoor

open Go.RowKit

set_option maxRecDepth 100000 in
set_option maxHeartbeats 8000000 in
theorem softmax0 (n : Nod) (A : At) (X : Ten) (w : World) (hn : NodeOk w n A) (hx : IsInts w X.dv.v [2]) (hxs : IsInts w X.tv.v [0, 0]) (hax : axesO 1 (alongP A 1) (List.replicate 1 false) = some [true]) :
    Calls Tryz.prog 27 #[nval n, .agg #[.int .i64 X.ty, .slice X.dv.a X.dv.n X.dv.c, .slice X.tv.a X.tv.n X.tv.c]] w fun e w' => ∃ s : Sl, e = .returned (.slice s.a s.n s.c) ∧ OwnsE w' w.heap.size s.v [1056964608, 1056964608] ∧ w.grownBy w' none := by
  obtain ⟨i0, hi0, hz0, hz1, hz2⟩ := info_parts info64E
  obtain ⟨ty, ⟨da, dn, dc⟩, ⟨ta, tn, tc⟩⟩ := X
  simp only [Sl.v] at hx hxs ⊢
  have HXS := hide hxs
  obtain ⟨_, _, exs, e1, e2, e3⟩ := hxs.sl
  simp only [Value.slice.injEq, List.length_cons, List.length_nil, Nat.zero_add] at exs
  obtain ⟨rfl, rfl, rfl⟩ := exs
  have GRP : Hid (∀ wx, w.grownBy wx none → Calls Tryz.prog 37 #[nval n, .slice da dn dc] wx fun e w' => ∃ (base Bw : Nat) (rs : List Sl), wx.heap.size ≤ base ∧ e = .returned (.slice (some ⟨Bw, 0, none⟩) 1 1) ∧ Gr w' base Bw 1 [[0, 1]] rs ∧ wx.grownBy w' none) := fun wx hg => groups_any n A ⟨da, dn, dc⟩ [2] [true] wx (hn.more hg) (hx.more hg) (fine_of (by kernel_rfl)) hax rfl
  have hb4 : i0.bytes * 2 ≤ 281474976710656 := by rw [hz2]; omega
  have hb5 : 2 ≤ maxLen := by simp only [maxLen]; omega
  clear hx hxs hax
  have NK := hide hn
  obtain ⟨op, nam, ⟨ia, il, ic⟩, out, ⟨ao, al, cap⟩⟩ := n
  unfold nval
  simp only
  obtain ⟨w0, hw0⟩ : ∃ w0, w0 = w.alloc (.cells #[.string op, .string nam, .slice ia il ic, .string out, .slice ao al cap] 35) := ⟨_, rfl⟩
  have g0 : Hid (w.grownBy w0 none) := by show w.grownBy w0 none; rw [hw0]; exact grown_new _ _
  have hb0 := heap_alloc_new w (.cells #[.string op, .string nam, .slice ia il ic, .string out, .slice ao al cap] 35)
  rw [← hw0] at hb0
  have BX : Hid (∀ wx, w0.grownBy wx none → wx.heap[w.heap.size]? = some (.cells #[.string op, .string nam, .slice ia il ic, .string out, .slice ao al cap] 35 (0, 0))) := fun wx hg => box_kept hb0 hg
  clear hb0 hn
  unfold nval at GRP
  simp only at GRP
  obtain ⟨w1, hw1⟩ : ∃ w1, w1 = w0.alloc (.cells #[.int .i64 ty, .slice da dn dc, .slice ta 2 tc] 25) := ⟨_, rfl⟩
  have hb1 := heap_alloc_new w0 (.cells #[.int .i64 ty, .slice da dn dc, .slice ta 2 tc] 25)
  rw [← hw1] at hb1
  have g1 : w0.grownBy w1 none := by rw [hw1]; exact grown_new _ _
  have hs0 : w0.heap.size = w.heap.size + 1 := by rw [hw0]; simp
  rw [hs0] at hb1
  have BT : Hid (∀ wx, w1.grownBy wx none → wx.heap[w.heap.size + 1]? = some (.cells #[.int .i64 ty, .slice da dn dc, .slice ta 2 tc] 25 (0, 0))) := fun wx hg => box_kept hb1 hg
  have BN : Hid (∀ wx, w1.grownBy wx none → wx.heap[w.heap.size]? = some (.cells #[.string op, .string nam, .slice ia il ic, .string out, .slice ao al cap] 35 (0, 0))) := fun wx hg => BX.out wx (grown_trans g1 hg)
  have G1 := hide (grown_trans g0.out g1)
  have hs1 : Hid (w1.heap.size = w.heap.size + 1 + 1) := by show _ = _; rw [hw1, World.size_alloc, hs0]
  obtain ⟨t0, t1, t2⟩ := ten_cells hb1
  rw [hw1, hw0] at t0 t1 t2
  clear hb1 g1 hs0 BX
  go_enter Tryz.func27, Tryz.ntmps27
  go_wp2_with (first | (refine wpList_make_full _ rfl (.tmp 12) (.tmp 12) 23 rfl w1.heap.size 2 i0 (.int .i64 0) 1 Tryz.underlying23 hi0 hz0 hz1 .i64 .i64 _ _ 2 rfl rfl (by omega) (by omega) hb4 hb5 (by rw [hw1, hw0]; exact Nat.le_refl _) ?_; rw [← hw0, ← hw1]; intro w2 hown2 hg2; obtain ⟨t0, t1, t2⟩ := ten_cells (BT.out w2 hg2); obtain ⟨n0, n1, n2, n3, n4⟩ := nod_cells (n := ⟨op, nam, ⟨ia, il, ic⟩, out, ⟨ao, al, cap⟩⟩) (BN.out w2 hg2)))
  rw [made_zeros] at hown2
  have O1 : Hid (OwnsE w2 w1.heap.size (.slice (some ⟨w1.heap.size, 0, none⟩) 2 2) (List.replicate 2 0)) := by
    refine ⟨by rw [List.length_replicate]; exact hown2, by rw [List.length_replicate]; omega, fun z hz => ?_⟩
    rw [(List.mem_replicate.1 hz).2]
    omega
  have G2 := hide hg2
  have GR := hide (GRP.out w2 (grown_trans G1.out hg2))
  clear hown2 hg2 hb4 hb5 hw0 hw1 GRP
  refine GR.out.mono ?_
  rintro e w3 ⟨base, Bw, rs, hbase, rfl, hgr, hg3⟩
  have HGR := hide hgr
  have G3 := hide hg3
  have O3 := hide (O1.out.more hg3 (.inr (by simp [Value.ownBlock])))
  have hb12 : Hid (w1.heap.size < base) := by
    have h := O1.out.1.lt w1.heap.size rfl
    show _ < _
    omega
  clear hgr hg3 hbase GR t0 t1 t2 n0 n1 n2 n3 n4
  rw [← hs1.out]
  go_wp2
  go_loopw [19] (fun i wr => ∃ k : Nat, k ≤ 1 ∧ i = .int .i64 k ∧ w1.grownBy wr none ∧ w3.grownBy wr (some w1.heap.size) ∧ OwnsE wr w1.heap.size (.slice (some ⟨w1.heap.size, 0, none⟩) 2 2) (if k = 0 then [0, 0] else [1056964608, 1056964608])) (fun i _ => 1 - (intOf i).toNat)
  case atStart => exact ⟨0, by omega, rfl, grown_trans G2.out G3.out, World.grownBy.refl _ _, O3.out⟩
  case round =>
    obtain ⟨k, hk, rfl, hg, hgw, o1⟩ := hrel
    by_cases hlt : k < 1
    · obtain rfl : k = 0 := by omega
      rw [if_pos rfl] at o1
      have HO := hide o1
      have HG := hide hg
      have HGW := hide hgw
      obtain ⟨rc, -⟩ := HGR.out.rd (k := 0) (by omega)
      have EA := HGR.out.each 0 (by omega)
      obtain ⟨⟨ra, rn, rcap⟩, hrv⟩ : ∃ s, s = rs.getD 0 nilG := ⟨_, rfl⟩
      rw [← hrv] at rc EA
      simp only at rc
      have nb : Bw ≠ w1.heap.size := by have h := (HGR.out.row.lt Bw rfl).1; have := hb12.out; omega
      have row' := World.ownsRow.kept HGR.out.row hgw (Or.inr (by simp only [Value.ownBlock, ne_eq, Option.some.injEq]; exact nb))
      have rc' : wr.cell? ⟨Bw, 0, none⟩ = some (.slice ra rn rcap) := by
        have hl := HGR.out.len
        rw [World.ownsRow.cellAt row' 0 (by omega), List.getElem?_map, List.getElem?_eq_getElem (by omega), Option.map_some]
        have e : rs[0] = ⟨ra, rn, rcap⟩ := by rw [hrv]; simp [List.getD, hl]
        rw [e]
      have EW : Hid (∀ wx, wr.grownBy wx (some w1.heap.size) → Owns wx base (.slice ra rn rcap) [0, 1]) := fun wx h => (EA.more hgw (some_orR fun g e e2 => by have := (EA.lt g e).1; have := hb12.out; injection e2 with e2; omega)).more h (some_orR fun g e e2 => by have := (EA.lt g e).1; have := hb12.out; injection e2 with e2; omega)
      have E0 := (EW.out wr (World.grownBy.refl _ _)).ints
      obtain ⟨_, _, en, -⟩ := E0.sl
      simp only [Value.slice.injEq, List.length_cons, List.length_nil, Nat.zero_add] at en
      obtain ⟨rfl, rfl, rfl⟩ := en
      have PK := hide (picked_any ⟨ta, 2, tc⟩ ⟨ra, 2, rcap⟩ [0, 0] [0, 1] wr (HXS.out.more (grown_trans G1.out hg)) E0 (by simp) (fun z hz => by simp at hz; rcases hz with rfl | rfl <;> simp))
      simp only at PK
      obtain ⟨t0, t1, t2⟩ := ten_cells (BT.out wr hg)
      obtain ⟨nb', no, hra, -⟩ := E0.get (k := 0) (by simp)
      subst hra
      have NC : Hid (∀ (wx : World) (j : Nat), wr.grownBy wx (some w1.heap.size) → j < 2 → wx.cell? ⟨nb', no + j, none⟩ = some (.int .i64 (j : Int))) := fun wx j h hj => by
        obtain ⟨b2, o2, e2, hc2⟩ := (EW.out wx h).ints.get (k := 0) (by simp)
        have eq := Option.some.inj e2
        injection eq with q1 q2
        rw [q1, q2, hc2 j (by simpa using hj)]
        match j, hj with
        | 0, _ => rfl
        | 1, _ => rfl
      clear rc hrv nb row' EA EW E0 o1 hg hgw hlt
      go_wp2_with fail
      refine PK.out.mono ?_
      rintro e w4 ⟨⟨pa, pn, pc⟩, rfl, hp4, hg4⟩
      have SH := hide (shares0 ⟨pa, pn, pc⟩ w4 hp4)
      simp only at SH ⊢
      have G4 := hide hg4
      clear PK hp4 hg4 t0 t1 t2 rc'
      go_wp2_with fail
      refine SH.out.mono ?_
      rintro e w5 ⟨⟨sa, sn, sc⟩, rfl, os, hg5⟩
      obtain ⟨_, _, esn, -⟩ := os.ints.sl
      simp only [Sl.v, Value.slice.injEq, List.length_cons, List.length_nil, Nat.zero_add] at esn
      obtain ⟨rfl, rfl, rfl⟩ := esn
      obtain ⟨sb, so, hsa, -⟩ := os.ints.get (k := 0) (by simp)
      simp only at hsa
      subst hsa
      have g45 := grown_trans G4.out hg5
      have OS := hide os
      have O5 := hide (HO.out.more g45 (.inr (by simp [Value.ownBlock])))
      have h14 : w1.heap.size < w4.heap.size := by have h := HO.out.1.lt w1.heap.size rfl; have := G4.out.size; omega
      have SC : Hid (∀ (wx : World) (j : Nat), w5.grownBy wx (some w1.heap.size) → j < 2 → wx.cell? ⟨sb, so + j, none⟩ = some (.int .i64 1056964608)) := fun wx j h hj => by
        have q := OS.out.more h (some_orR fun g e e2 => by have := (World.ownsRow.lt OS.out.1 g e).1; injection e2 with e2; omega)
        obtain ⟨b2, o2, e2, hc2⟩ := q.ints.get (k := 0) (by simp)
        simp only at e2
        have eq := Option.some.inj e2
        injection eq with q1 q2
        rw [q1, q2, hc2 j (by simpa using hj)]
        match j, hj with
        | 0, _ => rfl
        | 1, _ => rfl
      have G5 := hide g45
      have G15 := hide (grown_trans HG.out g45)
      clear os hg5 g45 SH h14 G4
      simp only
      go_wp2
      go_loopw [29] (fun i wx => ∃ j : Nat, j ≤ 2 ∧ i = .int .i64 j ∧ w1.grownBy wx none ∧ w5.grownBy wx (some w1.heap.size) ∧ OwnsE wx w1.heap.size (.slice (some ⟨w1.heap.size, 0, none⟩) 2 2) (List.replicate j 1056964608 ++ List.replicate (2 - j) 0)) (fun i _ => 2 - (intOf i).toNat)
      case atStart => exact ⟨0, by omega, rfl, G15.out, World.grownBy.refl _ _, O5.out⟩
      case round =>
        obtain ⟨j, hj, rfl, hg, hgw, o1⟩ := hrel
        by_cases hlt : j < 2
        · have c1 := SC.out wr j hgw hlt
          have c2 := NC.out wr j (grown_same (grown_anyR G5.out) hgw) hlt
          obtain ⟨a1, a2, a3, a4⟩ := o1.put (by simp; omega) hlt 1056964608 (by omega)
          rw [two_set 0 1056964608 j hlt] at a3
          have N1 := hide a3
          have N2 := hide (grown_drop hg a4 (Nat.le_refl _))
          have N3 := hide (grown_same hgw a4)
          have l1 : (j : Int) < 2 := by omega
          clear hg hgw o1 a3 a4
          go_wp2_with fail
          go_roundw
          case rel => exact ⟨j + 1, by omega, by go_num, N2.out, N3.out, N1.out⟩
          case measure => simp [intOf]; omega
        · have hje : j = 2 := by omega
          subst hje
          have N1 := hide o1
          have N2 := hide hg
          have N3 := hide (grown_same HGW.out (grown_same (grown_anyR G5.out) hgw))
          clear hg hgw o1
          go_wp2_with fail
          go_roundw
          case rel => exact ⟨1, by omega, by go_num, N2.out, N3.out, N1.out⟩
          case measure => simp [intOf]
    · have hke : k = 1 := by omega
      subst hke
      rw [if_neg (by decide)] at o1
      have N1 := hide o1
      have N2 := hide hg
      have hz := hide G1.out.size
      clear o1 hg hgw
      go_wp2
      go_ret
      exact ⟨⟨some ⟨w1.heap.size, 0, none⟩, 2, 2⟩, rfl, ⟨row_base_leR N1.out.1 hz.out, N1.out.2⟩, grown_trans G1.out N2.out⟩

end Go.Proofs.YtahmmilhmoogbaaGreatDoor
