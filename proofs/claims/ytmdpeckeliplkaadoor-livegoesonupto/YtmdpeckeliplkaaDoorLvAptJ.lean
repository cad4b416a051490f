/- Whether two nodes are apart, by the walk. -/
import Derived.Test.YtmdpeckeliplkaaDoorLvBefJ
namespace Go.Proofs.YtmdpeckeliplkaaDoor
open Go.RowKit

/-- What can be read of a graph's nodes: who reads whose value, which are outputs, and the rows. -/
structure NdR (w : World) (Bb Bo Q n : Nat) (rs : List Sl) (R : List (List Int)) (bs : List Bool) (q : Nat → Nat) (M : List (List Bool)) : Prop where
  readers : RdL w Bb n rs R
  bits : ∀ k, k < n → w.cell? ⟨Bo, k, none⟩ = some (.bool (bs.getD k false))
  rows : Rb w Q n q M

theorem NdR.more {w w' : World} {Bb Bo Q n : Nat} {rs : List Sl} {R : List (List Int)} {bs : List Bool} {q : Nat → Nat} {M : List (List Bool)} (h : NdR w Bb Bo Q n rs R bs q M) (hg : w.grownBy w' none) : NdR w' Bb Bo Q n rs R bs q M :=
  ⟨h.readers.more hg, fun k hk => (World.cell?_of_block (hg.block Bo (World.block_lt_of_cell? w _ (h.bits k hk)) (by simp))).trans (h.bits k hk), h.rows.more hg⟩

set_option maxRecDepth 100000 in
set_option maxHeartbeats 3200000 in
theorem isdone_any (Bl Ba Bb Bo Q n a b : Nat) (rs : List Sl) (R : List (List Int)) (bs : List Bool) (q : Nat → Nat) (M : List (List Bool)) (w : World) (h : NdR w Bb Bo Q n rs R bs q M) (ha : a < n) (hb : b < n) (hB : Behind R n) :
    Calls Tryd.prog 44 #[.agg #[.slice (some ⟨Bl, 0, none⟩) n n, .slice (some ⟨Ba, 0, none⟩) n n, .slice (some ⟨Bb, 0, none⟩) n n, .slice (some ⟨Bo, 0, none⟩) n n], .slice (some ⟨Q, 0, none⟩) n n, .int .i64 (a : Int), .int .i64 (b : Int)] w fun e w' => e = .returned (.bool (doneF R bs M a b)) ∧ w.grownBy w' none := by
  obtain ⟨w0, hw0⟩ : ∃ w0, w0 = w.alloc (.cells #[.slice (some ⟨Bl, 0, none⟩) n n, .slice (some ⟨Ba, 0, none⟩) n n, .slice (some ⟨Bb, 0, none⟩) n n, .slice (some ⟨Bo, 0, none⟩) n n] 63) := ⟨_, rfl⟩
  have g0 : w.grownBy w0 none := by rw [hw0]; exact grown_new _ _
  obtain ⟨y0, y1, y2, y3⟩ := nds_cells (heap_alloc_new w (.cells #[.slice (some ⟨Bl, 0, none⟩) n n, .slice (some ⟨Ba, 0, none⟩) n n, .slice (some ⟨Bb, 0, none⟩) n n, .slice (some ⟨Bo, 0, none⟩) n n] 63))
  have h0 := h.more g0
  have c1 := h0.bits a ha
  have c2 := h0.rows.row a ha
  have c3 := h0.rows.bit a ha b hb
  have c4 := h0.readers.cell a ha
  have CI := hide (h0.readers.ints a ha)
  have HA := hide (allbefore_any (rs.getD a nilS).v (R.getD a []) Q n b q M w0 CI.out hb (fun r hr => by have := hB a ha r hr; omega) h0.rows)
  have HD : Hid (doneF R bs M a b = (!(bs.getD a false) && (M.getD a []).getD b false && allB M (R.getD a []) b)) := rfl
  obtain ⟨x, hx⟩ : ∃ x, x = bs.getD a false := ⟨_, rfl⟩
  obtain ⟨y, hy⟩ : ∃ y, y = (M.getD a []).getD b false := ⟨_, rfl⟩
  obtain ⟨z, hz⟩ : ∃ z, z = allB M (R.getD a []) b := ⟨_, rfl⟩
  obtain ⟨d, hd⟩ : ∃ d, d = doneF R bs M a b := ⟨_, rfl⟩
  obtain ⟨⟨sa, sn, sc⟩, hs⟩ : ∃ s, s = rs.getD a nilS := ⟨_, rfl⟩
  rw [← hx] at c1 HD
  rw [← hy] at c3 HD
  rw [← hz] at HD HA
  rw [← hd] at HD ⊢
  rw [← hs] at c4 HA
  simp only [Sl.v] at HA c4
  have a0 : (0 : Int) ≤ (a : Int) := Int.natCast_nonneg _
  have a1 : (a : Int) < (n : Int) := by omega
  have b0 : (0 : Int) ≤ (b : Int) := Int.natCast_nonneg _
  have b1 : (b : Int) < (n : Int) := by omega
  rw [hw0] at c1 c2 c3 c4
  clear h h0 hB hx hy hz hd hs CI
  go_enter Tryd.func44, Tryd.ntmps44
  cases x with
  | true =>
    have E : Hid (d = false) := by show _ = _; rw [HD.out]; rfl
    clear HD
    go_wp2_with fail
    go_ret
    exact ⟨by rw [E.out]; rfl, by rw [← hw0]; exact g0⟩
  | false =>
    cases y with
    | false =>
      have E : Hid (d = false) := by show _ = _; rw [HD.out]; rfl
      clear HD
      go_wp2_with fail
      go_ret
      exact ⟨by rw [E.out]; rfl, by rw [← hw0]; exact g0⟩
    | true =>
      have E : Hid (d = z) := by show _ = _; rw [HD.out]; rfl
      clear HD
      go_wp2_with fail
      rw [← hw0]
      refine HA.out.mono ?_
      rintro e w1 ⟨rfl, hg1⟩
      go_wp2
      go_ret
      exact ⟨by rw [E.out]; rfl, grown_trans g0 hg1⟩

set_option maxRecDepth 100000 in
set_option maxHeartbeats 3200000 in
theorem napart_any (Bl Ba Bb Bo Q n a b : Nat) (rs : List Sl) (R : List (List Int)) (bs : List Bool) (q : Nat → Nat) (M : List (List Bool)) (w : World) (h : NdR w Bb Bo Q n rs R bs q M) (ha : a < n) (hb : b < n) (hB : Behind R n) :
    Calls Tryd.prog 29 #[.agg #[.slice (some ⟨Bl, 0, none⟩) n n, .slice (some ⟨Ba, 0, none⟩) n n, .slice (some ⟨Bb, 0, none⟩) n n, .slice (some ⟨Bo, 0, none⟩) n n], .slice (some ⟨Q, 0, none⟩) n n, .int .i64 (a : Int), .int .i64 (b : Int)] w fun e w' => e = .returned (.bool (apartF R bs M a b)) ∧ w.grownBy w' none := by
  obtain ⟨w0, hw0⟩ : ∃ w0, w0 = w.alloc (.cells #[.slice (some ⟨Bl, 0, none⟩) n n, .slice (some ⟨Ba, 0, none⟩) n n, .slice (some ⟨Bb, 0, none⟩) n n, .slice (some ⟨Bo, 0, none⟩) n n] 63) := ⟨_, rfl⟩
  have g0 : w.grownBy w0 none := by rw [hw0]; exact grown_new _ _
  have hbx := heap_alloc_new w (.cells #[.slice (some ⟨Bl, 0, none⟩) n n, .slice (some ⟨Ba, 0, none⟩) n n, .slice (some ⟨Bb, 0, none⟩) n n, .slice (some ⟨Bo, 0, none⟩) n n] 63)
  obtain ⟨y0, y1, y2, y3⟩ := nds_cells hbx
  rw [← hw0] at hbx
  have BX := hide hbx
  have D1 := hide (isdone_any Bl Ba Bb Bo Q n a b rs R bs q M w0 (h.more g0) ha hb hB)
  have D2 := hide (fun (wx : World) (hx : w.grownBy wx none) => isdone_any Bl Ba Bb Bo Q n b a rs R bs q M wx (h.more hx) hb ha hB)
  have HD : Hid (apartF R bs M a b = (doneF R bs M a b || doneF R bs M b a)) := rfl
  obtain ⟨x, hx⟩ : ∃ x, x = doneF R bs M a b := ⟨_, rfl⟩
  obtain ⟨y, hy⟩ : ∃ y, y = doneF R bs M b a := ⟨_, rfl⟩
  obtain ⟨d, hd⟩ : ∃ d, d = apartF R bs M a b := ⟨_, rfl⟩
  rw [← hx] at HD D1
  rw [← hy] at HD D2
  rw [← hd] at HD ⊢
  clear h hB hx hy hd hbx
  go_enter Tryd.func29, Tryd.ntmps29
  go_wp2_with fail
  rw [← hw0]
  clear y0 y1 y2 y3 hw0
  refine D1.out.mono ?_
  rintro e w1 ⟨rfl, hg1⟩
  have g1 := grown_trans g0 hg1
  obtain ⟨y0, y1, y2, y3⟩ := nds_cells (box_kept BX.out hg1)
  cases x with
  | true =>
    have E : Hid (d = true) := by show _ = _; rw [HD.out]; rfl
    go_wp2_with fail
    go_ret
    exact ⟨by rw [E.out]; rfl, g1⟩
  | false =>
    have E : Hid (d = y) := by show _ = _; rw [HD.out]; rfl
    clear HD
    go_wp2_with fail
    refine (D2.out w1 g1).mono ?_
    rintro e w2 ⟨rfl, hg2⟩
    go_wp2
    go_ret
    exact ⟨by rw [E.out]; rfl, grown_trans g1 hg2⟩

/-- How live.Apart ends. -/
def Aps (cs : List Nc) (vin vout : List (Val × List Int)) (its : List (Nam × List Int × List Int)) (a b : Int) (w : World) (e : Ending) (w' : World) : Prop :=
  w.grownBy w' none ∧ (((orderR cs vin vout its).2 ≠ 0 ∧ e = .returned (.tuple #[.bool false, .int .i64 (orderR cs vin vout its).2])) ∨
    ((orderR cs vin vout its).2 = 0 ∧ ¬ (0 ≤ a ∧ a < cs.length ∧ 0 ≤ b ∧ b < cs.length ∧ a ≠ b) ∧ e = .returned (.tuple #[.bool false, .int .i64 1])) ∨
    ((orderR cs vin vout its).2 = 0 ∧ (0 ≤ a ∧ a < cs.length ∧ 0 ≤ b ∧ b < cs.length ∧ a ≠ b) ∧ e = .returned (.tuple #[.bool (apartF (readG cs vin its) (outG cs vin vout its) (rowsG cs vin its) a.toNat b.toNat), .int .i64 0])))

set_option maxRecDepth 100000 in
set_option maxHeartbeats 6400000 in
theorem apart_any (g : Gra) (cs : List Nc) (vin vout : List (Val × List Int)) (its : List (Nam × List Int × List Int)) (a b : Int) (w : World) (hl : Laid w) (hg : GraphOk w g cs vin vout its) :
    Calls Tryd.prog 14 #[gval g, .int .i64 a, .int .i64 b] w fun e w' => Aps cs vin vout its a b w e w' := by
  have OA := hide (fun (wx : World) (hx : w.grownBy wx none) => of_any g cs vin vout its wx (hl.more hx) (hg.more hx))
  have HB := hide (fun (h : (orderR cs vin vout its).2 = 0) => read_behind hg h)
  obtain ⟨nam, ⟨na0, nn0, nc0⟩, ⟨ia, iN, ic⟩, ⟨oa, oN, oc⟩, ⟨ta, tN, tc⟩⟩ := g
  clear hl hg
  unfold gval at OA ⊢
  simp only at OA ⊢
  obtain ⟨w0, hw0⟩ : ∃ w0, w0 = w.alloc (.cells #[.string nam, .slice na0 nn0 nc0, .slice ia iN ic, .slice oa oN oc, .slice ta tN tc] 26) := ⟨_, rfl⟩
  have g0 : w.grownBy w0 none := by rw [hw0]; exact grown_new _ _
  obtain ⟨r0, r1, r2, r3, r4⟩ := gra_cells (g := ⟨nam, ⟨na0, nn0, nc0⟩, ⟨ia, iN, ic⟩, ⟨oa, oN, oc⟩, ⟨ta, tN, tc⟩⟩) (heap_alloc_new w (.cells #[.string nam, .slice na0 nn0 nc0, .slice ia iN ic, .slice oa oN oc, .slice ta tN tc] 26))
  go_enter Tryd.func14, Tryd.ntmps14
  go_wp2_with fail
  rw [← hw0]
  clear hw0 r0 r1 r2 r3 r4
  refine (OA.out w0 g0).mono ?_
  rintro e w1 ⟨hg1, ⟨hz, rfl⟩ | ⟨hz, Bl, Ba, Bb, Bo, rs, rfl, hok⟩⟩
  · have HZ : Hid (∀ w', w.grownBy w' none → Aps cs vin vout its a b w (.returned (.tuple #[.bool false, .int .i64 (orderR cs vin vout its).2])) w') := fun w' h => ⟨h, Or.inl ⟨hz, rfl⟩⟩
    obtain ⟨OE, hOE⟩ : ∃ OE, OE = (orderR cs vin vout its).2 := ⟨_, rfl⟩
    rw [← hOE] at HZ hz ⊢
    have hzb : (OE != 0) = true := by simpa using hz
    have g1 := grown_trans g0 hg1
    clear hOE hz HB OA
    go_wp2_with fail
    go_ret2
    exact HZ.out _ (grown_trans g1 (grown_new _ _))
  · obtain ⟨hbe, hn, hlen⟩ := HB.out hz
    have g1 := grown_trans g0 hg1
    have HNO : Hid (∀ e w', w.grownBy w' none → ¬ (0 ≤ a ∧ a < cs.length ∧ 0 ≤ b ∧ b < cs.length ∧ a ≠ b) → e = .returned (.tuple #[.bool false, .int .i64 1]) → Aps cs vin vout its a b w e w') := fun e w' h1 h2 h3 => ⟨h1, Or.inr (Or.inl ⟨hz, h2, h3⟩)⟩
    have HYE : Hid (∀ e w', w.grownBy w' none → (0 ≤ a ∧ a < cs.length ∧ 0 ≤ b ∧ b < cs.length ∧ a ≠ b) → e = .returned (.tuple #[.bool (apartF (readG cs vin its) (outG cs vin vout its) (rowsG cs vin its) a.toNat b.toNat), .int .i64 0]) → Aps cs vin vout its a b w e w') := fun e w' h1 h2 h3 => ⟨h1, Or.inr (Or.inr ⟨hz, h2, h3⟩)⟩
    obtain ⟨w2, hw2⟩ : ∃ w2, w2 = w1.alloc (.cells #[.slice (some ⟨Bl, 0, none⟩) cs.length cs.length, .slice (some ⟨Ba, 0, none⟩) cs.length cs.length, .slice (some ⟨Bb, 0, none⟩) cs.length cs.length, .slice (some ⟨Bo, 0, none⟩) cs.length cs.length] 63) := ⟨_, rfl⟩
    have g2 : w1.grownBy w2 none := by rw [hw2]; exact grown_new _ _
    have hbx := heap_alloc_new w1 (.cells #[.slice (some ⟨Bl, 0, none⟩) cs.length cs.length, .slice (some ⟨Ba, 0, none⟩) cs.length cs.length, .slice (some ⟨Bb, 0, none⟩) cs.length cs.length, .slice (some ⟨Bo, 0, none⟩) cs.length cs.length] 63)
    obtain ⟨y0, y1, y2, y3⟩ := nds_cells hbx
    rw [← hw2] at hbx
    have BX := hide hbx
    have HBE := hide hbe
    have HLE := hide hlen
    have HOK := hide (hok.more g2)
    have G2 := hide (grown_trans g1 g2)
    clear hbx hbe hlen hok OA HB hz g2
    by_cases h1 : a < 0
    · have hno : Hid (¬ (0 ≤ a ∧ a < cs.length ∧ 0 ≤ b ∧ b < cs.length ∧ a ≠ b)) := fun h => by omega
      go_wp2_with fail
      rw [← hw2]
      go_ret2
      exact HNO.out _ _ G2.out hno.out rfl
    · by_cases h2 : (cs.length : Int) ≤ a
      · have hno : Hid (¬ (0 ≤ a ∧ a < cs.length ∧ 0 ≤ b ∧ b < cs.length ∧ a ≠ b)) := fun h => by omega
        go_wp2_with fail
        rw [← hw2]
        go_ret2
        exact HNO.out _ _ G2.out hno.out rfl
      · by_cases h3 : b < 0
        · have hno : Hid (¬ (0 ≤ a ∧ a < cs.length ∧ 0 ≤ b ∧ b < cs.length ∧ a ≠ b)) := fun h => by omega
          go_wp2_with fail
          rw [← hw2]
          go_ret2
          exact HNO.out _ _ G2.out hno.out rfl
        · by_cases h4 : (cs.length : Int) ≤ b
          · have hno : Hid (¬ (0 ≤ a ∧ a < cs.length ∧ 0 ≤ b ∧ b < cs.length ∧ a ≠ b)) := fun h => by omega
            go_wp2_with fail
            rw [← hw2]
            go_ret2
            exact HNO.out _ _ G2.out hno.out rfl
          · cases h5 : (a == b) with
            | true =>
              have hno : Hid (¬ (0 ≤ a ∧ a < cs.length ∧ 0 ≤ b ∧ b < cs.length ∧ a ≠ b)) := fun h => h.2.2.2.2 (by simpa using h5)
              go_wp2_with fail
              rw [← hw2]
              go_ret2
              exact HNO.out _ _ G2.out hno.out rfl
            | false =>
              have hyes : Hid (0 ≤ a ∧ a < cs.length ∧ 0 ≤ b ∧ b < cs.length ∧ a ≠ b) := ⟨by omega, by omega, by omega, by omega, by simpa using h5⟩
              obtain ⟨m, rfl⟩ : ∃ m : Nat, a = (m : Int) := ⟨a.toNat, by omega⟩
              obtain ⟨k, rfl⟩ : ∃ k : Nat, b = (k : Int) := ⟨b.toNat, by omega⟩
              have hm : m < cs.length := by omega
              have hk : k < cs.length := by omega
              go_wp2_with fail
              rw [← hw2]
              clear hw2 y0 y1 y2 y3
              obtain ⟨y0, y1, y2, y3⟩ := nds_cells BX.out
              have RA := hide (fun (wx : World) (hx : w2.grownBy wx none) => rowsof_any Bb cs.length (rs.drop cs.length) (readG cs vin its) wx (HOK.out.more hx).readers HBE.out (by omega) HLE.out)
              have NA := hide (fun (wx wy : World) (Q : Nat) (q : Nat → Nat) (hx : w2.grownBy wx none) (hr : Rb wx Q cs.length q (rowsG cs vin its)) (hy : wx.grownBy wy none) => napart_any Bl Ba Bb Bo Q cs.length m k (rs.drop cs.length) (readG cs vin its) (outG cs vin vout its) q (rowsG cs vin its) wy ⟨(HOK.out.more (grown_trans hx hy)).readers, (HOK.out.more (grown_trans hx hy)).bits, hr.more hy⟩ hm hk HBE.out)
              have KP : Hid (∀ wx, w2.grownBy wx none → wx.cell? ⟨w1.heap.size, 0, none⟩ = some (.slice (some ⟨Bl, 0, none⟩) cs.length cs.length) ∧ wx.cell? ⟨w1.heap.size, 1, none⟩ = some (.slice (some ⟨Ba, 0, none⟩) cs.length cs.length) ∧ wx.cell? ⟨w1.heap.size, 2, none⟩ = some (.slice (some ⟨Bb, 0, none⟩) cs.length cs.length) ∧ wx.cell? ⟨w1.heap.size, 3, none⟩ = some (.slice (some ⟨Bo, 0, none⟩) cs.length cs.length)) := fun wx hx => nds_cells (box_kept BX.out hx)
              obtain ⟨B1, hB1⟩ : ∃ B1, B1 = w1.heap.size := ⟨_, rfl⟩
              rw [← hB1] at y0 y1 y2 y3 KP ⊢
              clear hB1
              go_region_held3 (fun w' => w'.cell? ⟨B1, 0, none⟩ = some (.slice (some ⟨Bl, 0, none⟩) cs.length cs.length) ∧ w'.cell? ⟨B1, 1, none⟩ = some (.slice (some ⟨Ba, 0, none⟩) cs.length cs.length) ∧ w'.cell? ⟨B1, 2, none⟩ = some (.slice (some ⟨Bb, 0, none⟩) cs.length cs.length) ∧ w'.cell? ⟨B1, 3, none⟩ = some (.slice (some ⟨Bo, 0, none⟩) cs.length cs.length)) (go_keep) (first | (go_at_call 23; refine (RA.out _ (grown_drew (grown_refl _))).mono ?_; rintro e w3 ⟨Q, q, rfl, hrb, hg3⟩; obtain ⟨k0, k1, k2, k3⟩ := KP.out w3 (grown_trans (grown_drew (grown_refl _)) hg3)) | (go_at_call 29; refine (NA.out w3 w3 Q q (grown_trans (grown_drew (grown_refl _)) hg3) hrb (grown_refl _)).mono ?_; rintro e w4 ⟨rfl, hg4⟩; obtain ⟨k0, k1, k2, k3⟩ := KP.out w4 (grown_trans (grown_trans (grown_drew (grown_refl _)) hg3) hg4)) | fail)
              go_wp2_with fail
              go_ret2
              exact HYE.out _ _ (grown_trans (grown_trans (grown_drew G2.out) hg3) hg4) hyes.out rfl
end Go.Proofs.YtmdpeckeliplkaaDoor
