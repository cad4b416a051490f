/- Joined texts: LvBef, LvApt, LvLive. -/
import Derived.Test.YtmdpeckeliplkaaDoorLvOfJ
import Derived.Test.YtmdpeckeliplkaaDoorPartJ
/- live.Before and live.Apart, by the walk. -/
namespace Go.Proofs.YtmdpeckeliplkaaDoor
open Go.RowKit

/-- A graph's rows. -/
def rowsG (cs : List Nc) (vin : List (Val × List Int)) (its : List (Nam × List Int × List Int)) : List (List Bool) := rowN ((needN (inOrd cs (lineF cs vin its)) cs.length).drop cs.length) cs.length cs.length

def readG (cs : List Nc) (vin : List (Val × List Int)) (its : List (Nam × List Int × List Int)) : List (List Int) := (needN (inOrd cs (lineF cs vin its)) cs.length).drop cs.length

def outG (cs : List Nc) (vin vout : List (Val × List Int)) (its : List (Nam × List Int × List Int)) : List Bool := outN (outsN (inOrd cs (lineF cs vin its))) (onames vout)

/-- How live.Before ends. -/
def Befs (cs : List Nc) (vin vout : List (Val × List Int)) (its : List (Nam × List Int × List Int)) (w : World) (e : Ending) (w' : World) : Prop :=
  w.grownBy w' none ∧ (((orderR cs vin vout its).2 ≠ 0 ∧ e = .returned (.tuple #[.slice none 0 0, .int .i64 (orderR cs vin vout its).2])) ∨
    ((orderR cs vin vout its).2 = 0 ∧ ∃ (Q : Nat) (q : Nat → Nat), e = .returned (.tuple #[.slice (some ⟨Q, 0, none⟩) cs.length cs.length, .int .i64 0]) ∧ Rb w' Q cs.length q (rowsG cs vin its)))

/-- Of a graph that has an order: how many nodes, and that readers stand behind. -/
theorem read_behind {w : World} {g : Gra} {cs : List Nc} {vin vout : List (Val × List Int)} {its : List (Nam × List Int × List Int)} (hg : GraphOk w g cs vin vout its) (hz : (orderR cs vin vout its).2 = 0) : Behind (readG cs vin its) cs.length ∧ cs.length ≤ 1000 ∧ ∀ k, ((readG cs vin its).getD k []).length ≤ 4294967296 := by
  obtain ⟨k1, k2, k3, k4, k5⟩ := orderR_ok hz
  obtain ⟨m1, m2, -⟩ := line_law (cs := cs) (vin := vin) (its := its) (fun c hc => (hg.is c hc).1) (fun c hc x hx => by
    have hfo := k4
    unfold foundF at hfo
    simp only [Bool.and_eq_true, List.all_eq_true] at hfo
    have := hfo.2 c hc
    unfold allF at this
    rw [List.all_eq_true] at this
    exact this x hx)
  have hl : (inOrd cs (lineF cs vin its)).length = cs.length := by rw [inOrd_len]; exact k2
  have nb := needN_nb (inOrd cs (lineF cs vin its)) (fun c hc => (hg.is c (inOrd_mem m2 c hc)).1) cs.length (by omega)
  rw [hl] at nb
  refine ⟨fun a ha z hz => ?_, k5, fun k => ?_⟩
  · unfold readG at hz
    rw [drop_getD] at hz
    exact nb.b2 a ha z hz
  · unfold readG
    rw [drop_getD]
    have := nb.cnt (cs.length + k)
    omega

set_option maxRecDepth 100000 in
set_option maxHeartbeats 3200000 in
theorem before_any (g : Gra) (cs : List Nc) (vin vout : List (Val × List Int)) (its : List (Nam × List Int × List Int)) (w : World) (hl : Laid w) (hg : GraphOk w g cs vin vout its) :
    Calls Tryd.prog 11 #[gval g] w fun e w' => Befs cs vin vout its w e w' := by
  have OA := hide (fun (wx : World) (hx : w.grownBy wx none) => of_any g cs vin vout its wx (hl.more hx) (hg.more hx))
  have HB := hide (fun (h : (orderR cs vin vout its).2 = 0) => read_behind hg h)
  obtain ⟨nam, ⟨na0, nn0, nc0⟩, ⟨ia, iN, ic⟩, ⟨oa, oN, oc⟩, ⟨ta, tN, tc⟩⟩ := g
  clear hl hg
  unfold gval at OA ⊢
  simp only at OA ⊢
  obtain ⟨w0, hw0⟩ : ∃ w0, w0 = w.alloc (.cells #[.string nam, .slice na0 nn0 nc0, .slice ia iN ic, .slice oa oN oc, .slice ta tN tc] 26) := ⟨_, rfl⟩
  have g0 : w.grownBy w0 none := by rw [hw0]; exact grown_new _ _
  obtain ⟨r0, r1, r2, r3, r4⟩ := gra_cells (g := ⟨nam, ⟨na0, nn0, nc0⟩, ⟨ia, iN, ic⟩, ⟨oa, oN, oc⟩, ⟨ta, tN, tc⟩⟩) (heap_alloc_new w (.cells #[.string nam, .slice na0 nn0 nc0, .slice ia iN ic, .slice oa oN oc, .slice ta tN tc] 26))
  go_enter Tryd.func11, Tryd.ntmps11
  go_wp2_with fail
  rw [← hw0]
  clear hw0 r0 r1 r2 r3 r4
  refine (OA.out w0 g0).mono ?_
  rintro e w1 ⟨hg1, ⟨hz, rfl⟩ | ⟨hz, Bl, Ba, Bb, Bo, rs, rfl, hok⟩⟩
  · have HZ : Hid (∀ w', w.grownBy w' none → Befs cs vin vout its w (.returned (.tuple #[.slice none 0 0, .int .i64 (orderR cs vin vout its).2])) w') := fun w' h => ⟨h, Or.inl ⟨hz, rfl⟩⟩
    obtain ⟨OE, hOE⟩ : ∃ OE, OE = (orderR cs vin vout its).2 := ⟨_, rfl⟩
    rw [← hOE] at HZ hz ⊢
    have hzb : (OE != 0) = true := by simpa using hz
    have g1 := grown_trans g0 hg1
    clear hOE hz HB OA
    go_wp2_with fail
    go_ret2
    exact HZ.out _ (grown_trans g1 (grown_new _ _))
  · have HZ : Hid (∀ e w', (w.grownBy w' none ∧ ∃ (Q : Nat) (q : Nat → Nat), e = .returned (.tuple #[.slice (some ⟨Q, 0, none⟩) cs.length cs.length, .int .i64 0]) ∧ Rb w' Q cs.length q (rowsG cs vin its)) → Befs cs vin vout its w e w') := fun e w' h => ⟨h.1, Or.inr ⟨hz, h.2⟩⟩
    obtain ⟨hbe, hn, hlen⟩ := HB.out hz
    have g1 := grown_trans g0 hg1
    obtain ⟨w2, hw2⟩ : ∃ w2, w2 = w1.alloc (.cells #[.slice (some ⟨Bl, 0, none⟩) cs.length cs.length, .slice (some ⟨Ba, 0, none⟩) cs.length cs.length, .slice (some ⟨Bb, 0, none⟩) cs.length cs.length, .slice (some ⟨Bo, 0, none⟩) cs.length cs.length] 63) := ⟨_, rfl⟩
    have g2 : w1.grownBy w2 none := by rw [hw2]; exact grown_new _ _
    obtain ⟨y0, y1, y2, y3⟩ := nds_cells (heap_alloc_new w1 (.cells #[.slice (some ⟨Bl, 0, none⟩) cs.length cs.length, .slice (some ⟨Ba, 0, none⟩) cs.length cs.length, .slice (some ⟨Bb, 0, none⟩) cs.length cs.length, .slice (some ⟨Bo, 0, none⟩) cs.length cs.length] 63))
    have RA := hide (rowsof_any Bb cs.length (rs.drop cs.length) (readG cs vin its) w2 (hok.more g2).readers hbe (by omega) hlen)
    clear hbe hlen hok OA HB hz
    go_wp2_with fail
    rw [← hw2]
    clear hw2 y0 y1 y2 y3
    refine RA.out.mono ?_
    rintro e w3 ⟨Q, q, rfl, hrb, hg3⟩
    go_wp2_with fail
    go_ret2
    exact HZ.out _ _ ⟨grown_trans (grown_trans g1 g2) hg3, Q, q, rfl, hrb⟩
end Go.Proofs.YtmdpeckeliplkaaDoor

/- Whether two nodes are apart, by the walk. -/
namespace Go.Proofs.YtmdpeckeliplkaaDoor
open Go.RowKit

/-- What can be read of a graph's nodes: who reads whose value, which are outputs, and the rows. -/
structure NdR (w : World) (Bb Bo Q n : Nat) (rs : List Sl) (R : List (List Int)) (bs : List Bool) (q : Nat → Nat) (M : List (List Bool)) : Prop where
  readers : RdL w Bb n rs R
  bits : ∀ k, k < n → w.cell? ⟨Bo, k, none⟩ = some (.bool (bs.getD k false))
  rows : Rb w Q n q M

theorem NdR.more {w w' : World} {Bb Bo Q n : Nat} {rs : List Sl} {R : List (List Int)} {bs : List Bool} {q : Nat → Nat} {M : List (List Bool)} (h : NdR w Bb Bo Q n rs R bs q M) (hg : w.grownBy w' none) : NdR w' Bb Bo Q n rs R bs q M :=
  ⟨h.readers.more hg, fun k hk => (World.cell?_of_block (hg.block Bo (World.block_lt_of_cell? w _ (h.bits k hk)) (by simp))).trans (h.bits k hk), h.rows.more hg⟩

set_option maxRecDepth 100000 in
set_option maxHeartbeats 3200000 in
theorem isdone_any (Bl Ba Bb Bo Q n a b : Nat) (rs : List Sl) (R : List (List Int)) (bs : List Bool) (q : Nat → Nat) (M : List (List Bool)) (w : World) (h : NdR w Bb Bo Q n rs R bs q M) (ha : a < n) (hb : b < n) (hB : Behind R n) :
    Calls Tryd.prog 44 #[.agg #[.slice (some ⟨Bl, 0, none⟩) n n, .slice (some ⟨Ba, 0, none⟩) n n, .slice (some ⟨Bb, 0, none⟩) n n, .slice (some ⟨Bo, 0, none⟩) n n], .slice (some ⟨Q, 0, none⟩) n n, .int .i64 (a : Int), .int .i64 (b : Int)] w fun e w' => e = .returned (.bool (doneF R bs M a b)) ∧ w.grownBy w' none := by
  obtain ⟨w0, hw0⟩ : ∃ w0, w0 = w.alloc (.cells #[.slice (some ⟨Bl, 0, none⟩) n n, .slice (some ⟨Ba, 0, none⟩) n n, .slice (some ⟨Bb, 0, none⟩) n n, .slice (some ⟨Bo, 0, none⟩) n n] 63) := ⟨_, rfl⟩
  have g0 : w.grownBy w0 none := by rw [hw0]; exact grown_new _ _
  obtain ⟨y0, y1, y2, y3⟩ := nds_cells (heap_alloc_new w (.cells #[.slice (some ⟨Bl, 0, none⟩) n n, .slice (some ⟨Ba, 0, none⟩) n n, .slice (some ⟨Bb, 0, none⟩) n n, .slice (some ⟨Bo, 0, none⟩) n n] 63))
  have h0 := h.more g0
  have c1 := h0.bits a ha
  have c2 := h0.rows.row a ha
  have c3 := h0.rows.bit a ha b hb
  have c4 := h0.readers.cell a ha
  have CI := hide (h0.readers.ints a ha)
  have HA := hide (allbefore_any (rs.getD a nilS).v (R.getD a []) Q n b q M w0 CI.out hb (fun r hr => by have := hB a ha r hr; omega) h0.rows)
  have HD : Hid (doneF R bs M a b = (!(bs.getD a false) && (M.getD a []).getD b false && allB M (R.getD a []) b)) := rfl
  obtain ⟨x, hx⟩ : ∃ x, x = bs.getD a false := ⟨_, rfl⟩
  obtain ⟨y, hy⟩ : ∃ y, y = (M.getD a []).getD b false := ⟨_, rfl⟩
  obtain ⟨z, hz⟩ : ∃ z, z = allB M (R.getD a []) b := ⟨_, rfl⟩
  obtain ⟨d, hd⟩ : ∃ d, d = doneF R bs M a b := ⟨_, rfl⟩
  obtain ⟨⟨sa, sn, sc⟩, hs⟩ : ∃ s, s = rs.getD a nilS := ⟨_, rfl⟩
  rw [← hx] at c1 HD
  rw [← hy] at c3 HD
  rw [← hz] at HD HA
  rw [← hd] at HD ⊢
  rw [← hs] at c4 HA
  simp only [Sl.v] at HA c4
  have a0 : (0 : Int) ≤ (a : Int) := Int.natCast_nonneg _
  have a1 : (a : Int) < (n : Int) := by omega
  have b0 : (0 : Int) ≤ (b : Int) := Int.natCast_nonneg _
  have b1 : (b : Int) < (n : Int) := by omega
  rw [hw0] at c1 c2 c3 c4
  clear h h0 hB hx hy hz hd hs CI
  go_enter Tryd.func44, Tryd.ntmps44
  cases x with
  | true =>
    have E : Hid (d = false) := by show _ = _; rw [HD.out]; rfl
    clear HD
    go_wp2_with fail
    go_ret
    exact ⟨by rw [E.out]; rfl, by rw [← hw0]; exact g0⟩
  | false =>
    cases y with
    | false =>
      have E : Hid (d = false) := by show _ = _; rw [HD.out]; rfl
      clear HD
      go_wp2_with fail
      go_ret
      exact ⟨by rw [E.out]; rfl, by rw [← hw0]; exact g0⟩
    | true =>
      have E : Hid (d = z) := by show _ = _; rw [HD.out]; rfl
      clear HD
      go_wp2_with fail
      rw [← hw0]
      refine HA.out.mono ?_
      rintro e w1 ⟨rfl, hg1⟩
      go_wp2
      go_ret
      exact ⟨by rw [E.out]; rfl, grown_trans g0 hg1⟩

set_option maxRecDepth 100000 in
set_option maxHeartbeats 3200000 in
theorem napart_any (Bl Ba Bb Bo Q n a b : Nat) (rs : List Sl) (R : List (List Int)) (bs : List Bool) (q : Nat → Nat) (M : List (List Bool)) (w : World) (h : NdR w Bb Bo Q n rs R bs q M) (ha : a < n) (hb : b < n) (hB : Behind R n) :
    Calls Tryd.prog 29 #[.agg #[.slice (some ⟨Bl, 0, none⟩) n n, .slice (some ⟨Ba, 0, none⟩) n n, .slice (some ⟨Bb, 0, none⟩) n n, .slice (some ⟨Bo, 0, none⟩) n n], .slice (some ⟨Q, 0, none⟩) n n, .int .i64 (a : Int), .int .i64 (b : Int)] w fun e w' => e = .returned (.bool (apartF R bs M a b)) ∧ w.grownBy w' none := by
  obtain ⟨w0, hw0⟩ : ∃ w0, w0 = w.alloc (.cells #[.slice (some ⟨Bl, 0, none⟩) n n, .slice (some ⟨Ba, 0, none⟩) n n, .slice (some ⟨Bb, 0, none⟩) n n, .slice (some ⟨Bo, 0, none⟩) n n] 63) := ⟨_, rfl⟩
  have g0 : w.grownBy w0 none := by rw [hw0]; exact grown_new _ _
  have hbx := heap_alloc_new w (.cells #[.slice (some ⟨Bl, 0, none⟩) n n, .slice (some ⟨Ba, 0, none⟩) n n, .slice (some ⟨Bb, 0, none⟩) n n, .slice (some ⟨Bo, 0, none⟩) n n] 63)
  obtain ⟨y0, y1, y2, y3⟩ := nds_cells hbx
  rw [← hw0] at hbx
  have BX := hide hbx
  have D1 := hide (isdone_any Bl Ba Bb Bo Q n a b rs R bs q M w0 (h.more g0) ha hb hB)
  have D2 := hide (fun (wx : World) (hx : w.grownBy wx none) => isdone_any Bl Ba Bb Bo Q n b a rs R bs q M wx (h.more hx) hb ha hB)
  have HD : Hid (apartF R bs M a b = (doneF R bs M a b || doneF R bs M b a)) := rfl
  obtain ⟨x, hx⟩ : ∃ x, x = doneF R bs M a b := ⟨_, rfl⟩
  obtain ⟨y, hy⟩ : ∃ y, y = doneF R bs M b a := ⟨_, rfl⟩
  obtain ⟨d, hd⟩ : ∃ d, d = apartF R bs M a b := ⟨_, rfl⟩
  rw [← hx] at HD D1
  rw [← hy] at HD D2
  rw [← hd] at HD ⊢
  clear h hB hx hy hd hbx
  go_enter Tryd.func29, Tryd.ntmps29
  go_wp2_with fail
  rw [← hw0]
  clear y0 y1 y2 y3 hw0
  refine D1.out.mono ?_
  rintro e w1 ⟨rfl, hg1⟩
  have g1 := grown_trans g0 hg1
  obtain ⟨y0, y1, y2, y3⟩ := nds_cells (box_kept BX.out hg1)
  cases x with
  | true =>
    have E : Hid (d = true) := by show _ = _; rw [HD.out]; rfl
    go_wp2_with fail
    go_ret
    exact ⟨by rw [E.out]; rfl, g1⟩
  | false =>
    have E : Hid (d = y) := by show _ = _; rw [HD.out]; rfl
    clear HD
    go_wp2_with fail
    refine (D2.out w1 g1).mono ?_
    rintro e w2 ⟨rfl, hg2⟩
    go_wp2
    go_ret
    exact ⟨by rw [E.out]; rfl, grown_trans g1 hg2⟩

/-- How live.Apart ends. -/
def Aps (cs : List Nc) (vin vout : List (Val × List Int)) (its : List (Nam × List Int × List Int)) (a b : Int) (w : World) (e : Ending) (w' : World) : Prop :=
  w.grownBy w' none ∧ (((orderR cs vin vout its).2 ≠ 0 ∧ e = .returned (.tuple #[.bool false, .int .i64 (orderR cs vin vout its).2])) ∨
    ((orderR cs vin vout its).2 = 0 ∧ ¬ (0 ≤ a ∧ a < cs.length ∧ 0 ≤ b ∧ b < cs.length ∧ a ≠ b) ∧ e = .returned (.tuple #[.bool false, .int .i64 1])) ∨
    ((orderR cs vin vout its).2 = 0 ∧ (0 ≤ a ∧ a < cs.length ∧ 0 ≤ b ∧ b < cs.length ∧ a ≠ b) ∧ e = .returned (.tuple #[.bool (apartF (readG cs vin its) (outG cs vin vout its) (rowsG cs vin its) a.toNat b.toNat), .int .i64 0])))

set_option maxRecDepth 100000 in
set_option maxHeartbeats 6400000 in
theorem apart_any (g : Gra) (cs : List Nc) (vin vout : List (Val × List Int)) (its : List (Nam × List Int × List Int)) (a b : Int) (w : World) (hl : Laid w) (hg : GraphOk w g cs vin vout its) :
    Calls Tryd.prog 14 #[gval g, .int .i64 a, .int .i64 b] w fun e w' => Aps cs vin vout its a b w e w' := by
  have OA := hide (fun (wx : World) (hx : w.grownBy wx none) => of_any g cs vin vout its wx (hl.more hx) (hg.more hx))
  have HB := hide (fun (h : (orderR cs vin vout its).2 = 0) => read_behind hg h)
  obtain ⟨nam, ⟨na0, nn0, nc0⟩, ⟨ia, iN, ic⟩, ⟨oa, oN, oc⟩, ⟨ta, tN, tc⟩⟩ := g
  clear hl hg
  unfold gval at OA ⊢
  simp only at OA ⊢
  obtain ⟨w0, hw0⟩ : ∃ w0, w0 = w.alloc (.cells #[.string nam, .slice na0 nn0 nc0, .slice ia iN ic, .slice oa oN oc, .slice ta tN tc] 26) := ⟨_, rfl⟩
  have g0 : w.grownBy w0 none := by rw [hw0]; exact grown_new _ _
  obtain ⟨r0, r1, r2, r3, r4⟩ := gra_cells (g := ⟨nam, ⟨na0, nn0, nc0⟩, ⟨ia, iN, ic⟩, ⟨oa, oN, oc⟩, ⟨ta, tN, tc⟩⟩) (heap_alloc_new w (.cells #[.string nam, .slice na0 nn0 nc0, .slice ia iN ic, .slice oa oN oc, .slice ta tN tc] 26))
  go_enter Tryd.func14, Tryd.ntmps14
  go_wp2_with fail
  rw [← hw0]
  clear hw0 r0 r1 r2 r3 r4
  refine (OA.out w0 g0).mono ?_
  rintro e w1 ⟨hg1, ⟨hz, rfl⟩ | ⟨hz, Bl, Ba, Bb, Bo, rs, rfl, hok⟩⟩
  · have HZ : Hid (∀ w', w.grownBy w' none → Aps cs vin vout its a b w (.returned (.tuple #[.bool false, .int .i64 (orderR cs vin vout its).2])) w') := fun w' h => ⟨h, Or.inl ⟨hz, rfl⟩⟩
    obtain ⟨OE, hOE⟩ : ∃ OE, OE = (orderR cs vin vout its).2 := ⟨_, rfl⟩
    rw [← hOE] at HZ hz ⊢
    have hzb : (OE != 0) = true := by simpa using hz
    have g1 := grown_trans g0 hg1
    clear hOE hz HB OA
    go_wp2_with fail
    go_ret2
    exact HZ.out _ (grown_trans g1 (grown_new _ _))
  · obtain ⟨hbe, hn, hlen⟩ := HB.out hz
    have g1 := grown_trans g0 hg1
    have HNO : Hid (∀ e w', w.grownBy w' none → ¬ (0 ≤ a ∧ a < cs.length ∧ 0 ≤ b ∧ b < cs.length ∧ a ≠ b) → e = .returned (.tuple #[.bool false, .int .i64 1]) → Aps cs vin vout its a b w e w') := fun e w' h1 h2 h3 => ⟨h1, Or.inr (Or.inl ⟨hz, h2, h3⟩)⟩
    have HYE : Hid (∀ e w', w.grownBy w' none → (0 ≤ a ∧ a < cs.length ∧ 0 ≤ b ∧ b < cs.length ∧ a ≠ b) → e = .returned (.tuple #[.bool (apartF (readG cs vin its) (outG cs vin vout its) (rowsG cs vin its) a.toNat b.toNat), .int .i64 0]) → Aps cs vin vout its a b w e w') := fun e w' h1 h2 h3 => ⟨h1, Or.inr (Or.inr ⟨hz, h2, h3⟩)⟩
    obtain ⟨w2, hw2⟩ : ∃ w2, w2 = w1.alloc (.cells #[.slice (some ⟨Bl, 0, none⟩) cs.length cs.length, .slice (some ⟨Ba, 0, none⟩) cs.length cs.length, .slice (some ⟨Bb, 0, none⟩) cs.length cs.length, .slice (some ⟨Bo, 0, none⟩) cs.length cs.length] 63) := ⟨_, rfl⟩
    have g2 : w1.grownBy w2 none := by rw [hw2]; exact grown_new _ _
    have hbx := heap_alloc_new w1 (.cells #[.slice (some ⟨Bl, 0, none⟩) cs.length cs.length, .slice (some ⟨Ba, 0, none⟩) cs.length cs.length, .slice (some ⟨Bb, 0, none⟩) cs.length cs.length, .slice (some ⟨Bo, 0, none⟩) cs.length cs.length] 63)
    obtain ⟨y0, y1, y2, y3⟩ := nds_cells hbx
    rw [← hw2] at hbx
    have BX := hide hbx
    have HBE := hide hbe
    have HLE := hide hlen
    have HOK := hide (hok.more g2)
    have G2 := hide (grown_trans g1 g2)
    clear hbx hbe hlen hok OA HB hz g2
    by_cases h1 : a < 0
    · have hno : Hid (¬ (0 ≤ a ∧ a < cs.length ∧ 0 ≤ b ∧ b < cs.length ∧ a ≠ b)) := fun h => by omega
      go_wp2_with fail
      rw [← hw2]
      go_ret2
      exact HNO.out _ _ G2.out hno.out rfl
    · by_cases h2 : (cs.length : Int) ≤ a
      · have hno : Hid (¬ (0 ≤ a ∧ a < cs.length ∧ 0 ≤ b ∧ b < cs.length ∧ a ≠ b)) := fun h => by omega
        go_wp2_with fail
        rw [← hw2]
        go_ret2
        exact HNO.out _ _ G2.out hno.out rfl
      · by_cases h3 : b < 0
        · have hno : Hid (¬ (0 ≤ a ∧ a < cs.length ∧ 0 ≤ b ∧ b < cs.length ∧ a ≠ b)) := fun h => by omega
          go_wp2_with fail
          rw [← hw2]
          go_ret2
          exact HNO.out _ _ G2.out hno.out rfl
        · by_cases h4 : (cs.length : Int) ≤ b
          · have hno : Hid (¬ (0 ≤ a ∧ a < cs.length ∧ 0 ≤ b ∧ b < cs.length ∧ a ≠ b)) := fun h => by omega
            go_wp2_with fail
            rw [← hw2]
            go_ret2
            exact HNO.out _ _ G2.out hno.out rfl
          · cases h5 : (a == b) with
            | true =>
              have hno : Hid (¬ (0 ≤ a ∧ a < cs.length ∧ 0 ≤ b ∧ b < cs.length ∧ a ≠ b)) := fun h => h.2.2.2.2 (by simpa using h5)
              go_wp2_with fail
              rw [← hw2]
              go_ret2
              exact HNO.out _ _ G2.out hno.out rfl
            | false =>
              have hyes : Hid (0 ≤ a ∧ a < cs.length ∧ 0 ≤ b ∧ b < cs.length ∧ a ≠ b) := ⟨by omega, by omega, by omega, by omega, by simpa using h5⟩
              obtain ⟨m, rfl⟩ : ∃ m : Nat, a = (m : Int) := ⟨a.toNat, by omega⟩
              obtain ⟨k, rfl⟩ : ∃ k : Nat, b = (k : Int) := ⟨b.toNat, by omega⟩
              have hm : m < cs.length := by omega
              have hk : k < cs.length := by omega
              go_wp2_with fail
              rw [← hw2]
              clear hw2 y0 y1 y2 y3
              obtain ⟨y0, y1, y2, y3⟩ := nds_cells BX.out
              have RA := hide (fun (wx : World) (hx : w2.grownBy wx none) => rowsof_any Bb cs.length (rs.drop cs.length) (readG cs vin its) wx (HOK.out.more hx).readers HBE.out (by omega) HLE.out)
              have NA := hide (fun (wx wy : World) (Q : Nat) (q : Nat → Nat) (hx : w2.grownBy wx none) (hr : Rb wx Q cs.length q (rowsG cs vin its)) (hy : wx.grownBy wy none) => napart_any Bl Ba Bb Bo Q cs.length m k (rs.drop cs.length) (readG cs vin its) (outG cs vin vout its) q (rowsG cs vin its) wy ⟨(HOK.out.more (grown_trans hx hy)).readers, (HOK.out.more (grown_trans hx hy)).bits, hr.more hy⟩ hm hk HBE.out)
              have KP : Hid (∀ wx, w2.grownBy wx none → wx.cell? ⟨w1.heap.size, 0, none⟩ = some (.slice (some ⟨Bl, 0, none⟩) cs.length cs.length) ∧ wx.cell? ⟨w1.heap.size, 1, none⟩ = some (.slice (some ⟨Ba, 0, none⟩) cs.length cs.length) ∧ wx.cell? ⟨w1.heap.size, 2, none⟩ = some (.slice (some ⟨Bb, 0, none⟩) cs.length cs.length) ∧ wx.cell? ⟨w1.heap.size, 3, none⟩ = some (.slice (some ⟨Bo, 0, none⟩) cs.length cs.length)) := fun wx hx => nds_cells (box_kept BX.out hx)
              obtain ⟨B1, hB1⟩ : ∃ B1, B1 = w1.heap.size := ⟨_, rfl⟩
              rw [← hB1] at y0 y1 y2 y3 KP ⊢
              clear hB1
              go_region_held3 (fun w' => w'.cell? ⟨B1, 0, none⟩ = some (.slice (some ⟨Bl, 0, none⟩) cs.length cs.length) ∧ w'.cell? ⟨B1, 1, none⟩ = some (.slice (some ⟨Ba, 0, none⟩) cs.length cs.length) ∧ w'.cell? ⟨B1, 2, none⟩ = some (.slice (some ⟨Bb, 0, none⟩) cs.length cs.length) ∧ w'.cell? ⟨B1, 3, none⟩ = some (.slice (some ⟨Bo, 0, none⟩) cs.length cs.length)) (go_keep) (first | (go_at_call 23; refine (RA.out _ (grown_drew (grown_refl _))).mono ?_; rintro e w3 ⟨Q, q, rfl, hrb, hg3⟩; obtain ⟨k0, k1, k2, k3⟩ := KP.out w3 (grown_trans (grown_drew (grown_refl _)) hg3)) | (go_at_call 29; refine (NA.out w3 w3 Q q (grown_trans (grown_drew (grown_refl _)) hg3) hrb (grown_refl _)).mono ?_; rintro e w4 ⟨rfl, hg4⟩; obtain ⟨k0, k1, k2, k3⟩ := KP.out w4 (grown_trans (grown_trans (grown_drew (grown_refl _)) hg3) hg4)) | fail)
              go_wp2_with fail
              go_ret2
              exact HYE.out _ _ (grown_trans (grown_trans (grown_drew G2.out) hg3) hg4) hyes.out rfl
end Go.Proofs.YtmdpeckeliplkaaDoor

/- The statements' own alive, and small, by the walk. -/
namespace Go.Proofs.YtmdpeckeliplkaaDoor
open Go.RowKit

theorem seven (w : World) (a b c d e f g : Obj) : ∀ W, W = ((((((w.alloc a).alloc b).alloc c).alloc d).alloc e).alloc f).alloc g →
    W.heap[w.heap.size]? = some a ∧ W.heap[w.heap.size + 1]? = some b ∧ W.heap[w.heap.size + 1 + 1]? = some c ∧ W.heap[w.heap.size + 1 + 1 + 1]? = some d ∧ W.heap[w.heap.size + 1 + 1 + 1 + 1]? = some e ∧ W.heap[w.heap.size + 1 + 1 + 1 + 1 + 1]? = some f ∧ W.heap[w.heap.size + 1 + 1 + 1 + 1 + 1 + 1]? = some g ∧ w.grownBy W none := by
  rintro W rfl
  obtain ⟨k1, k2, k3, k4, k5, k6, hg⟩ := six w a b c d e f _ rfl
  have z : ∀ (x : World) (o : Obj), (x.alloc o).heap.size = x.heap.size + 1 := fun x o => by simp
  have k7 := heap_alloc_new ((((((w.alloc a).alloc b).alloc c).alloc d).alloc e).alloc f) g
  rw [z, z, z, z, z, z] at k7
  have up : ∀ {x : World} {i : Nat} {o : Obj} (p : Obj), x.heap[i]? = some o → (x.alloc p).heap[i]? = some o := fun {x i o} p h => ((grown_new x p).block i (Array.getElem?_eq_some_iff.1 h).1 (by simp)).trans h
  exact ⟨up _ k1, up _ k2, up _ k3, up _ k4, up _ k5, up _ k6, k7, grown_trans hg (grown_new _ _)⟩

/-- The nodes of alive's graph. -/
def liCs (s1 s2 s3 : Sl) : List Nc := [⟨⟨⟨#[78, 101, 103]⟩, ⟨#[]⟩, s1, ⟨#[97]⟩, nilS⟩, [⟨#[120]⟩], [], []⟩, ⟨⟨⟨#[78, 101, 103]⟩, ⟨#[]⟩, s2, ⟨#[98]⟩, nilS⟩, [⟨#[97]⟩], [], []⟩, ⟨⟨⟨#[78, 101, 103]⟩, ⟨#[]⟩, s3, ⟨#[99]⟩, nilS⟩, [⟨#[98]⟩], [], []⟩]

def liIn : List (Val × List Int) := [(⟨⟨#[120]⟩, 1, nilS⟩, [])]
def liOut : List (Val × List Int) := [(⟨⟨#[99]⟩, 1, nilS⟩, [])]

theorem li_order (s1 s2 s3 : Sl) : (orderR (liCs s1 s2 s3) liIn liOut []).2 = 0 := by kernel_rfl
theorem li_rows (s1 s2 s3 : Sl) : rowsG (liCs s1 s2 s3) liIn [] = [[false, true, true], [false, false, true], [false, false, false]] := by kernel_rfl
theorem li_apart (s1 s2 s3 : Sl) : apartF (readG (liCs s1 s2 s3) liIn []) (outG (liCs s1 s2 s3) liIn liOut []) (rowsG (liCs s1 s2 s3) liIn []) (0 : Int).toNat (2 : Int).toNat = true := by kernel_rfl
theorem li_meet (s1 s2 s3 : Sl) : apartF (readG (liCs s1 s2 s3) liIn []) (outG (liCs s1 s2 s3) liIn liOut []) (rowsG (liCs s1 s2 s3) liIn []) (0 : Int).toNat (1 : Int).toNat = false := by kernel_rfl

set_option maxRecDepth 100000 in
theorem li_ok (w W : World) (h : w.grownBy W none ∧ W.heap[w.heap.size]? = some (.cells #[.string ⟨#[120]⟩, .int .i64 1, .slice none 0 0] 42 (0, 0)) ∧ W.heap[w.heap.size + 1]? = some (.cells #[.string ⟨#[99]⟩, .int .i64 1, .slice none 0 0] 42 (0, 0)) ∧ W.heap[w.heap.size + 1 + 1]? = some (.cells #[.string ⟨#[120]⟩] 9 (0, 0)) ∧ W.heap[w.heap.size + 1 + 1 + 1]? = some (.cells #[.string ⟨#[97]⟩] 9 (0, 0)) ∧ W.heap[w.heap.size + 1 + 1 + 1 + 1]? = some (.cells #[.string ⟨#[98]⟩] 9 (0, 0)) ∧
      W.heap[w.heap.size + 1 + 1 + 1 + 1 + 1]? = some (.cells #[.string ⟨#[78, 101, 103]⟩, .string ⟨#[]⟩, .slice (some ⟨w.heap.size + 1 + 1, 0, none⟩) 1 1, .string ⟨#[97]⟩, .slice none 0 0, .string ⟨#[78, 101, 103]⟩, .string ⟨#[]⟩, .slice (some ⟨w.heap.size + 1 + 1 + 1, 0, none⟩) 1 1, .string ⟨#[98]⟩, .slice none 0 0, .string ⟨#[78, 101, 103]⟩, .string ⟨#[]⟩, .slice (some ⟨w.heap.size + 1 + 1 + 1 + 1, 0, none⟩) 1 1, .string ⟨#[99]⟩, .slice none 0 0] 52 (0, 0))) :
    GraphOk W ⟨⟨#[]⟩, ⟨some ⟨w.heap.size + 1 + 1 + 1 + 1 + 1, 0, none⟩, 3, 3⟩, ⟨some ⟨w.heap.size, 0, none⟩, 1, 1⟩, ⟨some ⟨w.heap.size + 1, 0, none⟩, 1, 1⟩, nilS⟩ (liCs ⟨some ⟨w.heap.size + 1 + 1, 0, none⟩, 1, 1⟩ ⟨some ⟨w.heap.size + 1 + 1 + 1, 0, none⟩, 1, 1⟩ ⟨some ⟨w.heap.size + 1 + 1 + 1 + 1, 0, none⟩, 1, 1⟩) liIn liOut [] := by
  obtain ⟨hg, h1, h2, h3, h4, h5, h6⟩ := h
  have nilA : IsAttrs W nilS.v [] := OwnsL.isL (te := 82) (base := 0) acells_len (OwnsL.nil ..) (by simp)
  refine ⟨⟨?_, ?_, ?_, ?_, fun c hc => ?_, fun p hp => ?_, fun p hp => ?_, (fun p hp => by cases hp), fun p hp => ?_, ?_⟩, fun y hy => ?_, fun y hy => ?_, fun c hc => ?_⟩
  · exact lit_isLG (te := 52) (bytes := 96) (xs := (liCs ⟨some ⟨w.heap.size + 1 + 1, 0, none⟩, 1, 1⟩ ⟨some ⟨w.heap.size + 1 + 1 + 1, 0, none⟩, 1, 1⟩ ⟨some ⟨w.heap.size + 1 + 1 + 1 + 1, 0, none⟩, 1, 1⟩).map (·.n)) ncells_len h6 rfl rfl (Nat.le_of_ble_eq_true rfl) (Nat.le_of_ble_eq_true rfl)
  · exact lit_isLG (te := 42) (bytes := 48) (xs := liIn.map (·.1)) vcells_len h1 rfl rfl (Nat.le_of_ble_eq_true rfl) (Nat.le_of_ble_eq_true rfl)
  · exact lit_isLG (te := 42) (bytes := 48) (xs := liOut.map (·.1)) vcells_len h2 rfl rfl (Nat.le_of_ble_eq_true rfl) (Nat.le_of_ble_eq_true rfl)
  · exact OwnsL.isL (te := 59) (base := 0) mcells_len (OwnsL.nil ..) (by simp)
  · simp only [liCs, List.mem_cons, List.not_mem_nil, or_false] at hc
    rcases hc with rfl | rfl | rfl
    · exact ⟨lit_isLG (te := 9) (bytes := 16) (xs := [⟨#[120]⟩]) scell_len h3 rfl rfl (Nat.le_of_ble_eq_true rfl) (Nat.le_of_ble_eq_true rfl), nilA, (fun j a h => by simp at h), by simp, (fun a h => by cases h)⟩
    · exact ⟨lit_isLG (te := 9) (bytes := 16) (xs := [⟨#[97]⟩]) scell_len h4 rfl rfl (Nat.le_of_ble_eq_true rfl) (Nat.le_of_ble_eq_true rfl), nilA, (fun j a h => by simp at h), by simp, (fun a h => by cases h)⟩
    · exact ⟨lit_isLG (te := 9) (bytes := 16) (xs := [⟨#[98]⟩]) scell_len h5 rfl rfl (Nat.le_of_ble_eq_true rfl) (Nat.le_of_ble_eq_true rfl), nilA, (fun j a h => by simp at h), by simp, (fun a h => by cases h)⟩
  · simp only [liIn, List.mem_cons, List.not_mem_nil, or_false] at hp
    subst hp
    exact ints_nil W
  · simp only [liOut, List.mem_cons, List.not_mem_nil, or_false] at hp
    subst hp
    exact ints_nil W
  · simp only [liIn, List.mem_cons, List.not_mem_nil, or_false] at hp
    subst hp
    show (1 : Nat) ≤ 1048576
    omega
  · simp [liCs, liIn, liOut]
  · simp only [vnames, liIn, liCs, List.map_cons, List.map_nil, List.nil_append, List.append_nil, List.cons_append, List.mem_cons, List.not_mem_nil, or_false] at hy
    rcases hy with rfl | rfl | rfl | rfl <;> (show (1 : Nat) ≤ 1048576; omega)
  · simp only [onames, liOut, List.map_cons, List.map_nil, List.mem_cons, List.not_mem_nil, or_false] at hy
    subst hy
    show (1 : Nat) ≤ 1048576
    omega
  · simp only [liCs, List.mem_cons, List.not_mem_nil, or_false] at hc
    rcases hc with rfl | rfl | rfl
    all_goals
      refine ⟨by simp, fun y hy => ?_⟩
      simp at hy
      subst hy
      show (1 : Nat) ≤ 1048576
      omega

/-- What live's functions answer of alive's graph. -/
theorem li_before (g : Gra) (s1 s2 s3 : Sl) (w : World) (hl : Laid w) (hg : GraphOk w g (liCs s1 s2 s3) liIn liOut []) : Calls Tryd.prog 11 #[gval g] w fun e w' => w.grownBy w' none ∧ ∃ (Q : Nat) (q : Nat → Nat), e = .returned (.tuple #[.slice (some ⟨Q, 0, none⟩) 3 3, .int .i64 0]) ∧ Rb w' Q 3 q [[false, true, true], [false, false, true], [false, false, false]] := by
  refine (before_any g _ _ _ _ w hl hg).mono ?_
  rintro e w' ⟨h1, ⟨h2, -⟩ | ⟨-, Q, q, h3, h4⟩⟩
  · exact absurd (li_order s1 s2 s3) h2
  · rw [li_rows] at h4
    exact ⟨h1, Q, q, h3, h4⟩

theorem li_apart_any (g : Gra) (s1 s2 s3 : Sl) (b : Int) (hb : b = 2 ∨ b = 1) (w : World) (hl : Laid w) (hg : GraphOk w g (liCs s1 s2 s3) liIn liOut []) : Calls Tryd.prog 14 #[gval g, .int .i64 0, .int .i64 b] w fun e w' => w.grownBy w' none ∧ e = .returned (.tuple #[.bool (b == 2), .int .i64 0]) := by
  refine (apart_any g _ _ _ _ 0 b w hl hg).mono ?_
  have e3 : (((liCs s1 s2 s3).length : Nat) : Int) = 3 := rfl
  rintro e w' ⟨h1, ⟨h2, -⟩ | ⟨-, h2, -⟩ | ⟨-, -, h3⟩⟩
  · exact absurd (li_order s1 s2 s3) h2
  · exfalso
    apply h2
    rw [e3]
    rcases hb with rfl | rfl <;> refine ⟨by omega, by omega, by omega, by omega, by omega⟩
  · refine ⟨h1, ?_⟩
    rcases hb with rfl | rfl
    · rw [li_apart] at h3
      exact h3
    · rw [li_meet] at h3
      exact h3

set_option maxRecDepth 100000 in
set_option maxHeartbeats 3200000 in
theorem alive_any (w : World) (hl : Laid w) : Calls Tryd.prog 9 #[] w fun e w' => e = .returned (.bool true) ∧ w.grownBy w' none := by
  have HL := hide hl
  clear hl
  obtain ⟨W, hW⟩ : ∃ W, W = ((((((w.alloc (.cells #[.string ⟨#[120]⟩, .int .i64 1, .slice none 0 0] 42)).alloc (.cells #[.string ⟨#[99]⟩, .int .i64 1, .slice none 0 0] 42)).alloc (.cells #[.string ⟨#[120]⟩] 9)).alloc (.cells #[.string ⟨#[97]⟩] 9)).alloc (.cells #[.string ⟨#[98]⟩] 9)).alloc (.cells #[.string ⟨#[78, 101, 103]⟩, .string ⟨#[]⟩, .slice (some ⟨w.heap.size + 1 + 1, 0, none⟩) 1 1, .string ⟨#[97]⟩, .slice none 0 0, .string ⟨#[78, 101, 103]⟩, .string ⟨#[]⟩, .slice (some ⟨w.heap.size + 1 + 1 + 1, 0, none⟩) 1 1, .string ⟨#[98]⟩, .slice none 0 0, .string ⟨#[78, 101, 103]⟩, .string ⟨#[]⟩, .slice (some ⟨w.heap.size + 1 + 1 + 1 + 1, 0, none⟩) 1 1, .string ⟨#[99]⟩, .slice none 0 0] 52)).alloc (.cells #[.string ⟨#[]⟩, .slice (some ⟨w.heap.size + 1 + 1 + 1 + 1 + 1, 0, none⟩) 3 3, .slice (some ⟨w.heap.size, 0, none⟩) 1 1, .slice (some ⟨w.heap.size + 1, 0, none⟩) 1 1, .slice none 0 0] 26) := ⟨_, rfl⟩
  obtain ⟨k1, k2, k3, k4, k5, k6, k7, hg⟩ := seven w _ _ _ _ _ _ _ W hW
  have OK := hide (li_ok w W ⟨hg, k1, k2, k3, k4, k5, k6⟩)
  have BX := hide k7
  have G0 := hide hg
  obtain ⟨r0, r1, r2, r3, r4⟩ := gra_cells (g := ⟨⟨#[]⟩, ⟨some ⟨w.heap.size + 1 + 1 + 1 + 1 + 1, 0, none⟩, 3, 3⟩, ⟨some ⟨w.heap.size, 0, none⟩, 1, 1⟩, ⟨some ⟨w.heap.size + 1, 0, none⟩, 1, 1⟩, nilS⟩) k7
  simp only at r4
  rw [hW] at r0 r1 r2 r3 r4
  clear k1 k2 k3 k4 k5 k6 k7 hg
  go_enter Tryd.func9, Tryd.ntmps9
  go_wp2_with fail
  rw [← hW]
  clear hW r0 r1 r2 r3 r4
  have LB := hide (li_before _ _ _ _ W (HL.out.more G0.out) OK.out)
  have LA := hide (fun (wx : World) (hx : W.grownBy wx none) => li_apart_any _ _ _ _ 2 (Or.inl rfl) wx (HL.out.more (grown_trans G0.out hx)) (OK.out.more hx))
  have LM := hide (fun (wx : World) (hx : W.grownBy wx none) => li_apart_any _ _ _ _ 1 (Or.inr rfl) wx (HL.out.more (grown_trans G0.out hx)) (OK.out.more hx))
  have KP : Hid (∀ wx, W.grownBy wx none → wx.heap[w.heap.size + 1 + 1 + 1 + 1 + 1 + 1]? = some (.cells #[.string ⟨#[]⟩, .slice (some ⟨w.heap.size + 1 + 1 + 1 + 1 + 1, 0, none⟩) 3 3, .slice (some ⟨w.heap.size, 0, none⟩) 1 1, .slice (some ⟨w.heap.size + 1, 0, none⟩) 1 1, .slice none 0 0] 26 (0, 0))) := fun wx hx => box_kept BX.out hx
  unfold gval at LB LA LM
  simp only at LB LA LM
  rw [show ((2 : Int) == 2) = true from rfl] at LA
  rw [show ((1 : Int) == 2) = false from rfl] at LM
  refine LB.out.mono ?_
  rintro e w1 ⟨hg1, Q, q, rfl, hrb⟩
  have HRB := hide hrb
  obtain ⟨r0, r1, r2, r3, r4⟩ := gra_cells (g := ⟨⟨#[]⟩, ⟨some ⟨w.heap.size + 1 + 1 + 1 + 1 + 1, 0, none⟩, 3, 3⟩, ⟨some ⟨w.heap.size, 0, none⟩, 1, 1⟩, ⟨some ⟨w.heap.size + 1, 0, none⟩, 1, 1⟩, nilS⟩) (KP.out w1 hg1)
  simp only at r4
  clear hrb
  go_wp2_with fail
  clear r0 r1 r2 r3 r4
  refine (LA.out w1 hg1).mono ?_
  rintro e w2 ⟨hg2, rfl⟩
  have g2 := grown_trans hg1 hg2
  obtain ⟨r0, r1, r2, r3, r4⟩ := gra_cells (g := ⟨⟨#[]⟩, ⟨some ⟨w.heap.size + 1 + 1 + 1 + 1 + 1, 0, none⟩, 3, 3⟩, ⟨some ⟨w.heap.size, 0, none⟩, 1, 1⟩, ⟨some ⟨w.heap.size + 1, 0, none⟩, 1, 1⟩, nilS⟩) (KP.out w2 g2)
  simp only at r4
  go_wp2_with fail
  clear r0 r1 r2 r3 r4
  refine (LM.out w2 g2).mono ?_
  rintro e w3 ⟨hg3, rfl⟩
  have h3 := HRB.out.more (grown_trans hg2 hg3)
  have c0 := h3.row 0 (by omega)
  have c2 := h3.row 2 (by omega)
  have c02 := h3.bit 0 (by omega) 2 (by omega)
  have c20 := h3.bit 2 (by omega) 0 (by omega)
  simp only [List.getD, List.getElem?_cons_zero, List.getElem?_cons_succ, Option.getD_some] at c02 c20
  have G3 := hide (grown_trans G0.out (grown_trans g2 hg3))
  clear h3
  go_wp2
  go_ret
  exact ⟨rfl, G3.out⟩

/-- Has a graph not too much to be gone through? -/
def smallF (cs : List Nc) (vin vout : List (Val × List Int)) (its : List (Nam × List Int × List Int)) : Bool := decide ((cs.length : Int) ≤ 30) && decide ((vin.length : Int) + (its.length : Int) + (vout.length : Int) ≤ 60)

set_option maxRecDepth 100000 in
set_option maxHeartbeats 1600000 in
theorem small19_any (g : Gra) (cs : List Nc) (vin vout : List (Val × List Int)) (its : List (Nam × List Int × List Int)) (w : World) (hg : GraphOk w g cs vin vout its) :
    Calls Tryd.prog 8 #[gval g] w fun e w' => e = .returned (.bool (smallF cs vin vout its)) ∧ w.grownBy w' none := by
  obtain ⟨f1, f2, f3, f4⟩ := hg.base.few
  have e1 : g.nv.n = cs.length := by obtain ⟨_, _, e, -⟩ := hg.base.nodes.form; rw [List.length_map] at e; simp only [Sl.v, Value.slice.injEq] at e; exact e.2.1
  have e2 : g.iv.n = vin.length := by obtain ⟨_, _, e, -⟩ := hg.base.ins.form; rw [List.length_map] at e; simp only [Sl.v, Value.slice.injEq] at e; exact e.2.1
  have e3 : g.ov.n = vout.length := by obtain ⟨_, _, e, -⟩ := hg.base.outs.form; rw [List.length_map] at e; simp only [Sl.v, Value.slice.injEq] at e; exact e.2.1
  have e4 : g.tv.n = its.length := by obtain ⟨_, _, e, -⟩ := hg.base.inits.form; rw [List.length_map] at e; simp only [Sl.v, Value.slice.injEq] at e; exact e.2.1
  obtain ⟨nam, ⟨na0, nn0, nc0⟩, ⟨ia, iN, ic⟩, ⟨oa, oN, oc⟩, ⟨ta, tN, tc⟩⟩ := g
  have e1 : nn0 = cs.length := e1
  have e2 : iN = vin.length := e2
  have e3 : oN = vout.length := e3
  have e4 : tN = its.length := e4
  subst e1
  subst e2
  subst e3
  subst e4
  clear hg
  have HE : Hid (smallF cs vin vout its = (decide ((cs.length : Int) ≤ 30) && decide ((vin.length : Int) + (its.length : Int) + (vout.length : Int) ≤ 60))) := rfl
  unfold gval
  simp only
  have g0 := grown_new w (.cells #[.string nam, .slice na0 cs.length nc0, .slice ia vin.length ic, .slice oa vout.length oc, .slice ta its.length tc] 26)
  obtain ⟨r0, r1, r2, r3, r4⟩ := gra_cells (g := ⟨nam, ⟨na0, cs.length, nc0⟩, ⟨ia, vin.length, ic⟩, ⟨oa, vout.length, oc⟩, ⟨ta, its.length, tc⟩⟩) (heap_alloc_new w (.cells #[.string nam, .slice na0 cs.length nc0, .slice ia vin.length ic, .slice oa vout.length oc, .slice ta its.length tc] 26))
  have G0 := hide g0
  clear g0
  obtain ⟨SF, hSF⟩ : ∃ SF, SF = smallF cs vin vout its := ⟨_, rfl⟩
  rw [← hSF] at HE ⊢
  clear hSF
  go_enter Tryd.func8, Tryd.ntmps8
  by_cases h1 : (cs.length : Int) ≤ 30
  · go_wp2_with fail
    go_ret
    exact ⟨by rw [HE.out, decide_eq_true h1]; rfl, G0.out⟩
  · have E : Hid (SF = false) := by show _ = _; rw [HE.out, decide_eq_false h1]; rfl
    go_wp2_with fail
    go_ret
    exact ⟨by rw [E.out]; rfl, G0.out⟩
end Go.Proofs.YtmdpeckeliplkaaDoor
