/- live.Before and live.Apart, by the walk. -/
import Derived.Test.YtmdpeckeliplkaaDoorLvOfJ
namespace Go.Proofs.YtmdpeckeliplkaaDoor
open Go.RowKit

/-- A graph's rows. -/
def rowsG (cs : List Nc) (vin : List (Val × List Int)) (its : List (Nam × List Int × List Int)) : List (List Bool) := rowN ((needN (inOrd cs (lineF cs vin its)) cs.length).drop cs.length) cs.length cs.length

def readG (cs : List Nc) (vin : List (Val × List Int)) (its : List (Nam × List Int × List Int)) : List (List Int) := (needN (inOrd cs (lineF cs vin its)) cs.length).drop cs.length

def outG (cs : List Nc) (vin vout : List (Val × List Int)) (its : List (Nam × List Int × List Int)) : List Bool := outN (outsN (inOrd cs (lineF cs vin its))) (onames vout)

/-- How live.Before ends. -/
def Befs (cs : List Nc) (vin vout : List (Val × List Int)) (its : List (Nam × List Int × List Int)) (w : World) (e : Ending) (w' : World) : Prop :=
  w.grownBy w' none ∧ (((orderR cs vin vout its).2 ≠ 0 ∧ e = .returned (.tuple #[.slice none 0 0, .int .i64 (orderR cs vin vout its).2])) ∨
    ((orderR cs vin vout its).2 = 0 ∧ ∃ (Q : Nat) (q : Nat → Nat), e = .returned (.tuple #[.slice (some ⟨Q, 0, none⟩) cs.length cs.length, .int .i64 0]) ∧ Rb w' Q cs.length q (rowsG cs vin its)))

/-- Of a graph that has an order: how many nodes, and that readers stand behind. -/
theorem read_behind {w : World} {g : Gra} {cs : List Nc} {vin vout : List (Val × List Int)} {its : List (Nam × List Int × List Int)} (hg : GraphOk w g cs vin vout its) (hz : (orderR cs vin vout its).2 = 0) : Behind (readG cs vin its) cs.length ∧ cs.length ≤ 1000 ∧ ∀ k, ((readG cs vin its).getD k []).length ≤ 4294967296 := by
  obtain ⟨k1, k2, k3, k4, k5⟩ := orderR_ok hz
  obtain ⟨m1, m2, -⟩ := line_law (cs := cs) (vin := vin) (its := its) (fun c hc => (hg.is c hc).1) (fun c hc x hx => by
    have hfo := k4
    unfold foundF at hfo
    simp only [Bool.and_eq_true, List.all_eq_true] at hfo
    have := hfo.2 c hc
    unfold allF at this
    rw [List.all_eq_true] at this
    exact this x hx)
  have hl : (inOrd cs (lineF cs vin its)).length = cs.length := by rw [inOrd_len]; exact k2
  have nb := needN_nb (inOrd cs (lineF cs vin its)) (fun c hc => (hg.is c (inOrd_mem m2 c hc)).1) cs.length (by omega)
  rw [hl] at nb
  refine ⟨fun a ha z hz => ?_, k5, fun k => ?_⟩
  · unfold readG at hz
    rw [drop_getD] at hz
    exact nb.b2 a ha z hz
  · unfold readG
    rw [drop_getD]
    have := nb.cnt (cs.length + k)
    omega

set_option maxRecDepth 100000 in
set_option maxHeartbeats 3200000 in
theorem before_any (g : Gra) (cs : List Nc) (vin vout : List (Val × List Int)) (its : List (Nam × List Int × List Int)) (w : World) (hl : Laid w) (hg : GraphOk w g cs vin vout its) :
    Calls Tryd.prog 11 #[gval g] w fun e w' => Befs cs vin vout its w e w' := by
  have OA := hide (fun (wx : World) (hx : w.grownBy wx none) => of_any g cs vin vout its wx (hl.more hx) (hg.more hx))
  have HB := hide (fun (h : (orderR cs vin vout its).2 = 0) => read_behind hg h)
  obtain ⟨nam, ⟨na0, nn0, nc0⟩, ⟨ia, iN, ic⟩, ⟨oa, oN, oc⟩, ⟨ta, tN, tc⟩⟩ := g
  clear hl hg
  unfold gval at OA ⊢
  simp only at OA ⊢
  obtain ⟨w0, hw0⟩ : ∃ w0, w0 = w.alloc (.cells #[.string nam, .slice na0 nn0 nc0, .slice ia iN ic, .slice oa oN oc, .slice ta tN tc] 26) := ⟨_, rfl⟩
  have g0 : w.grownBy w0 none := by rw [hw0]; exact grown_new _ _
  obtain ⟨r0, r1, r2, r3, r4⟩ := gra_cells (g := ⟨nam, ⟨na0, nn0, nc0⟩, ⟨ia, iN, ic⟩, ⟨oa, oN, oc⟩, ⟨ta, tN, tc⟩⟩) (heap_alloc_new w (.cells #[.string nam, .slice na0 nn0 nc0, .slice ia iN ic, .slice oa oN oc, .slice ta tN tc] 26))
  go_enter Tryd.func11, Tryd.ntmps11
  go_wp2_with fail
  rw [← hw0]
  clear hw0 r0 r1 r2 r3 r4
  refine (OA.out w0 g0).mono ?_
  rintro e w1 ⟨hg1, ⟨hz, rfl⟩ | ⟨hz, Bl, Ba, Bb, Bo, rs, rfl, hok⟩⟩
  · have HZ : Hid (∀ w', w.grownBy w' none → Befs cs vin vout its w (.returned (.tuple #[.slice none 0 0, .int .i64 (orderR cs vin vout its).2])) w') := fun w' h => ⟨h, Or.inl ⟨hz, rfl⟩⟩
    obtain ⟨OE, hOE⟩ : ∃ OE, OE = (orderR cs vin vout its).2 := ⟨_, rfl⟩
    rw [← hOE] at HZ hz ⊢
    have hzb : (OE != 0) = true := by simpa using hz
    have g1 := grown_trans g0 hg1
    clear hOE hz HB OA
    go_wp2_with fail
    go_ret2
    exact HZ.out _ (grown_trans g1 (grown_new _ _))
  · have HZ : Hid (∀ e w', (w.grownBy w' none ∧ ∃ (Q : Nat) (q : Nat → Nat), e = .returned (.tuple #[.slice (some ⟨Q, 0, none⟩) cs.length cs.length, .int .i64 0]) ∧ Rb w' Q cs.length q (rowsG cs vin its)) → Befs cs vin vout its w e w') := fun e w' h => ⟨h.1, Or.inr ⟨hz, h.2⟩⟩
    obtain ⟨hbe, hn, hlen⟩ := HB.out hz
    have g1 := grown_trans g0 hg1
    obtain ⟨w2, hw2⟩ : ∃ w2, w2 = w1.alloc (.cells #[.slice (some ⟨Bl, 0, none⟩) cs.length cs.length, .slice (some ⟨Ba, 0, none⟩) cs.length cs.length, .slice (some ⟨Bb, 0, none⟩) cs.length cs.length, .slice (some ⟨Bo, 0, none⟩) cs.length cs.length] 63) := ⟨_, rfl⟩
    have g2 : w1.grownBy w2 none := by rw [hw2]; exact grown_new _ _
    obtain ⟨y0, y1, y2, y3⟩ := nds_cells (heap_alloc_new w1 (.cells #[.slice (some ⟨Bl, 0, none⟩) cs.length cs.length, .slice (some ⟨Ba, 0, none⟩) cs.length cs.length, .slice (some ⟨Bb, 0, none⟩) cs.length cs.length, .slice (some ⟨Bo, 0, none⟩) cs.length cs.length] 63))
    have RA := hide (rowsof_any Bb cs.length (rs.drop cs.length) (readG cs vin its) w2 (hok.more g2).readers hbe (by omega) hlen)
    clear hbe hlen hok OA HB hz
    go_wp2_with fail
    rw [← hw2]
    clear hw2 y0 y1 y2 y3
    refine RA.out.mono ?_
    rintro e w3 ⟨Q, q, rfl, hrb, hg3⟩
    go_wp2_with fail
    go_ret2
    exact HZ.out _ _ ⟨grown_trans (grown_trans g1 g2) hg3, Q, q, rfl, hrb⟩
end Go.Proofs.YtmdpeckeliplkaaDoor
