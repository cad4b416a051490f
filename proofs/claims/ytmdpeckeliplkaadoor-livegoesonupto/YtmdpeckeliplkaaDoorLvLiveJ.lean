/- The statements' own alive, and small, by the walk. -/
import Derived.Test.YtmdpeckeliplkaaDoorLvAptJ
import Derived.Test.YtmdpeckeliplkaaDoorGTwoJ
namespace Go.Proofs.YtmdpeckeliplkaaDoor
open Go.RowKit

theorem seven (w : World) (a b c d e f g : Obj) : ∀ W, W = ((((((w.alloc a).alloc b).alloc c).alloc d).alloc e).alloc f).alloc g →
    W.heap[w.heap.size]? = some a ∧ W.heap[w.heap.size + 1]? = some b ∧ W.heap[w.heap.size + 1 + 1]? = some c ∧ W.heap[w.heap.size + 1 + 1 + 1]? = some d ∧ W.heap[w.heap.size + 1 + 1 + 1 + 1]? = some e ∧ W.heap[w.heap.size + 1 + 1 + 1 + 1 + 1]? = some f ∧ W.heap[w.heap.size + 1 + 1 + 1 + 1 + 1 + 1]? = some g ∧ w.grownBy W none := by
  rintro W rfl
  obtain ⟨k1, k2, k3, k4, k5, k6, hg⟩ := six w a b c d e f _ rfl
  have z : ∀ (x : World) (o : Obj), (x.alloc o).heap.size = x.heap.size + 1 := fun x o => by simp
  have k7 := heap_alloc_new ((((((w.alloc a).alloc b).alloc c).alloc d).alloc e).alloc f) g
  rw [z, z, z, z, z, z] at k7
  have up : ∀ {x : World} {i : Nat} {o : Obj} (p : Obj), x.heap[i]? = some o → (x.alloc p).heap[i]? = some o := fun {x i o} p h => ((grown_new x p).block i (Array.getElem?_eq_some_iff.1 h).1 (by simp)).trans h
  exact ⟨up _ k1, up _ k2, up _ k3, up _ k4, up _ k5, up _ k6, k7, grown_trans hg (grown_new _ _)⟩

/-- The nodes of alive's graph. -/
def liCs (s1 s2 s3 : Sl) : List Nc := [⟨⟨⟨#[78, 101, 103]⟩, ⟨#[]⟩, s1, ⟨#[97]⟩, nilS⟩, [⟨#[120]⟩], [], []⟩, ⟨⟨⟨#[78, 101, 103]⟩, ⟨#[]⟩, s2, ⟨#[98]⟩, nilS⟩, [⟨#[97]⟩], [], []⟩, ⟨⟨⟨#[78, 101, 103]⟩, ⟨#[]⟩, s3, ⟨#[99]⟩, nilS⟩, [⟨#[98]⟩], [], []⟩]

def liIn : List (Val × List Int) := [(⟨⟨#[120]⟩, 1, nilS⟩, [])]
def liOut : List (Val × List Int) := [(⟨⟨#[99]⟩, 1, nilS⟩, [])]

theorem li_order (s1 s2 s3 : Sl) : (orderR (liCs s1 s2 s3) liIn liOut []).2 = 0 := by kernel_rfl
theorem li_rows (s1 s2 s3 : Sl) : rowsG (liCs s1 s2 s3) liIn [] = [[false, true, true], [false, false, true], [false, false, false]] := by kernel_rfl
theorem li_apart (s1 s2 s3 : Sl) : apartF (readG (liCs s1 s2 s3) liIn []) (outG (liCs s1 s2 s3) liIn liOut []) (rowsG (liCs s1 s2 s3) liIn []) (0 : Int).toNat (2 : Int).toNat = true := by kernel_rfl
theorem li_meet (s1 s2 s3 : Sl) : apartF (readG (liCs s1 s2 s3) liIn []) (outG (liCs s1 s2 s3) liIn liOut []) (rowsG (liCs s1 s2 s3) liIn []) (0 : Int).toNat (1 : Int).toNat = false := by kernel_rfl

set_option maxRecDepth 100000 in
theorem li_ok (w W : World) (h : w.grownBy W none ∧ W.heap[w.heap.size]? = some (.cells #[.string ⟨#[120]⟩, .int .i64 1, .slice none 0 0] 42 (0, 0)) ∧ W.heap[w.heap.size + 1]? = some (.cells #[.string ⟨#[99]⟩, .int .i64 1, .slice none 0 0] 42 (0, 0)) ∧ W.heap[w.heap.size + 1 + 1]? = some (.cells #[.string ⟨#[120]⟩] 9 (0, 0)) ∧ W.heap[w.heap.size + 1 + 1 + 1]? = some (.cells #[.string ⟨#[97]⟩] 9 (0, 0)) ∧ W.heap[w.heap.size + 1 + 1 + 1 + 1]? = some (.cells #[.string ⟨#[98]⟩] 9 (0, 0)) ∧
      W.heap[w.heap.size + 1 + 1 + 1 + 1 + 1]? = some (.cells #[.string ⟨#[78, 101, 103]⟩, .string ⟨#[]⟩, .slice (some ⟨w.heap.size + 1 + 1, 0, none⟩) 1 1, .string ⟨#[97]⟩, .slice none 0 0, .string ⟨#[78, 101, 103]⟩, .string ⟨#[]⟩, .slice (some ⟨w.heap.size + 1 + 1 + 1, 0, none⟩) 1 1, .string ⟨#[98]⟩, .slice none 0 0, .string ⟨#[78, 101, 103]⟩, .string ⟨#[]⟩, .slice (some ⟨w.heap.size + 1 + 1 + 1 + 1, 0, none⟩) 1 1, .string ⟨#[99]⟩, .slice none 0 0] 52 (0, 0))) :
    GraphOk W ⟨⟨#[]⟩, ⟨some ⟨w.heap.size + 1 + 1 + 1 + 1 + 1, 0, none⟩, 3, 3⟩, ⟨some ⟨w.heap.size, 0, none⟩, 1, 1⟩, ⟨some ⟨w.heap.size + 1, 0, none⟩, 1, 1⟩, nilS⟩ (liCs ⟨some ⟨w.heap.size + 1 + 1, 0, none⟩, 1, 1⟩ ⟨some ⟨w.heap.size + 1 + 1 + 1, 0, none⟩, 1, 1⟩ ⟨some ⟨w.heap.size + 1 + 1 + 1 + 1, 0, none⟩, 1, 1⟩) liIn liOut [] := by
  obtain ⟨hg, h1, h2, h3, h4, h5, h6⟩ := h
  have nilA : IsAttrs W nilS.v [] := OwnsL.isL (te := 82) (base := 0) acells_len (OwnsL.nil ..) (by simp)
  refine ⟨⟨?_, ?_, ?_, ?_, fun c hc => ?_, fun p hp => ?_, fun p hp => ?_, (fun p hp => by cases hp), fun p hp => ?_, ?_⟩, fun y hy => ?_, fun y hy => ?_, fun c hc => ?_⟩
  · exact lit_isLG (te := 52) (bytes := 96) (xs := (liCs ⟨some ⟨w.heap.size + 1 + 1, 0, none⟩, 1, 1⟩ ⟨some ⟨w.heap.size + 1 + 1 + 1, 0, none⟩, 1, 1⟩ ⟨some ⟨w.heap.size + 1 + 1 + 1 + 1, 0, none⟩, 1, 1⟩).map (·.n)) ncells_len h6 rfl rfl (Nat.le_of_ble_eq_true rfl) (Nat.le_of_ble_eq_true rfl)
  · exact lit_isLG (te := 42) (bytes := 48) (xs := liIn.map (·.1)) vcells_len h1 rfl rfl (Nat.le_of_ble_eq_true rfl) (Nat.le_of_ble_eq_true rfl)
  · exact lit_isLG (te := 42) (bytes := 48) (xs := liOut.map (·.1)) vcells_len h2 rfl rfl (Nat.le_of_ble_eq_true rfl) (Nat.le_of_ble_eq_true rfl)
  · exact OwnsL.isL (te := 59) (base := 0) mcells_len (OwnsL.nil ..) (by simp)
  · simp only [liCs, List.mem_cons, List.not_mem_nil, or_false] at hc
    rcases hc with rfl | rfl | rfl
    · exact ⟨lit_isLG (te := 9) (bytes := 16) (xs := [⟨#[120]⟩]) scell_len h3 rfl rfl (Nat.le_of_ble_eq_true rfl) (Nat.le_of_ble_eq_true rfl), nilA, (fun j a h => by simp at h), by simp, (fun a h => by cases h)⟩
    · exact ⟨lit_isLG (te := 9) (bytes := 16) (xs := [⟨#[97]⟩]) scell_len h4 rfl rfl (Nat.le_of_ble_eq_true rfl) (Nat.le_of_ble_eq_true rfl), nilA, (fun j a h => by simp at h), by simp, (fun a h => by cases h)⟩
    · exact ⟨lit_isLG (te := 9) (bytes := 16) (xs := [⟨#[98]⟩]) scell_len h5 rfl rfl (Nat.le_of_ble_eq_true rfl) (Nat.le_of_ble_eq_true rfl), nilA, (fun j a h => by simp at h), by simp, (fun a h => by cases h)⟩
  · simp only [liIn, List.mem_cons, List.not_mem_nil, or_false] at hp
    subst hp
    exact ints_nil W
  · simp only [liOut, List.mem_cons, List.not_mem_nil, or_false] at hp
    subst hp
    exact ints_nil W
  · simp only [liIn, List.mem_cons, List.not_mem_nil, or_false] at hp
    subst hp
    show (1 : Nat) ≤ 1048576
    omega
  · simp [liCs, liIn, liOut]
  · simp only [vnames, liIn, liCs, List.map_cons, List.map_nil, List.nil_append, List.append_nil, List.cons_append, List.mem_cons, List.not_mem_nil, or_false] at hy
    rcases hy with rfl | rfl | rfl | rfl <;> (show (1 : Nat) ≤ 1048576; omega)
  · simp only [onames, liOut, List.map_cons, List.map_nil, List.mem_cons, List.not_mem_nil, or_false] at hy
    subst hy
    show (1 : Nat) ≤ 1048576
    omega
  · simp only [liCs, List.mem_cons, List.not_mem_nil, or_false] at hc
    rcases hc with rfl | rfl | rfl
    all_goals
      refine ⟨by simp, fun y hy => ?_⟩
      simp at hy
      subst hy
      show (1 : Nat) ≤ 1048576
      omega

/-- What live's functions answer of alive's graph. -/
theorem li_before (g : Gra) (s1 s2 s3 : Sl) (w : World) (hl : Laid w) (hg : GraphOk w g (liCs s1 s2 s3) liIn liOut []) : Calls Tryd.prog 11 #[gval g] w fun e w' => w.grownBy w' none ∧ ∃ (Q : Nat) (q : Nat → Nat), e = .returned (.tuple #[.slice (some ⟨Q, 0, none⟩) 3 3, .int .i64 0]) ∧ Rb w' Q 3 q [[false, true, true], [false, false, true], [false, false, false]] := by
  refine (before_any g _ _ _ _ w hl hg).mono ?_
  rintro e w' ⟨h1, ⟨h2, -⟩ | ⟨-, Q, q, h3, h4⟩⟩
  · exact absurd (li_order s1 s2 s3) h2
  · rw [li_rows] at h4
    exact ⟨h1, Q, q, h3, h4⟩

theorem li_apart_any (g : Gra) (s1 s2 s3 : Sl) (b : Int) (hb : b = 2 ∨ b = 1) (w : World) (hl : Laid w) (hg : GraphOk w g (liCs s1 s2 s3) liIn liOut []) : Calls Tryd.prog 14 #[gval g, .int .i64 0, .int .i64 b] w fun e w' => w.grownBy w' none ∧ e = .returned (.tuple #[.bool (b == 2), .int .i64 0]) := by
  refine (apart_any g _ _ _ _ 0 b w hl hg).mono ?_
  have e3 : (((liCs s1 s2 s3).length : Nat) : Int) = 3 := rfl
  rintro e w' ⟨h1, ⟨h2, -⟩ | ⟨-, h2, -⟩ | ⟨-, -, h3⟩⟩
  · exact absurd (li_order s1 s2 s3) h2
  · exfalso
    apply h2
    rw [e3]
    rcases hb with rfl | rfl <;> refine ⟨by omega, by omega, by omega, by omega, by omega⟩
  · refine ⟨h1, ?_⟩
    rcases hb with rfl | rfl
    · rw [li_apart] at h3
      exact h3
    · rw [li_meet] at h3
      exact h3

set_option maxRecDepth 100000 in
set_option maxHeartbeats 3200000 in
theorem alive_any (w : World) (hl : Laid w) : Calls Tryd.prog 9 #[] w fun e w' => e = .returned (.bool true) ∧ w.grownBy w' none := by
  have HL := hide hl
  clear hl
  obtain ⟨W, hW⟩ : ∃ W, W = ((((((w.alloc (.cells #[.string ⟨#[120]⟩, .int .i64 1, .slice none 0 0] 42)).alloc (.cells #[.string ⟨#[99]⟩, .int .i64 1, .slice none 0 0] 42)).alloc (.cells #[.string ⟨#[120]⟩] 9)).alloc (.cells #[.string ⟨#[97]⟩] 9)).alloc (.cells #[.string ⟨#[98]⟩] 9)).alloc (.cells #[.string ⟨#[78, 101, 103]⟩, .string ⟨#[]⟩, .slice (some ⟨w.heap.size + 1 + 1, 0, none⟩) 1 1, .string ⟨#[97]⟩, .slice none 0 0, .string ⟨#[78, 101, 103]⟩, .string ⟨#[]⟩, .slice (some ⟨w.heap.size + 1 + 1 + 1, 0, none⟩) 1 1, .string ⟨#[98]⟩, .slice none 0 0, .string ⟨#[78, 101, 103]⟩, .string ⟨#[]⟩, .slice (some ⟨w.heap.size + 1 + 1 + 1 + 1, 0, none⟩) 1 1, .string ⟨#[99]⟩, .slice none 0 0] 52)).alloc (.cells #[.string ⟨#[]⟩, .slice (some ⟨w.heap.size + 1 + 1 + 1 + 1 + 1, 0, none⟩) 3 3, .slice (some ⟨w.heap.size, 0, none⟩) 1 1, .slice (some ⟨w.heap.size + 1, 0, none⟩) 1 1, .slice none 0 0] 26) := ⟨_, rfl⟩
  obtain ⟨k1, k2, k3, k4, k5, k6, k7, hg⟩ := seven w _ _ _ _ _ _ _ W hW
  have OK := hide (li_ok w W ⟨hg, k1, k2, k3, k4, k5, k6⟩)
  have BX := hide k7
  have G0 := hide hg
  obtain ⟨r0, r1, r2, r3, r4⟩ := gra_cells (g := ⟨⟨#[]⟩, ⟨some ⟨w.heap.size + 1 + 1 + 1 + 1 + 1, 0, none⟩, 3, 3⟩, ⟨some ⟨w.heap.size, 0, none⟩, 1, 1⟩, ⟨some ⟨w.heap.size + 1, 0, none⟩, 1, 1⟩, nilS⟩) k7
  simp only at r4
  rw [hW] at r0 r1 r2 r3 r4
  clear k1 k2 k3 k4 k5 k6 k7 hg
  go_enter Tryd.func9, Tryd.ntmps9
  go_wp2_with fail
  rw [← hW]
  clear hW r0 r1 r2 r3 r4
  have LB := hide (li_before _ _ _ _ W (HL.out.more G0.out) OK.out)
  have LA := hide (fun (wx : World) (hx : W.grownBy wx none) => li_apart_any _ _ _ _ 2 (Or.inl rfl) wx (HL.out.more (grown_trans G0.out hx)) (OK.out.more hx))
  have LM := hide (fun (wx : World) (hx : W.grownBy wx none) => li_apart_any _ _ _ _ 1 (Or.inr rfl) wx (HL.out.more (grown_trans G0.out hx)) (OK.out.more hx))
  have KP : Hid (∀ wx, W.grownBy wx none → wx.heap[w.heap.size + 1 + 1 + 1 + 1 + 1 + 1]? = some (.cells #[.string ⟨#[]⟩, .slice (some ⟨w.heap.size + 1 + 1 + 1 + 1 + 1, 0, none⟩) 3 3, .slice (some ⟨w.heap.size, 0, none⟩) 1 1, .slice (some ⟨w.heap.size + 1, 0, none⟩) 1 1, .slice none 0 0] 26 (0, 0))) := fun wx hx => box_kept BX.out hx
  unfold gval at LB LA LM
  simp only at LB LA LM
  rw [show ((2 : Int) == 2) = true from rfl] at LA
  rw [show ((1 : Int) == 2) = false from rfl] at LM
  refine LB.out.mono ?_
  rintro e w1 ⟨hg1, Q, q, rfl, hrb⟩
  have HRB := hide hrb
  obtain ⟨r0, r1, r2, r3, r4⟩ := gra_cells (g := ⟨⟨#[]⟩, ⟨some ⟨w.heap.size + 1 + 1 + 1 + 1 + 1, 0, none⟩, 3, 3⟩, ⟨some ⟨w.heap.size, 0, none⟩, 1, 1⟩, ⟨some ⟨w.heap.size + 1, 0, none⟩, 1, 1⟩, nilS⟩) (KP.out w1 hg1)
  simp only at r4
  clear hrb
  go_wp2_with fail
  clear r0 r1 r2 r3 r4
  refine (LA.out w1 hg1).mono ?_
  rintro e w2 ⟨hg2, rfl⟩
  have g2 := grown_trans hg1 hg2
  obtain ⟨r0, r1, r2, r3, r4⟩ := gra_cells (g := ⟨⟨#[]⟩, ⟨some ⟨w.heap.size + 1 + 1 + 1 + 1 + 1, 0, none⟩, 3, 3⟩, ⟨some ⟨w.heap.size, 0, none⟩, 1, 1⟩, ⟨some ⟨w.heap.size + 1, 0, none⟩, 1, 1⟩, nilS⟩) (KP.out w2 g2)
  simp only at r4
  go_wp2_with fail
  clear r0 r1 r2 r3 r4
  refine (LM.out w2 g2).mono ?_
  rintro e w3 ⟨hg3, rfl⟩
  have h3 := HRB.out.more (grown_trans hg2 hg3)
  have c0 := h3.row 0 (by omega)
  have c2 := h3.row 2 (by omega)
  have c02 := h3.bit 0 (by omega) 2 (by omega)
  have c20 := h3.bit 2 (by omega) 0 (by omega)
  simp only [List.getD, List.getElem?_cons_zero, List.getElem?_cons_succ, Option.getD_some] at c02 c20
  have G3 := hide (grown_trans G0.out (grown_trans g2 hg3))
  clear h3
  go_wp2
  go_ret
  exact ⟨rfl, G3.out⟩

/-- Has a graph not too much to be gone through? -/
def smallF (cs : List Nc) (vin vout : List (Val × List Int)) (its : List (Nam × List Int × List Int)) : Bool := decide ((cs.length : Int) ≤ 30) && decide ((vin.length : Int) + (its.length : Int) + (vout.length : Int) ≤ 60)

set_option maxRecDepth 100000 in
set_option maxHeartbeats 1600000 in
theorem small19_any (g : Gra) (cs : List Nc) (vin vout : List (Val × List Int)) (its : List (Nam × List Int × List Int)) (w : World) (hg : GraphOk w g cs vin vout its) :
    Calls Tryd.prog 8 #[gval g] w fun e w' => e = .returned (.bool (smallF cs vin vout its)) ∧ w.grownBy w' none := by
  obtain ⟨f1, f2, f3, f4⟩ := hg.base.few
  have e1 : g.nv.n = cs.length := by obtain ⟨_, _, e, -⟩ := hg.base.nodes.form; rw [List.length_map] at e; simp only [Sl.v, Value.slice.injEq] at e; exact e.2.1
  have e2 : g.iv.n = vin.length := by obtain ⟨_, _, e, -⟩ := hg.base.ins.form; rw [List.length_map] at e; simp only [Sl.v, Value.slice.injEq] at e; exact e.2.1
  have e3 : g.ov.n = vout.length := by obtain ⟨_, _, e, -⟩ := hg.base.outs.form; rw [List.length_map] at e; simp only [Sl.v, Value.slice.injEq] at e; exact e.2.1
  have e4 : g.tv.n = its.length := by obtain ⟨_, _, e, -⟩ := hg.base.inits.form; rw [List.length_map] at e; simp only [Sl.v, Value.slice.injEq] at e; exact e.2.1
  obtain ⟨nam, ⟨na0, nn0, nc0⟩, ⟨ia, iN, ic⟩, ⟨oa, oN, oc⟩, ⟨ta, tN, tc⟩⟩ := g
  have e1 : nn0 = cs.length := e1
  have e2 : iN = vin.length := e2
  have e3 : oN = vout.length := e3
  have e4 : tN = its.length := e4
  subst e1
  subst e2
  subst e3
  subst e4
  clear hg
  have HE : Hid (smallF cs vin vout its = (decide ((cs.length : Int) ≤ 30) && decide ((vin.length : Int) + (its.length : Int) + (vout.length : Int) ≤ 60))) := rfl
  unfold gval
  simp only
  have g0 := grown_new w (.cells #[.string nam, .slice na0 cs.length nc0, .slice ia vin.length ic, .slice oa vout.length oc, .slice ta its.length tc] 26)
  obtain ⟨r0, r1, r2, r3, r4⟩ := gra_cells (g := ⟨nam, ⟨na0, cs.length, nc0⟩, ⟨ia, vin.length, ic⟩, ⟨oa, vout.length, oc⟩, ⟨ta, its.length, tc⟩⟩) (heap_alloc_new w (.cells #[.string nam, .slice na0 cs.length nc0, .slice ia vin.length ic, .slice oa vout.length oc, .slice ta its.length tc] 26))
  have G0 := hide g0
  clear g0
  obtain ⟨SF, hSF⟩ : ∃ SF, SF = smallF cs vin vout its := ⟨_, rfl⟩
  rw [← hSF] at HE ⊢
  clear hSF
  go_enter Tryd.func8, Tryd.ntmps8
  by_cases h1 : (cs.length : Int) ≤ 30
  · go_wp2_with fail
    go_ret
    exact ⟨by rw [HE.out, decide_eq_true h1]; rfl, G0.out⟩
  · have E : Hid (SF = false) := by show _ = _; rw [HE.out, decide_eq_false h1]; rfl
    go_wp2_with fail
    go_ret
    exact ⟨by rw [E.out]; rfl, G0.out⟩
end Go.Proofs.YtmdpeckeliplkaaDoor
