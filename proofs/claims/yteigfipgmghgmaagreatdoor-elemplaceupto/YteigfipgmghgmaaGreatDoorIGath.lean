/- The dims of a Gather, by the walk. -/
import Derived.Test.YteigfipgmghgmaaGreatDoorIConcat
import Derived.Test.YteigfipgmghgmaaGreatDoorITy2
import Derived.Test.YteigfipgmghgmaaGreatDoorIDim4
namespace Go.Proofs.YteigfipgmghgmaaGreatDoor
open Go.RowKit

def gatherP (A : At) (x y : List Int) : R (List Int) := (axisP (A.int ⟨#[97, 120, 105, 115]⟩ 0) x.length).bind (fun a => .ok (x.take a ++ (y ++ x.drop (a + 1))))

set_option maxRecDepth 100000 in
set_option maxHeartbeats 4000000 in
theorem dims_Gather (n : Nod) (A : At) (u : Sl) (v0 v1 : Val) (x y : List Int) (w : World) (hop : n.op = ⟨#[71, 97, 116, 104, 101, 114]⟩) (hn : NodeOk w n A) (hv : ValsIn w u.v [(v0, x), (v1, y)]) (hf : Fine x) (hfy : Fine y) : Calls Tryz.prog 75 #[nval n, .slice u.a u.n u.c] w (Ended w (gatherP A x y) DimsQ) := by
  obtain ⟨xa, xc, e1, q1, q2, q3⟩ := hv.vals.form
  simp only [List.map_cons, List.map_nil, List.length_cons, List.length_nil, Nat.zero_add, Nat.reduceAdd] at e1 q1 q3
  obtain ⟨ua, un, uc⟩ := u
  simp only [Sl.v, Value.slice.injEq] at e1
  obtain ⟨rfl, rfl, rfl⟩ := e1
  obtain ⟨b, off, rfl⟩ := hv.vals.addr (k := 0) (by simp)
  obtain ⟨-, z0⟩ := hv.at 0 (by simp)
  obtain ⟨-, z1⟩ := hv.at 1 (by simp)
  rw [Nat.zero_mul, Nat.add_zero] at z0
  rw [Nat.one_mul] at z1
  simp only [List.getElem_cons_zero, List.getElem_cons_succ] at z0 z1
  have HX := hide (hv.dims (v0, x) (by simp))
  have HY := hide (hv.dims (v1, y) (by simp))
  obtain ⟨vn1, vt1, ⟨d1a, d1n, d1c⟩⟩ := v1
  obtain ⟨vn0, vt0, ⟨d0a, d0n, d0c⟩⟩ := v0
  simp only at z0 z1 HX HY
  obtain ⟨xx, xcc, ex, f1, f2, f3⟩ := HX.out.sl
  simp only [Sl.v, Value.slice.injEq] at ex
  obtain ⟨rfl, rfl, rfl⟩ := ex
  have FX := hf.few
  have FY := hfy.few
  have Z0 := hide z0
  have Z1 := hide z1
  have RG := hn.int ⟨#[97, 120, 105, 115]⟩ 0 (by omega)
  clear hv z0 z1 hf hfy
  have NK := hide hn
  obtain ⟨op, nam, ⟨ia, il, ic⟩, out, ⟨ao, al, cap⟩⟩ := n
  unfold nval
  simp only
  obtain ⟨w0, hw0⟩ : ∃ w0, w0 = w.alloc (.cells #[.string op, .string nam, .slice ia il ic, .string out, .slice ao al cap] 25) := ⟨_, rfl⟩
  have g0 : Hid (w.grownBy w0 none) := by show w.grownBy w0 none; rw [hw0]; exact grown_new _ _
  have hb0 := heap_alloc_new w (.cells #[.string op, .string nam, .slice ia il ic, .string out, .slice ao al cap] 25)
  rw [← hw0] at hb0
  have BX : Hid (∀ wx, w0.grownBy wx none → wx.heap[w.heap.size]? = some (.cells #[.string op, .string nam, .slice ia il ic, .string out, .slice ao al cap] 25 (0, 0))) := fun wx hg => box_kept hb0 hg
  clear hb0 hn
  simp only at hop
  subst hop
  have z0 : (w.alloc (.cells #[.string ⟨#[71, 97, 116, 104, 101, 114]⟩, .string nam, .slice ia il ic, .string out, .slice ao al cap] 25)).cell? ⟨b, off + 2, none⟩ = some (.slice d0a x.length d0c) := cell_still Z0.out (grown_new _ _)
  have I0 := hide (nint_any ⟨⟨#[71, 97, 116, 104, 101, 114]⟩, nam, ⟨ia, il, ic⟩, out, ⟨ao, al, cap⟩⟩ A ⟨#[97, 120, 105, 115]⟩ 0 w0 (NK.out.more g0.out))
  unfold nval at I0
  simp only at I0
  obtain ⟨z, hz⟩ : ∃ z, z = A.int ⟨#[97, 120, 105, 115]⟩ 0 := ⟨_, rfl⟩
  rw [← hz] at I0 RG
  have E0 : Hid (gatherP A x y = (axisP z x.length).bind (fun a => .ok (x.take a ++ (y ++ x.drop (a + 1))))) := by show _ = _; rw [hz]; rfl
  have AO := hide (fun wx => axisof_any z x.length wx (by omega) RG.1)
  clear hz
  go_enter Tryz.func75, Tryz.ntmps75
  go_wp2_with fail
  rw [← hw0]
  clear hw0 z0
  refine I0.out.mono ?_
  rintro e w1 ⟨rfl, hg1⟩
  have G1 := hide (grown_trans g0.out hg1)
  clear hg1 I0
  cases hk : axisP z x.length with
  | error c =>
    rw [hk] at AO
    have E : Hid (gatherP A x y = .error c) := by show _ = _; rw [E0.out, hk]; rfl
    clear hk
    go_wp2_with (first | (go_at_call 117; refine (AO.out _).mono ?_; rintro e w' ⟨hg, rfl⟩) | fail)
    exact ⟨rfl, ended_err E.out (grown_trans G1.out hg)⟩
  | ok a =>
    rw [hk] at AO
    have E : Hid (gatherP A x y = .ok (x.take a ++ (y ++ x.drop (a + 1)))) := by show _ = _; rw [E0.out, hk]; rfl
    have hax : a < x.length := by
      unfold axisP at hk
      cases ha : axisO z x.length with
      | none => rw [ha] at hk; cases hk
      | some i => rw [ha] at hk; cases hk; exact axisO_lt ha
    clear hk
    obtain ⟨xb, xo, rfl, -⟩ := HX.out.get hax
    have k1 := cell_still Z1.out G1.out
    have a1 : a ≤ d0c := by omega
    have a2 : a + 1 ≤ x.length := by omega
    have a3 : (a : Int) ≤ (d0c : Int) := by omega
    have a4 : (a : Int) + 1 ≤ (x.length : Int) := by omega
    have a5 : (0 : Int) ≤ (a : Int) + 1 := by omega
    have a6 : IntKind.i64.wrap ((a : Int) + 1) = (a : Int) + 1 := by rw [wrap_i64_eq]; unfold wrap64; omega
    have a7 : ((a : Int) + 1).toNat = a + 1 := by omega
    have i1 : (1 : Int) < 2 := by decide
    have HF := hide (HX.out.front (k := a) (by omega))
    have HB := hide (HX.out.back (k := a + 1) (by omega))
    by_cases hu : d0c = a + 1
    · rw [if_pos hu] at HB
      have hxl : x.length - (a + 1) = 0 := by omega
      have hxl2 : d0c - (a + 1) = 0 := by omega
      rw [hxl, hxl2] at HB
      subst hu
      have a8 : (a : Int) ≤ (a : Int) + 1 := by omega
      have a9 : a ≤ a + 1 := by omega
      go_wp2_with (first | (go_at_call 117; refine (AO.out _).mono ?_; rintro e w' ⟨-, v, rfl, rfl, rfl⟩) | fail)
      have CC := hide (fun (wx : World) (B : Nat) (hg : w.grownBy wx none) (h0 : wx.cell? ⟨B, 0, none⟩ = some (.slice (some ⟨xb, xo, none⟩) a (a + 1))) (h1 : wx.cell? ⟨B, 1, none⟩ = some (.slice d1a d1n d1c)) (h2 : wx.cell? ⟨B, 2, none⟩ = some (.slice (some ⟨xb, xo, none⟩) (0) 0)) => concat_any B 3 3 [(⟨some ⟨xb, xo, none⟩, a, (a + 1)⟩, x.take a), (⟨d1a, d1n, d1c⟩, y), (⟨some ⟨xb, xo, none⟩, 0, 0⟩, x.drop (a + 1))] wx rfl (by decide) (by decide) (fun k hk => by match k, hk with | 0, _ => exact h0 | 1, _ => exact h1 | 2, _ => exact h2) (fun p hp => by simp at hp; rcases hp with rfl | rfl | rfl; exact HF.out.more hg; exact HY.out.more hg; exact HB.out.more hg) (by simp [flatK]; omega))
      go_region_held3 (fun w' => w'.cell? ⟨b, off + 3 + 2, none⟩ = some (.slice d1a d1n d1c)) (go_keep) (first | (go_at_call 118; refine (CC.out _ _ (by first | exact grown_drew (grown_trans G1.out (grown_new _ _)) | exact grown_trans (grown_drew G1.out) (grown_new _ _)) (by exact (cell_of_row _ _ 0 _ _ (0, 0) (heap_alloc_new w1 _)).trans rfl) (by exact (cell_of_row _ _ 1 _ _ (0, 0) (heap_alloc_new w1 _)).trans rfl) (by exact (cell_of_row _ _ 2 _ _ (0, 0) (heap_alloc_new w1 _)).trans rfl)).mono ?_; rintro e w2 ⟨⟨r1, r2, r3⟩, rfl, ho, hg2⟩; simp only; have g2 : w.grownBy w2 none := grown_trans (by first | exact grown_drew (grown_trans G1.out (grown_new _ _)) | exact grown_trans (grown_drew G1.out) (grown_new _ _)) hg2; have k2 := cell_still Z1.out g2) | fail)
      go_wp2
      go_ret
      exact ended_ok E.out g2 ⟨⟨r1, r2, r3⟩, rfl, by have h := ho.ints; simpa [flatK] using h⟩
    · rw [if_neg hu, Addr.add_lit] at HB
      go_wp2_with (first | (go_at_call 117; refine (AO.out _).mono ?_; rintro e w' ⟨-, v, rfl, rfl, rfl⟩) | fail)
      have CC := hide (fun (wx : World) (B : Nat) (hg : w.grownBy wx none) (h0 : wx.cell? ⟨B, 0, none⟩ = some (.slice (some ⟨xb, xo, none⟩) a d0c)) (h1 : wx.cell? ⟨B, 1, none⟩ = some (.slice d1a d1n d1c)) (h2 : wx.cell? ⟨B, 2, none⟩ = some (.slice (some ⟨xb, xo + (a + 1), none⟩) (x.length - (a + 1)) (d0c - (a + 1)))) => concat_any B 3 3 [(⟨some ⟨xb, xo, none⟩, a, d0c⟩, x.take a), (⟨d1a, d1n, d1c⟩, y), (⟨some ⟨xb, xo + (a + 1), none⟩, x.length - (a + 1), d0c - (a + 1)⟩, x.drop (a + 1))] wx rfl (by decide) (by decide) (fun k hk => by match k, hk with | 0, _ => exact h0 | 1, _ => exact h1 | 2, _ => exact h2) (fun p hp => by simp at hp; rcases hp with rfl | rfl | rfl; exact HF.out.more hg; exact HY.out.more hg; exact HB.out.more hg) (by simp [flatK]; omega))
      go_region_held3 (fun w' => w'.cell? ⟨b, off + 3 + 2, none⟩ = some (.slice d1a d1n d1c)) (go_keep) (first | (go_at_call 118; refine (CC.out _ _ (by first | exact grown_drew (grown_trans G1.out (grown_new _ _)) | exact grown_trans (grown_drew G1.out) (grown_new _ _)) (by exact (cell_of_row _ _ 0 _ _ (0, 0) (heap_alloc_new w1 _)).trans rfl) (by exact (cell_of_row _ _ 1 _ _ (0, 0) (heap_alloc_new w1 _)).trans rfl) (by exact (cell_of_row _ _ 2 _ _ (0, 0) (heap_alloc_new w1 _)).trans rfl)).mono ?_; rintro e w2 ⟨⟨r1, r2, r3⟩, rfl, ho, hg2⟩; simp only; have g2 : w.grownBy w2 none := grown_trans (by first | exact grown_drew (grown_trans G1.out (grown_new _ _)) | exact grown_trans (grown_drew G1.out) (grown_new _ _)) hg2; have k2 := cell_still Z1.out g2) | fail)
      go_wp2
      go_ret
      exact ended_ok E.out g2 ⟨⟨r1, r2, r3⟩, rfl, by have h := ho.ints; simpa [flatK] using h⟩
end Go.Proofs.YteigfipgmghgmaaGreatDoor
