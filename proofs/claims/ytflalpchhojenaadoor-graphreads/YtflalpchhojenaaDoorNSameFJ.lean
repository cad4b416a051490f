/- The same nodes, of any size (out of NSameN.lean). -/
import Derived.Test.YtflalpchhojenaaDoorNCopyFJ
namespace Go.Proofs.YtflalpchhojenaaDoor
open Go.RowKit

set_option maxRecDepth 100000 in
set_option maxHeartbeats 6400000 in
theorem samenode_eq0 (op nam out : ByteArray) (iv av jv bv : Sl) (ins : List ByteArray) (xs ys : List Atr) (cs : List Cont) (w : World) (h1 : NodeIn0 w ⟨op, nam, iv, out, av⟩ ins ys cs) (h2 : NodeIn0 w ⟨op, nam, jv, out, bv⟩ ins xs cs) (he : ys.map strip = xs.map strip) :
    Calls Tryd.prog 41 #[nval ⟨op, nam, iv, out, av⟩, nval ⟨op, nam, jv, out, bv⟩] w fun e w' => e = .returned (.bool true) ∧ w.grownBy w' none := by
  have H1 := hide h1
  have H2 := hide h2
  have HE := hide he
  have hyl : ys.length = xs.length := by have := congrArg List.length he; simpa using this
  obtain ⟨iva, ivc, ei, i1, i2, i3⟩ := h1.ins.form
  obtain ⟨jva, jvc, ej, j1, j2, j3⟩ := h2.ins.form
  obtain ⟨ava, avc, ea, a1, a2, a3⟩ := h1.av.form
  obtain ⟨bva, bvc, eb, b1, b2, b3⟩ := h2.av.form
  obtain ⟨xa, xn, xc⟩ := iv
  obtain ⟨ya, yn, yc⟩ := jv
  obtain ⟨za, zn, zc⟩ := av
  obtain ⟨ua, un, uc⟩ := bv
  simp only [Sl.v, Value.slice.injEq] at ei ej ea eb
  obtain ⟨rfl, rfl, rfl⟩ := ei
  obtain ⟨rfl, rfl, rfl⟩ := ej
  obtain ⟨rfl, rfl, rfl⟩ := ea
  obtain ⟨rfl, rfl, rfl⟩ := eb
  rw [hyl] at a1 a3 H1 ⊢
  clear h1 h2 he hyl
  unfold nval
  simp only
  obtain ⟨w0, hw0⟩ : ∃ w0, w0 = (w.alloc (.cells #[.string op, .string nam, .slice xa ins.length xc, .string out, .slice za xs.length zc] 42)).alloc (.cells #[.string op, .string nam, .slice ya ins.length yc, .string out, .slice ua xs.length uc] 42) := ⟨_, rfl⟩
  have g0 : w.grownBy w0 none := by rw [hw0]; exact grown_trans (grown_new _ _) (grown_new _ _)
  have hbx := two_boxes w (.cells #[.string op, .string nam, .slice xa ins.length xc, .string out, .slice za xs.length zc] 42) (.cells #[.string op, .string nam, .slice ya ins.length yc, .string out, .slice ua xs.length uc] 42)
  have hbx0 := hbx
  rw [← hw0] at hbx
  have B1 : Hid (∀ wx, w0.grownBy wx none → wx.heap[w.heap.size]? = some (.cells #[.string op, .string nam, .slice xa ins.length xc, .string out, .slice za xs.length zc] 42 (0, 0))) := fun wx hg => box_kept hbx.1 hg
  have B2 : Hid (∀ wx, w0.grownBy wx none → wx.heap[w.heap.size + 1]? = some (.cells #[.string op, .string nam, .slice ya ins.length yc, .string out, .slice ua xs.length uc] 42 (0, 0))) := fun wx hg => box_kept hbx.2 hg
  obtain ⟨n0, n1, n2, n3, n4⟩ := nod_cells (n := ⟨op, nam, ⟨xa, ins.length, xc⟩, out, ⟨za, xs.length, zc⟩⟩) hbx0.1
  obtain ⟨m0, m1, m2, m3, m4⟩ := nod_cells (n := ⟨op, nam, ⟨ya, ins.length, yc⟩, out, ⟨ua, xs.length, uc⟩⟩) hbx0.2
  clear hbx hbx0
  go_enter Tryd.func41, Tryd.ntmps41
  go_wp2_with fail
  rw [← hw0]
  clear hw0 n0 n1 n2 n3 n4 m0 m1 m2 m3 m4
  go_loopw [5] (fun i wr => w0.grownBy wr none ∧ ∃ k : Nat, k ≤ ins.length ∧ i = .int .i64 k) (fun i _ => ins.length - (intOf i).toNat)
  case atStart => exact ⟨grown_refl _, 0, Nat.zero_le _, rfl⟩
  case round =>
    obtain ⟨hg, k, hk, rfl⟩ := hrel
    obtain ⟨n0, n1, n2, n3, n4⟩ := nod_cells (n := ⟨op, nam, ⟨xa, ins.length, xc⟩, out, ⟨za, xs.length, zc⟩⟩) (B1.out wr hg)
    obtain ⟨m0, m1, m2, m3, m4⟩ := nod_cells (n := ⟨op, nam, ⟨ya, ins.length, yc⟩, out, ⟨ua, xs.length, uc⟩⟩) (B2.out wr hg)
    simp only at n2 n4 m2 m4
    by_cases hlt : k < ins.length
    · have I1 := H1.out.ins.more (grown_trans g0 hg)
      have I2 := H2.out.ins.more (grown_trans g0 hg)
      obtain ⟨ub, uo, rfl⟩ := I1.addr hlt
      obtain ⟨vb, vo, rfl⟩ := I2.addr hlt
      have x0 := str_at I1 k hlt
      have y0 := str_at I2 k hlt
      obtain ⟨X, hX⟩ : ∃ X, X = ins[k] := ⟨_, rfl⟩
      rw [← hX] at x0 y0
      clear hX I1 I2
      go_wp2
      go_region
      all_goals
        go_wp2
        go_roundw
        case rel => exact ⟨grown_drew hg, k + 1, by omega, by go_num⟩
        case measure => simp [intOf]; omega
    · obtain ⟨wo, rfl⟩ : ∃ wo, wo = wr := ⟨_, rfl⟩
      go_wp2_with fail
      clear n0 n1 n2 n3 n4 m0 m1 m2 m3 m4
      go_loopw [6] (fun i wr => w0.grownBy wr none ∧ ∃ k : Nat, k ≤ xs.length ∧ i = .int .i64 k) (fun i _ => xs.length - (intOf i).toNat)
      case atStart => exact ⟨hg, 0, Nat.zero_le _, rfl⟩
      case round =>
        obtain ⟨hg, k, hk, rfl⟩ := hrel
        obtain ⟨n0, n1, n2, n3, n4⟩ := nod_cells (n := ⟨op, nam, ⟨xa, ins.length, xc⟩, out, ⟨za, xs.length, zc⟩⟩) (B1.out wr hg)
        obtain ⟨m0, m1, m2, m3, m4⟩ := nod_cells (n := ⟨op, nam, ⟨ya, ins.length, yc⟩, out, ⟨ua, xs.length, uc⟩⟩) (B2.out wr hg)
        simp only at n2 n4 m2 m4
        by_cases hlt : k < xs.length
        · have A1 := H1.out.av.more (grown_trans g0 hg)
          have A2 := H2.out.av.more (grown_trans g0 hg)
          have hyk : k < ys.length := by have := congrArg List.length HE.out; simp at this; omega
          obtain ⟨ub, uo, rfl⟩ := A1.addr hyk
          obtain ⟨vb, vo, rfl⟩ := A2.addr hlt
          obtain ⟨p0, p1, p2, p3, p4, p5, p6, p7, p8⟩ := A1.attr k hyk
          obtain ⟨q0, q1, q2, q3, q4, q5, q6, q7, q8⟩ := A2.attr k hlt
          obtain ⟨c, hc, hc1⟩ := H1.out.has k ys[k] (List.getElem?_eq_getElem hyk)
          obtain ⟨c', hc', hc2⟩ := H2.out.has k xs[k] (List.getElem?_eq_getElem hlt)
          obtain rfl : c = c' := Option.some.inj (hc.symm.trans hc')
          have hst : strip ys[k] = strip xs[k] := by
            have h := congrArg (fun l : List Atr => l[k]?) HE.out
            simp only [List.getElem?_map, List.getElem?_eq_getElem hyk, List.getElem?_eq_getElem hlt, Option.map_some, Option.some.injEq] at h
            exact h
          have SA := hide (sameattr_eq ys[k] xs[k] c wr.drew hst (hc1.more (grown_trans g0 (grown_drew hg))) (hc2.more (grown_trans g0 (grown_drew hg))))
          obtain ⟨A, hA⟩ : ∃ A, A = ys[k] := ⟨_, rfl⟩
          obtain ⟨D, hD⟩ : ∃ D, D = xs[k] := ⟨_, rfl⟩
          rw [← hA] at p0 p1 p2 p3 p4 p5 p6 p7 p8 SA
          rw [← hD] at q0 q1 q2 q3 q4 q5 q6 q7 q8 SA
          unfold aval at SA
          clear A1 A2 hA hD hc hc' hc1 hc2 hst
          go_wp2_with fail
          go_region_held3 (fun w' => w'.cell? ⟨w.heap.size, 4, none⟩ = some (.slice (some ⟨ub, uo, none⟩) xs.length zc) ∧ w'.cell? ⟨w.heap.size + 1, 4, none⟩ = some (.slice (some ⟨vb, vo, none⟩) xs.length uc) ∧ w'.cell? ⟨ub, uo + k * 9, none⟩ = some (.string A.name) ∧ w'.cell? ⟨ub, uo + k * 9 + 1, none⟩ = some (.int .i64 A.kind) ∧ w'.cell? ⟨ub, uo + k * 9 + 2, none⟩ = some (.int .i64 A.f) ∧ w'.cell? ⟨ub, uo + k * 9 + 3, none⟩ = some (.int .i64 A.i) ∧ w'.cell? ⟨ub, uo + k * 9 + 4, none⟩ = some (.string A.s) ∧ w'.cell? ⟨ub, uo + k * 9 + 5, none⟩ = some (.int .i64 A.ty) ∧ w'.cell? ⟨ub, uo + k * 9 + 6, none⟩ = some (.slice A.dv.a A.dv.n A.dv.c) ∧ w'.cell? ⟨ub, uo + k * 9 + 7, none⟩ = some (.slice A.tv.a A.tv.n A.tv.c) ∧ w'.cell? ⟨ub, uo + k * 9 + 8, none⟩ = some (.slice A.iv.a A.iv.n A.iv.c) ∧ w'.cell? ⟨vb, vo + k * 9, none⟩ = some (.string D.name) ∧ w'.cell? ⟨vb, vo + k * 9 + 1, none⟩ = some (.int .i64 D.kind) ∧ w'.cell? ⟨vb, vo + k * 9 + 2, none⟩ = some (.int .i64 D.f) ∧ w'.cell? ⟨vb, vo + k * 9 + 3, none⟩ = some (.int .i64 D.i) ∧ w'.cell? ⟨vb, vo + k * 9 + 4, none⟩ = some (.string D.s) ∧ w'.cell? ⟨vb, vo + k * 9 + 5, none⟩ = some (.int .i64 D.ty) ∧ w'.cell? ⟨vb, vo + k * 9 + 6, none⟩ = some (.slice D.dv.a D.dv.n D.dv.c) ∧ w'.cell? ⟨vb, vo + k * 9 + 7, none⟩ = some (.slice D.tv.a D.tv.n D.tv.c) ∧ w'.cell? ⟨vb, vo + k * 9 + 8, none⟩ = some (.slice D.iv.a D.iv.n D.iv.c)) (go_keep) (first | (go_at_call 55; refine SA.out.mono ?_; rintro e w3 ⟨rfl, hg3⟩; have g3 := grown_trans (grown_drew hg) hg3; have gk : wr.grownBy w3 none := grown_trans (grown_drew (grown_refl wr)) hg3; have p0 := cell_still p0 gk; have p1 := cell_still p1 gk; have p2 := cell_still p2 gk; have p3 := cell_still p3 gk; have p4 := cell_still p4 gk; have p5 := cell_still p5 gk; have p6 := cell_still p6 gk; have p7 := cell_still p7 gk; have p8 := cell_still p8 gk; have q0 := cell_still q0 gk; have q1 := cell_still q1 gk; have q2 := cell_still q2 gk; have q3 := cell_still q3 gk; have q4 := cell_still q4 gk; have q5 := cell_still q5 gk; have q6 := cell_still q6 gk; have q7 := cell_still q7 gk; have q8 := cell_still q8 gk; obtain ⟨-, -, -, -, n4⟩ := nod_cells (n := ⟨op, nam, ⟨xa, ins.length, xc⟩, out, ⟨some ⟨ub, uo, none⟩, xs.length, zc⟩⟩) (B1.out w3 g3); obtain ⟨-, -, -, -, m4⟩ := nod_cells (n := ⟨op, nam, ⟨ya, ins.length, yc⟩, out, ⟨some ⟨vb, vo, none⟩, xs.length, uc⟩⟩) (B2.out w3 g3)))
          all_goals
            go_wp2
            go_roundw
            case rel => exact ⟨g3, k + 1, by omega, by go_num⟩
            case measure => simp [intOf]; omega
        · go_wp2
          go_ret
          exact ⟨rfl, grown_trans g0 hg⟩
end Go.Proofs.YtflalpchhojenaaDoor
