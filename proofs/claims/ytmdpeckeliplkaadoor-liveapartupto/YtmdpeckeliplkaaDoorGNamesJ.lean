/- The names of a graph's values and outputs, by the walk (mkGNames.py). -/
import Derived.Test.YtmdpeckeliplkaaDoorPartF
namespace Go.Proofs.YtmdpeckeliplkaaDoor
open Go.RowKit

theorem owns_snocS {w : World} {base : Nat} {v : Value} {L : List ByteArray} {x : ByteArray} (h : w.ownsRow base 9 1 v (L.length + 1) (L.flatMap scell ++ [.string x])) : OwnsS w base v (L ++ [x]) := by
  unfold OwnsS OwnsL
  rw [List.length_append, List.flatMap_append]
  exact h

set_option maxRecDepth 100000 in
set_option maxHeartbeats 6400000 in
theorem valuenames_any (g : Gra) (nds : List Nod) (vin vout : List Val) (its : List Nam) (w : World) (h1 : IsNods w g.nv.v nds) (h2 : IsVals w g.iv.v vin) (h3 : IsVals w g.ov.v vout) (h4 : IsNams w g.tv.v its) (hf : nds.length ≤ 1048576 ∧ vin.length ≤ 1048576 ∧ vout.length ≤ 1048576 ∧ its.length ≤ 1048576) :
    Calls Tryd.prog 55 #[gval g] w fun e w' => ∃ u : Sl, e = .returned u.v ∧ OwnsS w' w.heap.size u.v (vin.map (·.name) ++ its.map (·.name) ++ nds.map (·.out)) ∧ w.grownBy w' none := by
  obtain ⟨i0, hi, hz0, hz1, hz2⟩ := info_parts infoStr
  obtain ⟨nam, ⟨na0, nn, nc0⟩, ⟨ia, iN, ic⟩, ⟨oa, oN, oc⟩, ⟨ta, tN, tc⟩⟩ := g
  have H1 := hide h1
  have H2 := hide h2
  have H3 := hide h3
  have H4 := hide h4
  obtain ⟨xa, xc, e1, p1, p2, p3⟩ := h1.form
  obtain ⟨rfl, rfl, rfl⟩ : na0 = xa ∧ nn = nds.length ∧ nc0 = xc := by simpa [Sl.v] using e1
  obtain ⟨ya, yc, e2, p4, p5, p6⟩ := h2.form
  obtain ⟨rfl, rfl, rfl⟩ : ia = ya ∧ iN = vin.length ∧ ic = yc := by simpa [Sl.v] using e2
  obtain ⟨za, zc, e3, p7, p8, p9⟩ := h3.form
  obtain ⟨rfl, rfl, rfl⟩ : oa = za ∧ oN = vout.length ∧ oc = zc := by simpa [Sl.v] using e3
  obtain ⟨qa, qc, e4, p10, p11, p12⟩ := h4.form
  obtain ⟨rfl, rfl, rfl⟩ : ta = qa ∧ tN = its.length ∧ tc = qc := by simpa [Sl.v] using e4
  obtain ⟨f1, f2, f3, f4⟩ := hf
  clear h1 h2 h3 h4 e1 e2 e3 e4
  unfold gval
  simp only
  obtain ⟨w0, hw0⟩ : ∃ w0, w0 = w.alloc (.cells #[.string nam, .slice na0 nds.length nc0, .slice ia vin.length ic, .slice oa vout.length oc, .slice ta its.length tc] 26) := ⟨_, rfl⟩
  have g0 : w.grownBy w0 none := by rw [hw0]; exact grown_new _ _
  have b0 := heap_alloc_new w (.cells #[.string nam, .slice na0 nds.length nc0, .slice ia vin.length ic, .slice oa vout.length oc, .slice ta its.length tc] 26)
  obtain ⟨r0, r1, r2, r3, r4⟩ := gra_cells (g := ⟨nam, ⟨na0, nds.length, nc0⟩, ⟨ia, vin.length, ic⟩, ⟨oa, vout.length, oc⟩, ⟨ta, its.length, tc⟩⟩) b0
  rw [← hw0] at b0
  have BX : Hid (∀ wx, w0.grownBy wx none → wx.heap[w.heap.size]? = some (.cells #[.string nam, .slice na0 nds.length nc0, .slice ia vin.length ic, .slice oa vout.length oc, .slice ta its.length tc] 26 (0, 0))) := fun wx hx => box_kept b0 hx
  clear b0
  go_enter Tryd.func55, Tryd.ntmps55
  go_wp2_with fail
  rw [← hw0]
  clear hw0 r0 r1 r2 r3 r4
  go_loopw [3, 13] (fun l i wr => w0.grownBy wr none ∧ ∃ k : Nat, k ≤ vin.length ∧ i = .int .i64 k ∧ OwnsS wr w0.heap.size l ((vin.take k).map (·.name))) (fun _ i _ => vin.length - (intOf i).toNat)
  case atStart => exact ⟨grown_refl _, 0, Nat.zero_le _, rfl, OwnsL.nil ..⟩
  case round =>
    obtain ⟨hg, k, hk, rfl, hown⟩ := hrel
    obtain ⟨L, hL⟩ : ∃ L, L = (vin.take k).map (·.name) := ⟨_, rfl⟩
    rw [← hL] at hown
    have HL := hide hL
    have hlen : L.length ≤ 4194304 := by rw [hL]; simp; omega
    have HO := hide hown
    obtain ⟨va, vc, rfl⟩ := OwnsL.form hown
    clear hown hL
    by_cases hlt : k < vin.length
    · have HLk := H2.out.more (grown_trans g0 hg)
      obtain ⟨b, off, rfl⟩ := HLk.addr hlt
      obtain ⟨a0, a1, a2⟩ := HLk.val k hlt
      have HK : Hid (vin[k]? = some vin[k]) := List.getElem?_eq_getElem hlt
      obtain ⟨A, hA⟩ : ∃ A, A = vin[k] := ⟨_, rfl⟩
      rw [← hA] at a0 a1 a2 HK
      clear HLk hA
      have OW : Hid (∀ o o', OwnsS ((wr.alloc o).alloc o') w0.heap.size (.slice va _ vc) L) := fun o o' => (HO.out.more (grown_new _ _)).more (grown_new _ _)
      have hsz := hg.size
      go_wp2_with (at_builtin; refine wpList_append_own _ rfl (.tmp 17) (.tmp 20) 49 rfl w0.heap.size 9 i0 (.string ⟨#[]⟩) 1 16 Tryd.underlying49 hi hz0 hz1 hz2 rfl (by decide) _ _ _ rfl (by exact OW.out _ _) ⟨wr.heap.size + 1, 0, none⟩ 1 1 [.string A.name] rfl rfl (by have h := cell_one_new (wr.alloc (.cells #[.string A.name, .int .i64 A.ty, .slice A.dv.a A.dv.n A.dv.c] 42)) (Value.string A.name) 9; simpa using h) (by simp [Value.oneCell']) (by simp only [maxLen]; omega) (by omega) (by simp; omega) ?_; intro v' w8 hown' hgrow _; obtain ⟨na, nc, rfl⟩ := own_form hown')
      have ST : Hid (w0.grownBy w8 none ∧ OwnsS w8 w0.heap.size (.slice na (L.length + 1) nc) ((vin.take (k + 1)).map (·.name))) := by
        refine ⟨grown_trans_row (grown_trans (grown_trans hg (grown_new wr (.cells #[.string A.name, .int .i64 A.ty, .slice A.dv.a A.dv.n A.dv.c] 42))) (grown_new _ (.cells #[.string A.name] 9))) hgrow (fun r e => (World.ownsRow.lt HO.out r e).1), ?_⟩
        have e : (vin.take (k + 1)).map (·.name) = L ++ [A.name] := by
          rw [HL.out, List.take_add_one, HK.out]
          simp
        rw [e]
        exact owns_snocS hown'
      clear hown' hgrow
      go_roundw
      case rel => exact ⟨ST.out.1, k + 1, by omega, by go_num, ST.out.2⟩
      case measure => simp [intOf]; omega
    · obtain rfl : k = vin.length := by omega
      obtain rfl := HL.out
      rw [List.take_of_length_le (Nat.le_refl _)] at HO
      rw [List.take_of_length_le (Nat.le_refl _)]
      obtain ⟨wp, rfl⟩ : ∃ wp, wp = wr := ⟨_, rfl⟩
      obtain ⟨r0, r1, r2, r3, r4⟩ := gra_cells (g := ⟨nam, ⟨na0, nds.length, nc0⟩, ⟨ia, vin.length, ic⟩, ⟨oa, vout.length, oc⟩, ⟨ta, its.length, tc⟩⟩) (BX.out wp hg)
      go_wp2_with fail
      clear r0 r1 r2 r3 r4
      go_loopw [3, 26] (fun l i wr => w0.grownBy wr none ∧ ∃ k : Nat, k ≤ its.length ∧ i = .int .i64 k ∧ OwnsS wr w0.heap.size l (vin.map (·.name) ++ (its.take k).map (·.name))) (fun _ i _ => its.length - (intOf i).toNat)
      case atStart => exact ⟨hg, 0, Nat.zero_le _, rfl, by simpa using HO.out⟩
      case round =>
        obtain ⟨hg, k, hk, rfl, hown⟩ := hrel
        obtain ⟨L, hL⟩ : ∃ L, L = vin.map (·.name) ++ (its.take k).map (·.name) := ⟨_, rfl⟩
        rw [← hL] at hown
        have HL := hide hL
        have hlen : L.length ≤ 4194304 := by rw [hL]; simp; omega
        have HO := hide hown
        obtain ⟨va, vc, rfl⟩ := OwnsL.form hown
        clear hown hL
        by_cases hlt : k < its.length
        · have HLk := H4.out.more (grown_trans g0 hg)
          obtain ⟨b, off, rfl⟩ := HLk.addr hlt
          obtain ⟨a0, a1, a2, a3⟩ := HLk.nam k hlt
          have HK : Hid (its[k]? = some its[k]) := List.getElem?_eq_getElem hlt
          obtain ⟨A, hA⟩ : ∃ A, A = its[k] := ⟨_, rfl⟩
          rw [← hA] at a0 a1 a2 a3 HK
          clear HLk hA
          have OW : Hid (∀ o o', OwnsS ((wr.alloc o).alloc o') w0.heap.size (.slice va _ vc) L) := fun o o' => (HO.out.more (grown_new _ _)).more (grown_new _ _)
          have hsz := hg.size
          go_wp2_with (at_builtin; refine wpList_append_own _ rfl (.tmp 30) (.tmp 33) 49 rfl w0.heap.size 9 i0 (.string ⟨#[]⟩) 1 16 Tryd.underlying49 hi hz0 hz1 hz2 rfl (by decide) _ _ _ rfl (by exact OW.out _ _) ⟨wr.heap.size + 1, 0, none⟩ 1 1 [.string A.name] rfl rfl (by have h := cell_one_new (wr.alloc (.cells #[.string A.name, .int .i64 A.ty, .slice A.dv.a A.dv.n A.dv.c, .slice A.tv.a A.tv.n A.tv.c] 59)) (Value.string A.name) 9; simpa using h) (by simp [Value.oneCell']) (by simp only [maxLen]; omega) (by omega) (by simp; omega) ?_; intro v' w8 hown' hgrow _; obtain ⟨na, nc, rfl⟩ := own_form hown')
          have ST : Hid (w0.grownBy w8 none ∧ OwnsS w8 w0.heap.size (.slice na (L.length + 1) nc) (vin.map (·.name) ++ (its.take (k + 1)).map (·.name))) := by
            refine ⟨grown_trans_row (grown_trans (grown_trans hg (grown_new wr (.cells #[.string A.name, .int .i64 A.ty, .slice A.dv.a A.dv.n A.dv.c, .slice A.tv.a A.tv.n A.tv.c] 59))) (grown_new _ (.cells #[.string A.name] 9))) hgrow (fun r e => (World.ownsRow.lt HO.out r e).1), ?_⟩
            have e : vin.map (·.name) ++ (its.take (k + 1)).map (·.name) = L ++ [A.name] := by
              rw [HL.out, List.take_add_one, HK.out]
              simp
            rw [e]
            exact owns_snocS hown'
          clear hown' hgrow
          go_roundw
          case rel => exact ⟨ST.out.1, k + 1, by omega, by go_num, ST.out.2⟩
          case measure => simp [intOf]; omega
        · obtain rfl : k = its.length := by omega
          obtain rfl := HL.out
          rw [List.take_of_length_le (Nat.le_refl _)] at HO
          rw [List.take_of_length_le (Nat.le_refl _)]
          obtain ⟨wp, rfl⟩ : ∃ wp, wp = wr := ⟨_, rfl⟩
          obtain ⟨r0, r1, r2, r3, r4⟩ := gra_cells (g := ⟨nam, ⟨na0, nds.length, nc0⟩, ⟨ia, vin.length, ic⟩, ⟨oa, vout.length, oc⟩, ⟨ta, its.length, tc⟩⟩) (BX.out wp hg)
          go_wp2_with fail
          clear r0 r1 r2 r3 r4
          go_loopw [3, 39] (fun l i wr => w0.grownBy wr none ∧ ∃ k : Nat, k ≤ nds.length ∧ i = .int .i64 k ∧ OwnsS wr w0.heap.size l (vin.map (·.name) ++ its.map (·.name) ++ (nds.take k).map (·.out))) (fun _ i _ => nds.length - (intOf i).toNat)
          case atStart => exact ⟨hg, 0, Nat.zero_le _, rfl, by simpa using HO.out⟩
          case round =>
            obtain ⟨hg, k, hk, rfl, hown⟩ := hrel
            obtain ⟨L, hL⟩ : ∃ L, L = vin.map (·.name) ++ its.map (·.name) ++ (nds.take k).map (·.out) := ⟨_, rfl⟩
            rw [← hL] at hown
            have HL := hide hL
            have hlen : L.length ≤ 4194304 := by rw [hL]; simp; omega
            have HO := hide hown
            obtain ⟨va, vc, rfl⟩ := OwnsL.form hown
            clear hown hL
            by_cases hlt : k < nds.length
            · have HLk := H1.out.more (grown_trans g0 hg)
              obtain ⟨b, off, rfl⟩ := HLk.addr hlt
              obtain ⟨a0, a1, a2, a3, a4⟩ := HLk.nod k hlt
              have HK : Hid (nds[k]? = some nds[k]) := List.getElem?_eq_getElem hlt
              obtain ⟨A, hA⟩ : ∃ A, A = nds[k] := ⟨_, rfl⟩
              rw [← hA] at a0 a1 a2 a3 a4 HK
              clear HLk hA
              have OW : Hid (∀ o o', OwnsS ((wr.alloc o).alloc o') w0.heap.size (.slice va _ vc) L) := fun o o' => (HO.out.more (grown_new _ _)).more (grown_new _ _)
              have hsz := hg.size
              go_wp2_with (at_builtin; refine wpList_append_own _ rfl (.tmp 43) (.tmp 46) 49 rfl w0.heap.size 9 i0 (.string ⟨#[]⟩) 1 16 Tryd.underlying49 hi hz0 hz1 hz2 rfl (by decide) _ _ _ rfl (by exact OW.out _ _) ⟨wr.heap.size + 1, 0, none⟩ 1 1 [.string A.out] rfl rfl (by have h := cell_one_new (wr.alloc (.cells #[.string A.op, .string A.name, .slice A.iv.a A.iv.n A.iv.c, .string A.out, .slice A.av.a A.av.n A.av.c] 52)) (Value.string A.out) 9; simpa using h) (by simp [Value.oneCell']) (by simp only [maxLen]; omega) (by omega) (by simp; omega) ?_; intro v' w8 hown' hgrow _; obtain ⟨na, nc, rfl⟩ := own_form hown')
              have ST : Hid (w0.grownBy w8 none ∧ OwnsS w8 w0.heap.size (.slice na (L.length + 1) nc) (vin.map (·.name) ++ its.map (·.name) ++ (nds.take (k + 1)).map (·.out))) := by
                refine ⟨grown_trans_row (grown_trans (grown_trans hg (grown_new wr (.cells #[.string A.op, .string A.name, .slice A.iv.a A.iv.n A.iv.c, .string A.out, .slice A.av.a A.av.n A.av.c] 52))) (grown_new _ (.cells #[.string A.out] 9))) hgrow (fun r e => (World.ownsRow.lt HO.out r e).1), ?_⟩
                have e : vin.map (·.name) ++ its.map (·.name) ++ (nds.take (k + 1)).map (·.out) = L ++ [A.out] := by
                  rw [HL.out, List.take_add_one, HK.out]
                  simp
                rw [e]
                exact owns_snocS hown'
              clear hown' hgrow
              go_roundw
              case rel => exact ⟨ST.out.1, k + 1, by omega, by go_num, ST.out.2⟩
              case measure => simp [intOf]; omega
            · obtain rfl : k = nds.length := by omega
              go_wp2
              go_ret
              refine ⟨⟨va, L.length, vc⟩, rfl, ?_, grown_trans g0 hg⟩
              have h := HO.out.base_le (show w.heap.size ≤ w0.heap.size from g0.size)
              have e := HL.out
              rw [List.take_of_length_le (Nat.le_refl _)] at e
              subst e
              simpa [Sl.v] using h

set_option maxRecDepth 100000 in
set_option maxHeartbeats 6400000 in
theorem outputnames_any (g : Gra) (nds : List Nod) (vin vout : List Val) (its : List Nam) (w : World) (h1 : IsNods w g.nv.v nds) (h2 : IsVals w g.iv.v vin) (h3 : IsVals w g.ov.v vout) (h4 : IsNams w g.tv.v its) (hf : nds.length ≤ 1048576 ∧ vin.length ≤ 1048576 ∧ vout.length ≤ 1048576 ∧ its.length ≤ 1048576) :
    Calls Tryd.prog 67 #[gval g] w fun e w' => ∃ u : Sl, e = .returned u.v ∧ OwnsS w' w.heap.size u.v (vout.map (·.name)) ∧ w.grownBy w' none := by
  obtain ⟨i0, hi, hz0, hz1, hz2⟩ := info_parts infoStr
  obtain ⟨nam, ⟨na0, nn, nc0⟩, ⟨ia, iN, ic⟩, ⟨oa, oN, oc⟩, ⟨ta, tN, tc⟩⟩ := g
  have H1 := hide h1
  have H2 := hide h2
  have H3 := hide h3
  have H4 := hide h4
  obtain ⟨xa, xc, e1, p1, p2, p3⟩ := h1.form
  obtain ⟨rfl, rfl, rfl⟩ : na0 = xa ∧ nn = nds.length ∧ nc0 = xc := by simpa [Sl.v] using e1
  obtain ⟨ya, yc, e2, p4, p5, p6⟩ := h2.form
  obtain ⟨rfl, rfl, rfl⟩ : ia = ya ∧ iN = vin.length ∧ ic = yc := by simpa [Sl.v] using e2
  obtain ⟨za, zc, e3, p7, p8, p9⟩ := h3.form
  obtain ⟨rfl, rfl, rfl⟩ : oa = za ∧ oN = vout.length ∧ oc = zc := by simpa [Sl.v] using e3
  obtain ⟨qa, qc, e4, p10, p11, p12⟩ := h4.form
  obtain ⟨rfl, rfl, rfl⟩ : ta = qa ∧ tN = its.length ∧ tc = qc := by simpa [Sl.v] using e4
  obtain ⟨f1, f2, f3, f4⟩ := hf
  clear h1 h2 h3 h4 e1 e2 e3 e4
  unfold gval
  simp only
  obtain ⟨w0, hw0⟩ : ∃ w0, w0 = w.alloc (.cells #[.string nam, .slice na0 nds.length nc0, .slice ia vin.length ic, .slice oa vout.length oc, .slice ta its.length tc] 26) := ⟨_, rfl⟩
  have g0 : w.grownBy w0 none := by rw [hw0]; exact grown_new _ _
  have b0 := heap_alloc_new w (.cells #[.string nam, .slice na0 nds.length nc0, .slice ia vin.length ic, .slice oa vout.length oc, .slice ta its.length tc] 26)
  obtain ⟨r0, r1, r2, r3, r4⟩ := gra_cells (g := ⟨nam, ⟨na0, nds.length, nc0⟩, ⟨ia, vin.length, ic⟩, ⟨oa, vout.length, oc⟩, ⟨ta, its.length, tc⟩⟩) b0
  rw [← hw0] at b0
  have BX : Hid (∀ wx, w0.grownBy wx none → wx.heap[w.heap.size]? = some (.cells #[.string nam, .slice na0 nds.length nc0, .slice ia vin.length ic, .slice oa vout.length oc, .slice ta its.length tc] 26 (0, 0))) := fun wx hx => box_kept b0 hx
  clear b0
  go_enter Tryd.func67, Tryd.ntmps67
  go_wp2_with fail
  rw [← hw0]
  clear hw0 r0 r1 r2 r3 r4
  go_loopw [3, 9] (fun l i wr => w0.grownBy wr none ∧ ∃ k : Nat, k ≤ vout.length ∧ i = .int .i64 k ∧ OwnsS wr w0.heap.size l ((vout.take k).map (·.name))) (fun _ i _ => vout.length - (intOf i).toNat)
  case atStart => exact ⟨grown_refl _, 0, Nat.zero_le _, rfl, OwnsL.nil ..⟩
  case round =>
    obtain ⟨hg, k, hk, rfl, hown⟩ := hrel
    obtain ⟨L, hL⟩ : ∃ L, L = (vout.take k).map (·.name) := ⟨_, rfl⟩
    rw [← hL] at hown
    have HL := hide hL
    have hlen : L.length ≤ 4194304 := by rw [hL]; simp; omega
    have HO := hide hown
    obtain ⟨va, vc, rfl⟩ := OwnsL.form hown
    clear hown hL
    by_cases hlt : k < vout.length
    · have HLk := H3.out.more (grown_trans g0 hg)
      obtain ⟨b, off, rfl⟩ := HLk.addr hlt
      obtain ⟨a0, a1, a2⟩ := HLk.val k hlt
      have HK : Hid (vout[k]? = some vout[k]) := List.getElem?_eq_getElem hlt
      obtain ⟨A, hA⟩ : ∃ A, A = vout[k] := ⟨_, rfl⟩
      rw [← hA] at a0 a1 a2 HK
      clear HLk hA
      have OW : Hid (∀ o o', OwnsS ((wr.alloc o).alloc o') w0.heap.size (.slice va _ vc) L) := fun o o' => (HO.out.more (grown_new _ _)).more (grown_new _ _)
      have hsz := hg.size
      go_wp2_with (at_builtin; refine wpList_append_own _ rfl (.tmp 13) (.tmp 16) 49 rfl w0.heap.size 9 i0 (.string ⟨#[]⟩) 1 16 Tryd.underlying49 hi hz0 hz1 hz2 rfl (by decide) _ _ _ rfl (by exact OW.out _ _) ⟨wr.heap.size + 1, 0, none⟩ 1 1 [.string A.name] rfl rfl (by have h := cell_one_new (wr.alloc (.cells #[.string A.name, .int .i64 A.ty, .slice A.dv.a A.dv.n A.dv.c] 42)) (Value.string A.name) 9; simpa using h) (by simp [Value.oneCell']) (by simp only [maxLen]; omega) (by omega) (by simp; omega) ?_; intro v' w8 hown' hgrow _; obtain ⟨na, nc, rfl⟩ := own_form hown')
      have ST : Hid (w0.grownBy w8 none ∧ OwnsS w8 w0.heap.size (.slice na (L.length + 1) nc) ((vout.take (k + 1)).map (·.name))) := by
        refine ⟨grown_trans_row (grown_trans (grown_trans hg (grown_new wr (.cells #[.string A.name, .int .i64 A.ty, .slice A.dv.a A.dv.n A.dv.c] 42))) (grown_new _ (.cells #[.string A.name] 9))) hgrow (fun r e => (World.ownsRow.lt HO.out r e).1), ?_⟩
        have e : (vout.take (k + 1)).map (·.name) = L ++ [A.name] := by
          rw [HL.out, List.take_add_one, HK.out]
          simp
        rw [e]
        exact owns_snocS hown'
      clear hown' hgrow
      go_roundw
      case rel => exact ⟨ST.out.1, k + 1, by omega, by go_num, ST.out.2⟩
      case measure => simp [intOf]; omega
    · obtain rfl : k = vout.length := by omega
      go_wp2
      go_ret
      refine ⟨⟨va, L.length, vc⟩, rfl, ?_, grown_trans g0 hg⟩
      have h := HO.out.base_le (show w.heap.size ≤ w0.heap.size from g0.size)
      have e := HL.out
      rw [List.take_of_length_le (Nat.le_refl _)] at e
      subst e
      simpa [Sl.v] using h
end Go.Proofs.YtmdpeckeliplkaaDoor
