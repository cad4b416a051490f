/- The document's readers, by the walk. -/
import Derived.Test.YtflalpchhojenaaDoorPartE
namespace Go.Proofs.YtflalpchhojenaaDoor
open Go.RowKit

set_option maxRecDepth 100000 in
set_option maxHeartbeats 1600000 in
theorem gamong_any (x : ByteArray) (v : Value) (xs : List ByteArray) (w : World) (hv : IsStrs w v xs) :
    Calls Tryd.prog 39 #[.string x, v] w fun e w' => e = .returned (.bool (xs.any (isS x))) ∧ w.grownBy w' none := by
  have HV := hide hv
  obtain ⟨va, vc, rfl, h1, h2, h3⟩ := hv.form
  clear hv
  go_enter Tryd.func39, Tryd.ntmps39
  go_wp2_with fail
  go_loopw [5] (fun i wr => w.grownBy wr none ∧ ∃ k : Nat, k ≤ xs.length ∧ i = .int .i64 k ∧ (xs.take k).any (isS x) = false) (fun i _ => xs.length - (intOf i).toNat)
  case atStart => exact ⟨grown_refl _, 0, Nat.zero_le _, rfl, rfl⟩
  case round =>
    obtain ⟨hg, k, hk, rfl, hno⟩ := hrel
    have HNO := hide hno
    clear hno
    by_cases hlt : k < xs.length
    · have HVk := HV.out.more hg
      obtain ⟨vb, vo, rfl⟩ := HVk.addr hlt
      have a0 := str_at HVk k hlt
      have HK : Hid (xs[k]? = some xs[k]) := List.getElem?_eq_getElem hlt
      obtain ⟨Y, hY⟩ : ∃ Y, Y = xs[k] := ⟨_, rfl⟩
      rw [← hY] at a0 HK
      clear HVk hY
      by_cases h : (Y.toList == x.toList) = true
      · have E : Hid (xs.any (isS x) = true) := List.any_eq_true.2 ⟨Y, List.mem_of_getElem? HK.out, by unfold isS; rw [BEq.comm]; exact h⟩
        go_wp2
        go_ret
        exact ⟨by rw [E.out]; rfl, hg⟩
      · have h' : (Y.toList == x.toList) = false := by simpa using h
        have HN : Hid ((xs.take (k + 1)).any (isS x) = false) := by
          show _ = _
          rw [List.take_add_one, List.any_append, HNO.out, HK.out]
          have h2 : (x.toList == Y.toList) = false := by rw [BEq.comm]; exact h'
          simp [isS, h2]
        clear h
        go_wp2
        go_roundw
        case rel => exact ⟨hg, k + 1, by omega, by go_num, HN.out⟩
        case measure => simp [intOf]; omega
    · obtain rfl : k = xs.length := by omega
      have E : Hid (xs.any (isS x) = false) := by have := HNO.out; rwa [List.take_of_length_le (Nat.le_refl _)] at this
      go_wp2
      go_ret
      exact ⟨by rw [E.out]; rfl, hg⟩

set_option maxRecDepth 100000 in
set_option maxHeartbeats 3200000 in
theorem greaders_any (g : Gra) (cs : List Nc) (x : ByteArray) (w : World) (h1 : IsNods w g.nv.v (cs.map (·.n))) (hf : cs.length ≤ 1048576) (hin : ∀ c ∈ cs, IsStrs w c.n.iv.v c.ins) :
    Calls Tryd.prog 19 #[gval g, .string x] w fun e w' => ∃ u : Sl, e = .returned u.v ∧ Owns w' w.heap.size u.v (readsN cs x cs.length) ∧ w.grownBy w' none := by
  obtain ⟨i0, hi, hz0, hz1, hz2⟩ := info_parts infoInt
  obtain ⟨nam, ⟨na0, nn0, nc0⟩, ⟨ia, iN, ic⟩, ⟨oa, oN, oc⟩, ⟨ta, tN, tc⟩⟩ := g
  have H1 := hide h1
  have HIN := hide hin
  obtain ⟨xa, xc, e1, p1, p2, p3⟩ := h1.form
  rw [List.length_map] at e1 p1 p3
  obtain ⟨rfl, rfl, rfl⟩ : na0 = xa ∧ nn0 = cs.length ∧ nc0 = xc := by simpa [Sl.v] using e1
  clear h1 e1 hin
  unfold gval
  simp only
  obtain ⟨w0, hw0⟩ : ∃ w0, w0 = w.alloc (.cells #[.string nam, .slice na0 cs.length nc0, .slice ia iN ic, .slice oa oN oc, .slice ta tN tc] 26) := ⟨_, rfl⟩
  have g0 : w.grownBy w0 none := by rw [hw0]; exact grown_new _ _
  have b0 := heap_alloc_new w (.cells #[.string nam, .slice na0 cs.length nc0, .slice ia iN ic, .slice oa oN oc, .slice ta tN tc] 26)
  obtain ⟨r0, r1, r2, r3, r4⟩ := gra_cells (g := ⟨nam, ⟨na0, cs.length, nc0⟩, ⟨ia, iN, ic⟩, ⟨oa, oN, oc⟩, ⟨ta, tN, tc⟩⟩) b0
  rw [← hw0] at b0
  have BX : Hid (∀ wx, w0.grownBy wx none → wx.heap[w.heap.size]? = some (.cells #[.string nam, .slice na0 cs.length nc0, .slice ia iN ic, .slice oa oN oc, .slice ta tN tc] 26 (0, 0))) := fun wx hx => box_kept b0 hx
  clear b0
  go_enter Tryd.func19, Tryd.ntmps19
  go_wp2_with fail
  rw [← hw0]
  clear hw0 r0 r1 r2 r3 r4
  go_loopg [5, 6] cs.length (fun gh l i wr => w0.grownBy wr none ∧ ∃ k : Nat, gh = cs.length - k ∧ k ≤ cs.length ∧ i = .int .i64 k ∧ Owns wr w0.heap.size l (readsN cs x k))
  case atStart => exact ⟨grown_refl _, 0, rfl, Nat.zero_le _, rfl, ⟨World.ownsRow_nil _ _ _ _, by simp [readsN], by simp [readsN]⟩⟩
  case round =>
    obtain ⟨hgr, k, hgk, hk, rfl, hown⟩ := hrel
    have HRL := hide (readsN_le cs x k)
    have hlen := (readsN_le cs x k).1
    have HO := hide hown
    have HSTEP : Hid (readsN cs x (k + 1) = readsN cs x k ++ (if ((cs[k]?.map (·.ins)).getD []).any (isS x) = true then [(k : Int)] else [])) := rfl
    obtain ⟨va, vc, rfl⟩ := own_form hown.1
    obtain ⟨r0, r1, r2, r3, r4⟩ := gra_cells (g := ⟨nam, ⟨na0, cs.length, nc0⟩, ⟨ia, iN, ic⟩, ⟨oa, oN, oc⟩, ⟨ta, tN, tc⟩⟩) (BX.out wr hgr)
    simp only at r1
    clear r0 r2 r3 r4
    by_cases hlt : k < cs.length
    · obtain ⟨L, hL⟩ : ∃ L, L = readsN cs x k := ⟨_, rfl⟩
      rw [← hL] at HRL hlen HO HSTEP ⊢
      clear hown hL
      have HLk := H1.out.more (grown_trans g0 hgr)
      obtain ⟨b, off, rfl⟩ := HLk.addr (by rw [List.length_map]; exact hlt)
      obtain ⟨a0, a1, a2, a3, a4⟩ := HLk.nod k (by rw [List.length_map]; exact hlt)
      have HD := hide (HIN.out cs[k] (List.getElem_mem hlt))
      have HK : Hid (cs[k]? = some cs[k]) := List.getElem?_eq_getElem hlt
      rw [List.getElem_map] at a0 a1 a2 a3 a4
      obtain ⟨A, hA⟩ : ∃ A, A = cs[k] := ⟨_, rfl⟩
      rw [← hA] at a0 a1 a2 a3 a4 HD HK
      rw [HK.out] at HSTEP
      clear HLk hA
      obtain ⟨⟨cop, cnam, ⟨ca, cN, cc⟩, cout, ⟨da, dN, dc⟩⟩, cins, cxs, ccs⟩ := A
      simp only [Sl.v] at a0 a1 a2 a3 a4 HD
      simp only [Option.map_some, Option.getD_some] at HSTEP
      have CS := hide (gamong_any x (.slice ca cN cc) cins wr (HD.out.more (grown_trans g0 hgr)))
      go_wp2_with fail
      clear a0 a1 a2 a3 a4
      refine CS.out.mono ?_
      rintro e w2 ⟨rfl, hg2⟩
      have HO2 := hide (HO.out.new hg2)
      have g02 := grown_trans hgr hg2
      cases hc : cins.any (isS x) with
      | false =>
        have HN : Hid (readsN cs x (k + 1) = L) := by show _ = _; rw [HSTEP.out]; simp [hc]
        clear hc
        go_wp2_with fail
        go_roundg (cs.length - (k + 1))
        case measure => omega
        case rel => exact ⟨g02, k + 1, rfl, by omega, by go_num, by rw [HN.out]; exact HO2.out⟩
      | true =>
        have HN : Hid (readsN cs x (k + 1) = L ++ [(k : Int)]) := by show _ = _; rw [HSTEP.out]; simp [hc]
        have OW : Hid (∀ o, Owns (w2.alloc o) w0.heap.size (.slice va L.length vc) L) := fun o => HO2.out.new (grown_new _ _)
        have hsz := g02.size
        clear hc
        go_wp2_with (at_builtin; refine wpList_append_own _ rfl (.tmp 22) (.tmp 24) 30 rfl w0.heap.size 3 i0 (.int .i64 0) 1 8 Tryd.underlying30 hi hz0 hz1 hz2 rfl (by decide) _ _ _ rfl (by exact (OW.out _).1) ⟨w2.heap.size, 0, none⟩ 1 1 [.int .i64 (k : Int)] rfl rfl (by have h := cell_one_new w2 (Value.int .i64 (k : Int)) 3; simpa using h) (by simp [Value.oneCell']) (by simp only [maxLen]; omega) (by omega) (by simp; omega) ?_; intro v' w8 hown' hgrow _; obtain ⟨na, nc, rfl⟩ := own_form hown')
        have ST : Hid (w0.grownBy w8 none ∧ Owns w8 w0.heap.size (.slice na (L.length + 1) nc) (L ++ [(k : Int)])) := by
          refine ⟨grown_trans_row (grown_trans g02 (grown_new w2 (.cells #[.int .i64 (k : Int)] 3))) hgrow (fun r e => (World.ownsRow.lt HO2.out.1 r e).1), ?_, ?_, fun z hz => ?_⟩
          · rw [List.length_append, List.map_append]; exact hown'
          · rw [List.length_append, List.length_singleton]; omega
          · rcases List.mem_append.1 hz with h | h
            · exact HO2.out.2.2 z h
            · simp at h; omega
        clear hown' hgrow
        go_roundg (cs.length - (k + 1))
        case measure => omega
        case rel => exact ⟨ST.out.1, k + 1, rfl, by omega, by go_num, by rw [HN.out]; exact ST.out.2⟩
    · obtain rfl : k = cs.length := by omega
      obtain ⟨L, hL⟩ : ∃ L, L = readsN cs x cs.length := ⟨_, rfl⟩
      rw [← hL] at HRL hlen HO ⊢
      have HLL := hide hL
      clear hown hL HSTEP
      go_wp2
      go_ret
      exact ⟨⟨va, L.length, vc⟩, rfl, by rw [← HLL.out]; exact HO.out.base_le g0.size, grown_trans g0 hgr⟩
end Go.Proofs.YtflalpchhojenaaDoor
