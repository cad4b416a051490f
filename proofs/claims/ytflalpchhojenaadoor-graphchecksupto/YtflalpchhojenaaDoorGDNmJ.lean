/- The document's names, and whether they are unlike, by the walk. -/
import Derived.Test.YtflalpchhojenaaDoorGAllJ
import Derived.Test.YtflalpchhojenaaDoorGRefJ
import Derived.Test.YtflalpchhojenaaDoorGNmJ
import Derived.BigQuiet
namespace Go.Proofs.YtflalpchhojenaaDoor
open Go.RowKit

theorem grown_drewK {a b : World} (h : a.grownBy b none) (n : Nat) : a.grownBy (b.drewN n) none := ⟨h.os, h.tape, h.output, h.size, h.block⟩

set_option maxRecDepth 100000 in
set_option maxHeartbeats 6400000 in
theorem dnames_any (g : Gra) (cs : List Nc) (vin vout : List (Val × List Int)) (its : List (Nam × List Int × List Int)) (w : World) (hg : GraphOk w g cs vin vout its) :
    Calls Tryd.prog 37 #[gval g] w fun e w' => ∃ u : Sl, e = .returned u.v ∧ OwnsS w' w.heap.size u.v (vnames cs vin its) ∧ w.grownBy w' none := by
  obtain ⟨i0, hi, hz0, hz1, hz2⟩ := info_parts infoStr
  obtain ⟨nam, ⟨na0, nn, nc0⟩, ⟨ia, iN, ic⟩, ⟨oa, oN, oc⟩, ⟨ta, tN, tc⟩⟩ := g
  have HG := hide hg
  obtain ⟨xa, xc, e1, p1, p2, p3⟩ := hg.base.nodes.form
  obtain ⟨ya, yc, e2, p4, p5, p6⟩ := hg.base.ins.form
  obtain ⟨za, zc, e3, p7, p8, p9⟩ := hg.base.outs.form
  obtain ⟨qa, qc, e4, p10, p11, p12⟩ := hg.base.inits.form
  rw [List.length_map] at e1 e2 e3 e4 p1 p3 p4 p6 p7 p9 p10 p12
  obtain ⟨rfl, rfl, rfl⟩ : na0 = xa ∧ nn = cs.length ∧ nc0 = xc := by simpa [Sl.v] using e1
  obtain ⟨rfl, rfl, rfl⟩ : ia = ya ∧ iN = vin.length ∧ ic = yc := by simpa [Sl.v] using e2
  obtain ⟨rfl, rfl, rfl⟩ : oa = za ∧ oN = vout.length ∧ oc = zc := by simpa [Sl.v] using e3
  obtain ⟨rfl, rfl, rfl⟩ : ta = qa ∧ tN = its.length ∧ tc = qc := by simpa [Sl.v] using e4
  obtain ⟨f1, f2, f3, f4⟩ := hg.base.few
  clear hg e1 e2 e3 e4
  unfold gval
  simp only
  obtain ⟨w0, hw0⟩ : ∃ w0, w0 = w.alloc (.cells #[.string nam, .slice na0 cs.length nc0, .slice ia vin.length ic, .slice oa vout.length oc, .slice ta its.length tc] 26) := ⟨_, rfl⟩
  have g0 : w.grownBy w0 none := by rw [hw0]; exact grown_new _ _
  have b0 := heap_alloc_new w (.cells #[.string nam, .slice na0 cs.length nc0, .slice ia vin.length ic, .slice oa vout.length oc, .slice ta its.length tc] 26)
  rw [← hw0] at b0
  have BX : Hid (∀ wx, w0.grownBy wx none → wx.heap[w.heap.size]? = some (.cells #[.string nam, .slice na0 cs.length nc0, .slice ia vin.length ic, .slice oa vout.length oc, .slice ta its.length tc] 26 (0, 0))) := fun wx hx => box_kept b0 hx
  clear b0
  go_enter Tryd.func37, Tryd.ntmps37
  go_wp2_with fail
  rw [← hw0]
  clear hw0
  go_loopw [3, 4] (fun l i wr => w0.grownBy wr none ∧ ∃ k : Nat, k ≤ vin.length ∧ i = .int .i64 k ∧ OwnsS wr w0.heap.size l (((vin.map (·.1)).take k).map (·.name))) (fun _ i _ => vin.length - (intOf i).toNat)
  case atStart => exact ⟨grown_refl _, 0, Nat.zero_le _, rfl, OwnsL.nil ..⟩
  case round =>
    obtain ⟨hg, k, hk, rfl, hown⟩ := hrel
    obtain ⟨L, hL⟩ : ∃ L, L = ((vin.map (·.1)).take k).map (·.name) := ⟨_, rfl⟩
    rw [← hL] at hown
    have HL := hide hL
    have hlen : L.length ≤ 4194304 := by rw [hL]; simp; omega
    have HO := hide hown
    obtain ⟨va, vc, rfl⟩ := OwnsL.form hown
    clear hown hL
    obtain ⟨r0, r1, r2, r3, r4⟩ := gra_cells (g := ⟨nam, ⟨na0, cs.length, nc0⟩, ⟨ia, vin.length, ic⟩, ⟨oa, vout.length, oc⟩, ⟨ta, its.length, tc⟩⟩) (BX.out wr hg)
    simp only at r2
    clear r0 r1 r3 r4
    by_cases hlt : k < vin.length
    · have hlt' : k < (vin.map (·.1)).length := by rw [List.length_map]; exact hlt
      have HLk := HG.out.base.ins.more (grown_trans g0 hg)
      obtain ⟨b, off, rfl⟩ := HLk.addr hlt'
      have HC := HLk.val k hlt'
      have a0 := HC.1
      have HK : Hid ((vin.map (·.1))[k]? = some (vin.map (·.1))[k]) := List.getElem?_eq_getElem hlt'
      obtain ⟨A, hA⟩ : ∃ A, A = (vin.map (·.1))[k] := ⟨_, rfl⟩
      rw [← hA] at a0 HK
      clear HLk hA HC
      have OW : Hid (∀ o, OwnsS (wr.alloc o) w0.heap.size (.slice va _ vc) L) := fun o => HO.out.more (grown_new _ _)
      have hsz := hg.size
      go_wp2_with (at_builtin; refine wpList_append_own _ rfl (.tmp 14) (.tmp 21) 39 rfl w0.heap.size 9 i0 (.string ⟨#[]⟩) 1 16 Tryd.underlying39 hi hz0 hz1 hz2 rfl (by decide) _ _ _ rfl (by exact OW.out _) ⟨wr.heap.size, 0, none⟩ 1 1 [.string A.name] rfl rfl (by have h := cell_one_new wr (Value.string A.name) 9; simpa using h) (by simp [Value.oneCell']) (by simp only [maxLen]; omega) (by omega) (by simp; omega) ?_; intro v' w8 hown' hgrow _; obtain ⟨na, nc, rfl⟩ := own_form hown')
      have ST : Hid (w0.grownBy w8 none ∧ OwnsS w8 w0.heap.size (.slice na (L.length + 1) nc) (((vin.map (·.1)).take (k + 1)).map (·.name))) := by
        refine ⟨grown_trans_row (grown_trans hg (grown_new wr (.cells #[.string A.name] 9))) hgrow (fun r e => (World.ownsRow.lt HO.out r e).1), ?_⟩
        have e : ((vin.map (·.1)).take (k + 1)).map (·.name) = L ++ [A.name] := by
          rw [HL.out, List.take_add_one, HK.out]
          simp
        rw [e]
        exact owns_snocS hown'
      clear hown' hgrow
      go_roundw
      case rel => exact ⟨ST.out.1, k + 1, by omega, by go_num, ST.out.2⟩
      case measure => simp [intOf]; omega
    · obtain rfl : k = vin.length := by omega
      have HF : Hid (L = (vin.map (·.1)).map (·.name)) := by show _ = _; rw [HL.out, List.take_of_length_le (by rw [List.length_map]; exact Nat.le_refl _)]
      clear HL
      obtain ⟨W1, hW1⟩ : ∃ W1, W1 = wr := ⟨_, rfl⟩
      rw [← hW1] at HO hg r2 ⊢
      clear hW1
      go_wp2_with fail
      clear r2
      go_loopw [3, 5] (fun l i wr => w0.grownBy wr none ∧ ∃ k : Nat, k ≤ its.length ∧ i = .int .i64 k ∧ OwnsS wr w0.heap.size l ((vin.map (·.1)).map (·.name) ++ ((its.map (·.1)).take k).map (·.name))) (fun _ i _ => its.length - (intOf i).toNat)
      case atStart => exact ⟨hg, 0, Nat.zero_le _, rfl, by rw [List.take_zero, List.map_nil, List.append_nil, ← HF.out]; exact HO.out⟩
      case round =>
        obtain ⟨hg, k, hk, rfl, hown⟩ := hrel
        obtain ⟨L, hL⟩ : ∃ L, L = (vin.map (·.1)).map (·.name) ++ ((its.map (·.1)).take k).map (·.name) := ⟨_, rfl⟩
        rw [← hL] at hown
        have HL := hide hL
        have hlen : L.length ≤ 4194304 := by rw [hL]; simp; omega
        have HO := hide hown
        obtain ⟨va, vc, rfl⟩ := OwnsL.form hown
        clear hown hL
        obtain ⟨r0, r1, r2, r3, r4⟩ := gra_cells (g := ⟨nam, ⟨na0, cs.length, nc0⟩, ⟨ia, vin.length, ic⟩, ⟨oa, vout.length, oc⟩, ⟨ta, its.length, tc⟩⟩) (BX.out wr hg)
        simp only at r4
        clear r0 r1 r2 r3
        by_cases hlt : k < its.length
        · have hlt' : k < (its.map (·.1)).length := by rw [List.length_map]; exact hlt
          have HLk := HG.out.base.inits.more (grown_trans g0 hg)
          obtain ⟨b, off, rfl⟩ := HLk.addr hlt'
          have HC := HLk.nam k hlt'
          have a0 := HC.1
          have HK : Hid ((its.map (·.1))[k]? = some (its.map (·.1))[k]) := List.getElem?_eq_getElem hlt'
          obtain ⟨A, hA⟩ : ∃ A, A = (its.map (·.1))[k] := ⟨_, rfl⟩
          rw [← hA] at a0 HK
          clear HLk hA HC
          have OW : Hid (∀ o, OwnsS (wr.alloc o) w0.heap.size (.slice va _ vc) L) := fun o => HO.out.more (grown_new _ _)
          have hsz := hg.size
          go_wp2_with (at_builtin; refine wpList_append_own _ rfl (.tmp 30) (.tmp 37) 39 rfl w0.heap.size 9 i0 (.string ⟨#[]⟩) 1 16 Tryd.underlying39 hi hz0 hz1 hz2 rfl (by decide) _ _ _ rfl (by exact OW.out _) ⟨wr.heap.size, 0, none⟩ 1 1 [.string A.name] rfl rfl (by have h := cell_one_new wr (Value.string A.name) 9; simpa using h) (by simp [Value.oneCell']) (by simp only [maxLen]; omega) (by omega) (by simp; omega) ?_; intro v' w8 hown' hgrow _; obtain ⟨na, nc, rfl⟩ := own_form hown')
          have ST : Hid (w0.grownBy w8 none ∧ OwnsS w8 w0.heap.size (.slice na (L.length + 1) nc) ((vin.map (·.1)).map (·.name) ++ ((its.map (·.1)).take (k + 1)).map (·.name))) := by
            refine ⟨grown_trans_row (grown_trans hg (grown_new wr (.cells #[.string A.name] 9))) hgrow (fun r e => (World.ownsRow.lt HO.out r e).1), ?_⟩
            have e : (vin.map (·.1)).map (·.name) ++ ((its.map (·.1)).take (k + 1)).map (·.name) = L ++ [A.name] := by
              rw [HL.out, List.take_add_one, HK.out]
              simp
            rw [e]
            exact owns_snocS hown'
          clear hown' hgrow
          go_roundw
          case rel => exact ⟨ST.out.1, k + 1, by omega, by go_num, ST.out.2⟩
          case measure => simp [intOf]; omega
        · obtain rfl : k = its.length := by omega
          have HF : Hid (L = (vin.map (·.1)).map (·.name) ++ (its.map (·.1)).map (·.name)) := by show _ = _; rw [HL.out, List.take_of_length_le (by rw [List.length_map]; exact Nat.le_refl _)]
          clear HL
          obtain ⟨W2, hW2⟩ : ∃ W2, W2 = wr := ⟨_, rfl⟩
          rw [← hW2] at HO hg r4 ⊢
          clear hW2
          go_wp2_with fail
          clear r4
          go_loopw [3, 6] (fun l i wr => w0.grownBy wr none ∧ ∃ k : Nat, k ≤ cs.length ∧ i = .int .i64 k ∧ OwnsS wr w0.heap.size l ((vin.map (·.1)).map (·.name) ++ (its.map (·.1)).map (·.name) ++ ((cs.map (·.n)).take k).map (·.out))) (fun _ i _ => cs.length - (intOf i).toNat)
          case atStart => exact ⟨hg, 0, Nat.zero_le _, rfl, by rw [List.take_zero, List.map_nil, List.append_nil, ← HF.out]; exact HO.out⟩
          case round =>
            obtain ⟨hg, k, hk, rfl, hown⟩ := hrel
            obtain ⟨L, hL⟩ : ∃ L, L = (vin.map (·.1)).map (·.name) ++ (its.map (·.1)).map (·.name) ++ ((cs.map (·.n)).take k).map (·.out) := ⟨_, rfl⟩
            rw [← hL] at hown
            have HL := hide hL
            have hlen : L.length ≤ 4194304 := by rw [hL]; simp; omega
            have HO := hide hown
            obtain ⟨va, vc, rfl⟩ := OwnsL.form hown
            clear hown hL
            obtain ⟨r0, r1, r2, r3, r4⟩ := gra_cells (g := ⟨nam, ⟨na0, cs.length, nc0⟩, ⟨ia, vin.length, ic⟩, ⟨oa, vout.length, oc⟩, ⟨ta, its.length, tc⟩⟩) (BX.out wr hg)
            simp only at r1
            clear r0 r2 r3 r4
            by_cases hlt : k < cs.length
            · have hlt' : k < (cs.map (·.n)).length := by rw [List.length_map]; exact hlt
              have HLk := HG.out.base.nodes.more (grown_trans g0 hg)
              obtain ⟨b, off, rfl⟩ := HLk.addr hlt'
              have HC := HLk.nod k hlt'
              have a0 := HC.2.2.2.1
              have HK : Hid ((cs.map (·.n))[k]? = some (cs.map (·.n))[k]) := List.getElem?_eq_getElem hlt'
              obtain ⟨A, hA⟩ : ∃ A, A = (cs.map (·.n))[k] := ⟨_, rfl⟩
              rw [← hA] at a0 HK
              clear HLk hA HC
              have OW : Hid (∀ o, OwnsS (wr.alloc o) w0.heap.size (.slice va _ vc) L) := fun o => HO.out.more (grown_new _ _)
              have hsz := hg.size
              go_wp2_with (at_builtin; refine wpList_append_own _ rfl (.tmp 46) (.tmp 53) 39 rfl w0.heap.size 9 i0 (.string ⟨#[]⟩) 1 16 Tryd.underlying39 hi hz0 hz1 hz2 rfl (by decide) _ _ _ rfl (by exact OW.out _) ⟨wr.heap.size, 0, none⟩ 1 1 [.string A.out] rfl rfl (by have h := cell_one_new wr (Value.string A.out) 9; simpa using h) (by simp [Value.oneCell']) (by simp only [maxLen]; omega) (by omega) (by simp; omega) ?_; intro v' w8 hown' hgrow _; obtain ⟨na, nc, rfl⟩ := own_form hown')
              have ST : Hid (w0.grownBy w8 none ∧ OwnsS w8 w0.heap.size (.slice na (L.length + 1) nc) ((vin.map (·.1)).map (·.name) ++ (its.map (·.1)).map (·.name) ++ ((cs.map (·.n)).take (k + 1)).map (·.out))) := by
                refine ⟨grown_trans_row (grown_trans hg (grown_new wr (.cells #[.string A.out] 9))) hgrow (fun r e => (World.ownsRow.lt HO.out r e).1), ?_⟩
                have e : (vin.map (·.1)).map (·.name) ++ (its.map (·.1)).map (·.name) ++ ((cs.map (·.n)).take (k + 1)).map (·.out) = L ++ [A.out] := by
                  rw [HL.out, List.take_add_one, HK.out]
                  simp
                rw [e]
                exact owns_snocS hown'
              clear hown' hgrow
              go_roundw
              case rel => exact ⟨ST.out.1, k + 1, by omega, by go_num, ST.out.2⟩
              case measure => simp [intOf]; omega
            · obtain rfl : k = cs.length := by omega
              have HF : Hid (L = (vin.map (·.1)).map (·.name) ++ (its.map (·.1)).map (·.name) ++ (cs.map (·.n)).map (·.out)) := by show _ = _; rw [HL.out, List.take_of_length_le (by rw [List.length_map]; exact Nat.le_refl _)]
              clear HL
              go_wp2
              go_ret
              exact ⟨⟨va, L.length, vc⟩, rfl, by rw [show vnames cs vin its = L from HF.out.symm]; exact HO.out.base_le g0.size, grown_trans g0 hg⟩

set_option maxRecDepth 100000 in
set_option maxHeartbeats 3200000 in
theorem unlike_any (v : Value) (l : List ByteArray) (w : World) (hv : IsStrs w v l) :
    Calls Tryd.prog 38 #[v] w fun e w' => e = .returned (.bool (namesOK [] l)) ∧ w.grownBy w' none := by
  have HV := hide hv
  obtain ⟨va, vc, rfl, h1, h2, h3⟩ := hv.form
  obtain ⟨T, hT⟩ : ∃ T, T = namesOK [] l := ⟨_, rfl⟩
  have HT : Hid (T = namesOK (l.take 0) (l.drop 0)) := by show _ = _; rw [hT]; rfl
  rw [← hT]
  clear hv hT
  go_enter Tryd.func38, Tryd.ntmps38
  go_wp2_with fail
  go_loopw [3] (fun i wr => w.grownBy wr none ∧ ∃ k : Nat, k ≤ l.length ∧ i = .int .i64 k ∧ T = namesOK (l.take k) (l.drop k)) (fun i _ => l.length - (intOf i).toNat)
  case atStart => exact ⟨grown_refl _, 0, Nat.zero_le _, rfl, HT.out⟩
  case round =>
    obtain ⟨hg, k, hk, rfl, htk⟩ := hrel
    have HTK := hide htk
    clear htk
    by_cases hlt : k < l.length
    · have HVk := HV.out.more hg
      obtain ⟨vb, vo, rfl⟩ := HVk.addr hlt
      have a0 := str_at HVk k hlt
      have HAT := hide (namesOK_at hlt)
      obtain ⟨Y, hY⟩ : ∃ Y, Y = l[k] := ⟨_, rfl⟩
      rw [← hY] at a0 HAT
      have HYE : Hid (l[k] = Y) := hY.symm
      clear hY
      by_cases he : (Y.toList == []) = true
      · have E : Hid (T = false) := by show _ = _; rw [HTK.out, HAT.out, he]; simp
        go_wp2
        go_ret
        exact ⟨by rw [E.out]; rfl, hg⟩
      · have he' : (Y.toList == []) = false := by simpa using he
        clear he
        obtain ⟨wo, hwo⟩ : ∃ wo, wo = wr := ⟨_, rfl⟩
        rw [← hwo] at hg a0 ⊢
        clear hwo HVk
        go_wp2_with fail
        go_loopw [4] (fun j wr => w.grownBy wr none ∧ ∃ q : Nat, q ≤ k ∧ j = .int .i64 q ∧ Y ∉ l.take q) (fun j _ => k - (intOf j).toNat)
        case atStart => exact ⟨hg, 0, Nat.zero_le _, rfl, by simp⟩
        case round =>
          obtain ⟨hgq, q, hq, rfl, hno⟩ := hrel
          have HNO := hide hno
          clear hno a0
          by_cases hlq : q < k
          · have HVq := HV.out.more hgq
            have a0 := str_at HVq k hlt
            rw [HYE.out] at a0
            have a1 := str_at HVq q (by omega)
            have HK : Hid (l[q]? = some l[q]) := List.getElem?_eq_getElem (by omega)
            obtain ⟨X, hX⟩ : ∃ X, X = l[q] := ⟨_, rfl⟩
            rw [← hX] at a1 HK
            clear HVq hX
            by_cases h : (X.toList == Y.toList) = true
            · have E : Hid (T = false) := by
                show _ = _
                have e1 : X.toList = Y.toList := by simpa using h
                have e2 : X = Y := bytes_eq (by rw [← bytes_toList, ← bytes_toList, e1])
                have e3 : inL Y (l.take k) = true := inL_iff.2 (by
                  rw [← e2]
                  exact List.mem_of_getElem? (i := q) (by rw [List.getElem?_take_of_lt hlq]; exact HK.out))
                rw [HTK.out, HAT.out, e3]
                rfl
              go_wp2_with fail
              go_quiet (fail)
              go_wp2
              go_ret
              exact ⟨by rw [E.out]; rfl, grown_drewK hgq _⟩
            · have h' : (X.toList == Y.toList) = false := by simpa using h
              have HN : Hid (Y ∉ l.take (q + 1)) := by
                show _ ∉ _
                rw [List.take_add_one, HK.out, List.mem_append]
                rintro (e | e)
                · exact HNO.out e
                · have e2 : Y = X := by simpa using e
                  rw [e2] at h
                  simp at h
              clear h
              go_wp2_with fail
              go_quiet (fail)
              go_wp2_with fail
              go_roundw
              case rel => exact ⟨grown_drewK hgq _, q + 1, by omega, by go_num, HN.out⟩
              case measure => simp [intOf]; omega
          · obtain rfl : q = k := by omega
            have E : Hid (T = namesOK (l.take (q + 1)) (l.drop (q + 1))) := by
              show _ = _
              rw [HTK.out, HAT.out, inL_not.2 HNO.out, he']
              rfl
            go_wp2_with fail
            go_roundw
            case rel => exact ⟨hgq, q + 1, by omega, by go_num, E.out⟩
            case measure => simp [intOf]; omega
    · have E : Hid (T = true) := by show _ = _; rw [HTK.out, List.drop_of_length_le (by omega)]; rfl
      go_wp2
      go_ret
      exact ⟨by rw [E.out]; rfl, hg⟩
end Go.Proofs.YtflalpchhojenaaDoor
