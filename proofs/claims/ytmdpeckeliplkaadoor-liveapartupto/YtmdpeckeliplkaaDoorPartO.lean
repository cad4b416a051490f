/- Joined texts: GDNm, GDChk. -/
import Derived.Test.YtmdpeckeliplkaaDoorPartR
import Derived.Test.YtmdpeckeliplkaaDoorPartK
import Derived.BigQuiet
import Derived.Test.YtmdpeckeliplkaaDoorGDPartsJ
/- The document's names, and whether they are unlike, by the walk. -/
namespace Go.Proofs.YtmdpeckeliplkaaDoor
open Go.RowKit

theorem grown_drewK {a b : World} (h : a.grownBy b none) (n : Nat) : a.grownBy (b.drewN n) none := ⟨h.os, h.tape, h.output, h.size, h.block⟩

set_option maxRecDepth 100000 in
set_option maxHeartbeats 6400000 in
theorem dnames_any (g : Gra) (cs : List Nc) (vin vout : List (Val × List Int)) (its : List (Nam × List Int × List Int)) (w : World) (hg : GraphOk w g cs vin vout its) :
    Calls Tryd.prog 48 #[gval g] w fun e w' => ∃ u : Sl, e = .returned u.v ∧ OwnsS w' w.heap.size u.v (vnames cs vin its) ∧ w.grownBy w' none := by
  obtain ⟨i0, hi, hz0, hz1, hz2⟩ := info_parts infoStr
  obtain ⟨nam, ⟨na0, nn, nc0⟩, ⟨ia, iN, ic⟩, ⟨oa, oN, oc⟩, ⟨ta, tN, tc⟩⟩ := g
  have HG := hide hg
  obtain ⟨xa, xc, e1, p1, p2, p3⟩ := hg.base.nodes.form
  obtain ⟨ya, yc, e2, p4, p5, p6⟩ := hg.base.ins.form
  obtain ⟨za, zc, e3, p7, p8, p9⟩ := hg.base.outs.form
  obtain ⟨qa, qc, e4, p10, p11, p12⟩ := hg.base.inits.form
  rw [List.length_map] at e1 e2 e3 e4 p1 p3 p4 p6 p7 p9 p10 p12
  obtain ⟨rfl, rfl, rfl⟩ : na0 = xa ∧ nn = cs.length ∧ nc0 = xc := by simpa [Sl.v] using e1
  obtain ⟨rfl, rfl, rfl⟩ : ia = ya ∧ iN = vin.length ∧ ic = yc := by simpa [Sl.v] using e2
  obtain ⟨rfl, rfl, rfl⟩ : oa = za ∧ oN = vout.length ∧ oc = zc := by simpa [Sl.v] using e3
  obtain ⟨rfl, rfl, rfl⟩ : ta = qa ∧ tN = its.length ∧ tc = qc := by simpa [Sl.v] using e4
  obtain ⟨f1, f2, f3, f4⟩ := hg.base.few
  clear hg e1 e2 e3 e4
  unfold gval
  simp only
  obtain ⟨w0, hw0⟩ : ∃ w0, w0 = w.alloc (.cells #[.string nam, .slice na0 cs.length nc0, .slice ia vin.length ic, .slice oa vout.length oc, .slice ta its.length tc] 26) := ⟨_, rfl⟩
  have g0 : w.grownBy w0 none := by rw [hw0]; exact grown_new _ _
  have b0 := heap_alloc_new w (.cells #[.string nam, .slice na0 cs.length nc0, .slice ia vin.length ic, .slice oa vout.length oc, .slice ta its.length tc] 26)
  rw [← hw0] at b0
  have BX : Hid (∀ wx, w0.grownBy wx none → wx.heap[w.heap.size]? = some (.cells #[.string nam, .slice na0 cs.length nc0, .slice ia vin.length ic, .slice oa vout.length oc, .slice ta its.length tc] 26 (0, 0))) := fun wx hx => box_kept b0 hx
  clear b0
  go_enter Tryd.func48, Tryd.ntmps48
  go_wp2_with fail
  rw [← hw0]
  clear hw0
  go_loopw [3, 4] (fun l i wr => w0.grownBy wr none ∧ ∃ k : Nat, k ≤ vin.length ∧ i = .int .i64 k ∧ OwnsS wr w0.heap.size l (((vin.map (·.1)).take k).map (·.name))) (fun _ i _ => vin.length - (intOf i).toNat)
  case atStart => exact ⟨grown_refl _, 0, Nat.zero_le _, rfl, OwnsL.nil ..⟩
  case round =>
    obtain ⟨hg, k, hk, rfl, hown⟩ := hrel
    obtain ⟨L, hL⟩ : ∃ L, L = ((vin.map (·.1)).take k).map (·.name) := ⟨_, rfl⟩
    rw [← hL] at hown
    have HL := hide hL
    have hlen : L.length ≤ 4194304 := by rw [hL]; simp; omega
    have HO := hide hown
    obtain ⟨va, vc, rfl⟩ := OwnsL.form hown
    clear hown hL
    obtain ⟨r0, r1, r2, r3, r4⟩ := gra_cells (g := ⟨nam, ⟨na0, cs.length, nc0⟩, ⟨ia, vin.length, ic⟩, ⟨oa, vout.length, oc⟩, ⟨ta, its.length, tc⟩⟩) (BX.out wr hg)
    simp only at r2
    clear r0 r1 r3 r4
    by_cases hlt : k < vin.length
    · have hlt' : k < (vin.map (·.1)).length := by rw [List.length_map]; exact hlt
      have HLk := HG.out.base.ins.more (grown_trans g0 hg)
      obtain ⟨b, off, rfl⟩ := HLk.addr hlt'
      have HC := HLk.val k hlt'
      have a0 := HC.1
      have HK : Hid ((vin.map (·.1))[k]? = some (vin.map (·.1))[k]) := List.getElem?_eq_getElem hlt'
      obtain ⟨A, hA⟩ : ∃ A, A = (vin.map (·.1))[k] := ⟨_, rfl⟩
      rw [← hA] at a0 HK
      clear HLk hA HC
      have OW : Hid (∀ o, OwnsS (wr.alloc o) w0.heap.size (.slice va _ vc) L) := fun o => HO.out.more (grown_new _ _)
      have hsz := hg.size
      go_wp2_with (at_builtin; refine wpList_append_own _ rfl (.tmp 14) (.tmp 21) 49 rfl w0.heap.size 9 i0 (.string ⟨#[]⟩) 1 16 Tryd.underlying49 hi hz0 hz1 hz2 rfl (by decide) _ _ _ rfl (by exact OW.out _) ⟨wr.heap.size, 0, none⟩ 1 1 [.string A.name] rfl rfl (by have h := cell_one_new wr (Value.string A.name) 9; simpa using h) (by simp [Value.oneCell']) (by simp only [maxLen]; omega) (by omega) (by simp; omega) ?_; intro v' w8 hown' hgrow _; obtain ⟨na, nc, rfl⟩ := own_form hown')
      have ST : Hid (w0.grownBy w8 none ∧ OwnsS w8 w0.heap.size (.slice na (L.length + 1) nc) (((vin.map (·.1)).take (k + 1)).map (·.name))) := by
        refine ⟨grown_trans_row (grown_trans hg (grown_new wr (.cells #[.string A.name] 9))) hgrow (fun r e => (World.ownsRow.lt HO.out r e).1), ?_⟩
        have e : ((vin.map (·.1)).take (k + 1)).map (·.name) = L ++ [A.name] := by
          rw [HL.out, List.take_add_one, HK.out]
          simp
        rw [e]
        exact owns_snocS hown'
      clear hown' hgrow
      go_roundw
      case rel => exact ⟨ST.out.1, k + 1, by omega, by go_num, ST.out.2⟩
      case measure => simp [intOf]; omega
    · obtain rfl : k = vin.length := by omega
      have HF : Hid (L = (vin.map (·.1)).map (·.name)) := by show _ = _; rw [HL.out, List.take_of_length_le (by rw [List.length_map]; exact Nat.le_refl _)]
      clear HL
      obtain ⟨W1, hW1⟩ : ∃ W1, W1 = wr := ⟨_, rfl⟩
      rw [← hW1] at HO hg r2 ⊢
      clear hW1
      go_wp2_with fail
      clear r2
      go_loopw [3, 5] (fun l i wr => w0.grownBy wr none ∧ ∃ k : Nat, k ≤ its.length ∧ i = .int .i64 k ∧ OwnsS wr w0.heap.size l ((vin.map (·.1)).map (·.name) ++ ((its.map (·.1)).take k).map (·.name))) (fun _ i _ => its.length - (intOf i).toNat)
      case atStart => exact ⟨hg, 0, Nat.zero_le _, rfl, by rw [List.take_zero, List.map_nil, List.append_nil, ← HF.out]; exact HO.out⟩
      case round =>
        obtain ⟨hg, k, hk, rfl, hown⟩ := hrel
        obtain ⟨L, hL⟩ : ∃ L, L = (vin.map (·.1)).map (·.name) ++ ((its.map (·.1)).take k).map (·.name) := ⟨_, rfl⟩
        rw [← hL] at hown
        have HL := hide hL
        have hlen : L.length ≤ 4194304 := by rw [hL]; simp; omega
        have HO := hide hown
        obtain ⟨va, vc, rfl⟩ := OwnsL.form hown
        clear hown hL
        obtain ⟨r0, r1, r2, r3, r4⟩ := gra_cells (g := ⟨nam, ⟨na0, cs.length, nc0⟩, ⟨ia, vin.length, ic⟩, ⟨oa, vout.length, oc⟩, ⟨ta, its.length, tc⟩⟩) (BX.out wr hg)
        simp only at r4
        clear r0 r1 r2 r3
        by_cases hlt : k < its.length
        · have hlt' : k < (its.map (·.1)).length := by rw [List.length_map]; exact hlt
          have HLk := HG.out.base.inits.more (grown_trans g0 hg)
          obtain ⟨b, off, rfl⟩ := HLk.addr hlt'
          have HC := HLk.nam k hlt'
          have a0 := HC.1
          have HK : Hid ((its.map (·.1))[k]? = some (its.map (·.1))[k]) := List.getElem?_eq_getElem hlt'
          obtain ⟨A, hA⟩ : ∃ A, A = (its.map (·.1))[k] := ⟨_, rfl⟩
          rw [← hA] at a0 HK
          clear HLk hA HC
          have OW : Hid (∀ o, OwnsS (wr.alloc o) w0.heap.size (.slice va _ vc) L) := fun o => HO.out.more (grown_new _ _)
          have hsz := hg.size
          go_wp2_with (at_builtin; refine wpList_append_own _ rfl (.tmp 30) (.tmp 37) 49 rfl w0.heap.size 9 i0 (.string ⟨#[]⟩) 1 16 Tryd.underlying49 hi hz0 hz1 hz2 rfl (by decide) _ _ _ rfl (by exact OW.out _) ⟨wr.heap.size, 0, none⟩ 1 1 [.string A.name] rfl rfl (by have h := cell_one_new wr (Value.string A.name) 9; simpa using h) (by simp [Value.oneCell']) (by simp only [maxLen]; omega) (by omega) (by simp; omega) ?_; intro v' w8 hown' hgrow _; obtain ⟨na, nc, rfl⟩ := own_form hown')
          have ST : Hid (w0.grownBy w8 none ∧ OwnsS w8 w0.heap.size (.slice na (L.length + 1) nc) ((vin.map (·.1)).map (·.name) ++ ((its.map (·.1)).take (k + 1)).map (·.name))) := by
            refine ⟨grown_trans_row (grown_trans hg (grown_new wr (.cells #[.string A.name] 9))) hgrow (fun r e => (World.ownsRow.lt HO.out r e).1), ?_⟩
            have e : (vin.map (·.1)).map (·.name) ++ ((its.map (·.1)).take (k + 1)).map (·.name) = L ++ [A.name] := by
              rw [HL.out, List.take_add_one, HK.out]
              simp
            rw [e]
            exact owns_snocS hown'
          clear hown' hgrow
          go_roundw
          case rel => exact ⟨ST.out.1, k + 1, by omega, by go_num, ST.out.2⟩
          case measure => simp [intOf]; omega
        · obtain rfl : k = its.length := by omega
          have HF : Hid (L = (vin.map (·.1)).map (·.name) ++ (its.map (·.1)).map (·.name)) := by show _ = _; rw [HL.out, List.take_of_length_le (by rw [List.length_map]; exact Nat.le_refl _)]
          clear HL
          obtain ⟨W2, hW2⟩ : ∃ W2, W2 = wr := ⟨_, rfl⟩
          rw [← hW2] at HO hg r4 ⊢
          clear hW2
          go_wp2_with fail
          clear r4
          go_loopw [3, 6] (fun l i wr => w0.grownBy wr none ∧ ∃ k : Nat, k ≤ cs.length ∧ i = .int .i64 k ∧ OwnsS wr w0.heap.size l ((vin.map (·.1)).map (·.name) ++ (its.map (·.1)).map (·.name) ++ ((cs.map (·.n)).take k).map (·.out))) (fun _ i _ => cs.length - (intOf i).toNat)
          case atStart => exact ⟨hg, 0, Nat.zero_le _, rfl, by rw [List.take_zero, List.map_nil, List.append_nil, ← HF.out]; exact HO.out⟩
          case round =>
            obtain ⟨hg, k, hk, rfl, hown⟩ := hrel
            obtain ⟨L, hL⟩ : ∃ L, L = (vin.map (·.1)).map (·.name) ++ (its.map (·.1)).map (·.name) ++ ((cs.map (·.n)).take k).map (·.out) := ⟨_, rfl⟩
            rw [← hL] at hown
            have HL := hide hL
            have hlen : L.length ≤ 4194304 := by rw [hL]; simp; omega
            have HO := hide hown
            obtain ⟨va, vc, rfl⟩ := OwnsL.form hown
            clear hown hL
            obtain ⟨r0, r1, r2, r3, r4⟩ := gra_cells (g := ⟨nam, ⟨na0, cs.length, nc0⟩, ⟨ia, vin.length, ic⟩, ⟨oa, vout.length, oc⟩, ⟨ta, its.length, tc⟩⟩) (BX.out wr hg)
            simp only at r1
            clear r0 r2 r3 r4
            by_cases hlt : k < cs.length
            · have hlt' : k < (cs.map (·.n)).length := by rw [List.length_map]; exact hlt
              have HLk := HG.out.base.nodes.more (grown_trans g0 hg)
              obtain ⟨b, off, rfl⟩ := HLk.addr hlt'
              have HC := HLk.nod k hlt'
              have a0 := HC.2.2.2.1
              have HK : Hid ((cs.map (·.n))[k]? = some (cs.map (·.n))[k]) := List.getElem?_eq_getElem hlt'
              obtain ⟨A, hA⟩ : ∃ A, A = (cs.map (·.n))[k] := ⟨_, rfl⟩
              rw [← hA] at a0 HK
              clear HLk hA HC
              have OW : Hid (∀ o, OwnsS (wr.alloc o) w0.heap.size (.slice va _ vc) L) := fun o => HO.out.more (grown_new _ _)
              have hsz := hg.size
              go_wp2_with (at_builtin; refine wpList_append_own _ rfl (.tmp 46) (.tmp 53) 49 rfl w0.heap.size 9 i0 (.string ⟨#[]⟩) 1 16 Tryd.underlying49 hi hz0 hz1 hz2 rfl (by decide) _ _ _ rfl (by exact OW.out _) ⟨wr.heap.size, 0, none⟩ 1 1 [.string A.out] rfl rfl (by have h := cell_one_new wr (Value.string A.out) 9; simpa using h) (by simp [Value.oneCell']) (by simp only [maxLen]; omega) (by omega) (by simp; omega) ?_; intro v' w8 hown' hgrow _; obtain ⟨na, nc, rfl⟩ := own_form hown')
              have ST : Hid (w0.grownBy w8 none ∧ OwnsS w8 w0.heap.size (.slice na (L.length + 1) nc) ((vin.map (·.1)).map (·.name) ++ (its.map (·.1)).map (·.name) ++ ((cs.map (·.n)).take (k + 1)).map (·.out))) := by
                refine ⟨grown_trans_row (grown_trans hg (grown_new wr (.cells #[.string A.out] 9))) hgrow (fun r e => (World.ownsRow.lt HO.out r e).1), ?_⟩
                have e : (vin.map (·.1)).map (·.name) ++ (its.map (·.1)).map (·.name) ++ ((cs.map (·.n)).take (k + 1)).map (·.out) = L ++ [A.out] := by
                  rw [HL.out, List.take_add_one, HK.out]
                  simp
                rw [e]
                exact owns_snocS hown'
              clear hown' hgrow
              go_roundw
              case rel => exact ⟨ST.out.1, k + 1, by omega, by go_num, ST.out.2⟩
              case measure => simp [intOf]; omega
            · obtain rfl : k = cs.length := by omega
              have HF : Hid (L = (vin.map (·.1)).map (·.name) ++ (its.map (·.1)).map (·.name) ++ (cs.map (·.n)).map (·.out)) := by show _ = _; rw [HL.out, List.take_of_length_le (by rw [List.length_map]; exact Nat.le_refl _)]
              clear HL
              go_wp2
              go_ret
              exact ⟨⟨va, L.length, vc⟩, rfl, by rw [show vnames cs vin its = L from HF.out.symm]; exact HO.out.base_le g0.size, grown_trans g0 hg⟩

set_option maxRecDepth 100000 in
set_option maxHeartbeats 3200000 in
theorem unlike_any (v : Value) (l : List ByteArray) (w : World) (hv : IsStrs w v l) :
    Calls Tryd.prog 49 #[v] w fun e w' => e = .returned (.bool (namesOK [] l)) ∧ w.grownBy w' none := by
  have HV := hide hv
  obtain ⟨va, vc, rfl, h1, h2, h3⟩ := hv.form
  obtain ⟨T, hT⟩ : ∃ T, T = namesOK [] l := ⟨_, rfl⟩
  have HT : Hid (T = namesOK (l.take 0) (l.drop 0)) := by show _ = _; rw [hT]; rfl
  rw [← hT]
  clear hv hT
  go_enter Tryd.func49, Tryd.ntmps49
  go_wp2_with fail
  go_loopw [3] (fun i wr => w.grownBy wr none ∧ ∃ k : Nat, k ≤ l.length ∧ i = .int .i64 k ∧ T = namesOK (l.take k) (l.drop k)) (fun i _ => l.length - (intOf i).toNat)
  case atStart => exact ⟨grown_refl _, 0, Nat.zero_le _, rfl, HT.out⟩
  case round =>
    obtain ⟨hg, k, hk, rfl, htk⟩ := hrel
    have HTK := hide htk
    clear htk
    by_cases hlt : k < l.length
    · have HVk := HV.out.more hg
      obtain ⟨vb, vo, rfl⟩ := HVk.addr hlt
      have a0 := str_at HVk k hlt
      have HAT := hide (namesOK_at hlt)
      obtain ⟨Y, hY⟩ : ∃ Y, Y = l[k] := ⟨_, rfl⟩
      rw [← hY] at a0 HAT
      have HYE : Hid (l[k] = Y) := hY.symm
      clear hY
      by_cases he : (Y.toList == []) = true
      · have E : Hid (T = false) := by show _ = _; rw [HTK.out, HAT.out, he]; simp
        go_wp2
        go_ret
        exact ⟨by rw [E.out]; rfl, hg⟩
      · have he' : (Y.toList == []) = false := by simpa using he
        clear he
        obtain ⟨wo, hwo⟩ : ∃ wo, wo = wr := ⟨_, rfl⟩
        rw [← hwo] at hg a0 ⊢
        clear hwo HVk
        go_wp2_with fail
        go_loopw [4] (fun j wr => w.grownBy wr none ∧ ∃ q : Nat, q ≤ k ∧ j = .int .i64 q ∧ Y ∉ l.take q) (fun j _ => k - (intOf j).toNat)
        case atStart => exact ⟨hg, 0, Nat.zero_le _, rfl, by simp⟩
        case round =>
          obtain ⟨hgq, q, hq, rfl, hno⟩ := hrel
          have HNO := hide hno
          clear hno a0
          by_cases hlq : q < k
          · have HVq := HV.out.more hgq
            have a0 := str_at HVq k hlt
            rw [HYE.out] at a0
            have a1 := str_at HVq q (by omega)
            have HK : Hid (l[q]? = some l[q]) := List.getElem?_eq_getElem (by omega)
            obtain ⟨X, hX⟩ : ∃ X, X = l[q] := ⟨_, rfl⟩
            rw [← hX] at a1 HK
            clear HVq hX
            by_cases h : (X.toList == Y.toList) = true
            · have E : Hid (T = false) := by
                show _ = _
                have e1 : X.toList = Y.toList := by simpa using h
                have e2 : X = Y := bytes_eq (by rw [← bytes_toList, ← bytes_toList, e1])
                have e3 : inL Y (l.take k) = true := inL_iff.2 (by
                  rw [← e2]
                  exact List.mem_of_getElem? (i := q) (by rw [List.getElem?_take_of_lt hlq]; exact HK.out))
                rw [HTK.out, HAT.out, e3]
                rfl
              go_wp2_with fail
              go_quiet (fail)
              go_wp2
              go_ret
              exact ⟨by rw [E.out]; rfl, grown_drewK hgq _⟩
            · have h' : (X.toList == Y.toList) = false := by simpa using h
              have HN : Hid (Y ∉ l.take (q + 1)) := by
                show _ ∉ _
                rw [List.take_add_one, HK.out, List.mem_append]
                rintro (e | e)
                · exact HNO.out e
                · have e2 : Y = X := by simpa using e
                  rw [e2] at h
                  simp at h
              clear h
              go_wp2_with fail
              go_quiet (fail)
              go_wp2_with fail
              go_roundw
              case rel => exact ⟨grown_drewK hgq _, q + 1, by omega, by go_num, HN.out⟩
              case measure => simp [intOf]; omega
          · obtain rfl : q = k := by omega
            have E : Hid (T = namesOK (l.take (q + 1)) (l.drop (q + 1))) := by
              show _ = _
              rw [HTK.out, HAT.out, inL_not.2 HNO.out, he']
              rfl
            go_wp2_with fail
            go_roundw
            case rel => exact ⟨hgq, q + 1, by omega, by go_num, E.out⟩
            case measure => simp [intOf]; omega
    · have E : Hid (T = true) := by show _ = _; rw [HTK.out, List.drop_of_length_le (by omega)]; rfl
      go_wp2
      go_ret
      exact ⟨by rw [E.out]; rfl, hg⟩
end Go.Proofs.YtmdpeckeliplkaaDoor

/- The document's Check and Order of graphs, by the walk (mkGDChk.py). -/
namespace Go.Proofs.YtmdpeckeliplkaaDoor
open Go.RowKit

theorem anyS_iff {x : ByteArray} {l : List ByteArray} : l.any (isS x) = true ↔ x ∈ l := by
  rw [List.any_eq_true]
  constructor
  · rintro ⟨y, hy, e⟩
    unfold isS at e
    have e2 : x = y := bytes_eq (by rw [← bytes_toList, ← bytes_toList]; simpa using e)
    rw [e2]
    exact hy
  · intro h
    exact ⟨x, h, by simp [isS]⟩

theorem anyS_not {x : ByteArray} {l : List ByteArray} : l.any (isS x) = false ↔ x ∉ l := by
  rw [← anyS_iff]
  simp

section
variable {cs : List Nc} {vin vout : List (Val × List Int)} {its : List (Nam × List Int × List Int)}

theorem order_many (h : manyF cs.length vin.length vout.length its.length = true) : (orderR cs vin vout its).2 = 6 := by
  unfold orderR
  rw [if_pos h]

theorem order_parts (h : manyF cs.length vin.length vout.length its.length = false) (h2 : partsF cs vin its ≠ 0) : (orderR cs vin vout its).2 = partsF cs vin its := by
  unfold orderR
  rw [if_neg (by simp [h]), if_pos h2]

theorem order_names (h : manyF cs.length vin.length vout.length its.length = false) (h2 : partsF cs vin its = 0) (h3 : ¬ (namesOK [] (vnames cs vin its) = true ∧ foundF cs (onames vout) (vnames cs vin its) = true)) : (orderR cs vin vout its).2 = 4 := by
  unfold orderR
  rw [if_neg (by simp [h]), if_neg (by simp [h2]), if_pos]
  rw [← Bool.not_eq_true, Bool.and_eq_true]
  exact h3

theorem order_line (h : manyF cs.length vin.length vout.length its.length = false) (h2 : partsF cs vin its = 0) (h3 : namesOK [] (vnames cs vin its) = true) (h4 : foundF cs (onames vout) (vnames cs vin its) = true) : (orderR cs vin vout its).2 = if (lineF cs vin its).length = cs.length then 0 else 4 := by
  have hle : (lineF cs vin its).length ≤ cs.length := ordF_len _ _ _
  unfold orderR
  rw [if_neg (by simp [h]), if_neg (by simp [h2]), if_neg (by simp [h3, h4])]
  by_cases hl : (lineF cs vin its).length = cs.length
  · rw [if_neg (by omega), if_pos hl]
  · rw [if_pos (by omega), if_neg hl]
end

set_option maxRecDepth 100000 in
set_option maxHeartbeats 12800000 in
theorem dcheck_any (g : Gra) (cs : List Nc) (vin vout : List (Val × List Int)) (its : List (Nam × List Int × List Int)) (w : World) (hg : GraphOk w g cs vin vout its) :
    Calls Tryd.prog 36 #[gval g] w fun e w' => e = .returned (.int .i64 (orderR cs vin vout its).2) ∧ w.grownBy w' none := by
  obtain ⟨i0, hi, hz0, hz1, hz2⟩ := info_parts infoStr
  have HG := hide hg
  have PA := hide (fun (wx : World) (hx : w.grownBy wx none) => dparts_any g cs vin vout its wx (hg.more hx).base)
  have NA := hide (fun (wx : World) (hx : w.grownBy wx none) => dnames_any g cs vin vout its wx (hg.more hx))
  have WA := hide (fun (wx : World) (hx : w.grownBy wx none) => work_any g cs wx (hg.more hx).base.nodes (hg.more hx).base.few.1 (fun c hc => ((hg.more hx).base.node c hc).ins))
  have OM := hide (order_many (cs := cs) (vin := vin) (vout := vout) (its := its))
  have OP := hide (order_parts (cs := cs) (vin := vin) (vout := vout) (its := its))
  have ON := hide (order_names (cs := cs) (vin := vin) (vout := vout) (its := its))
  have OLI := hide (order_line (cs := cs) (vin := vin) (vout := vout) (its := its))
  have WL := hide (work_line (cs := cs) (vin := vin) (its := its) (fun c hc => (hg.is c hc).1))
  obtain ⟨f1, f2, f3, f4⟩ := hg.base.few
  obtain ⟨nam, ⟨na0, nn, nc0⟩, ⟨ia, iN, ic⟩, ⟨oa, oN, oc⟩, ⟨ta, tN, tc⟩⟩ := g
  obtain ⟨xa, xc, e1, p1, p2, p3⟩ := hg.base.nodes.form
  obtain ⟨ya, yc, e2, p4, p5, p6⟩ := hg.base.ins.form
  obtain ⟨za, zc, e3, p7, p8, p9⟩ := hg.base.outs.form
  obtain ⟨qa, qc, e4, p10, p11, p12⟩ := hg.base.inits.form
  rw [List.length_map] at e1 e2 e3 e4 p1 p3 p4 p6 p7 p9 p10 p12
  obtain ⟨rfl, rfl, rfl⟩ : na0 = xa ∧ nn = cs.length ∧ nc0 = xc := by simpa [Sl.v] using e1
  obtain ⟨rfl, rfl, rfl⟩ : ia = ya ∧ iN = vin.length ∧ ic = yc := by simpa [Sl.v] using e2
  obtain ⟨rfl, rfl, rfl⟩ : oa = za ∧ oN = vout.length ∧ oc = zc := by simpa [Sl.v] using e3
  obtain ⟨rfl, rfl, rfl⟩ : ta = qa ∧ tN = its.length ∧ tc = qc := by simpa [Sl.v] using e4
  obtain ⟨T, hT⟩ : ∃ T, T = (orderR cs vin vout its).2 := ⟨_, rfl⟩
  rw [← hT] at OM OP ON OLI ⊢
  clear hg e1 e2 e3 e4 hT
  unfold gval at PA NA WA ⊢
  simp only at PA NA WA ⊢
  obtain ⟨w0, hw0⟩ : ∃ w0, w0 = w.alloc (.cells #[.string nam, .slice na0 cs.length nc0, .slice ia vin.length ic, .slice oa vout.length oc, .slice ta its.length tc] 26) := ⟨_, rfl⟩
  have g0 : w.grownBy w0 none := by rw [hw0]; exact grown_new _ _
  have b0 := heap_alloc_new w (.cells #[.string nam, .slice na0 cs.length nc0, .slice ia vin.length ic, .slice oa vout.length oc, .slice ta its.length tc] 26)
  rw [← hw0] at b0
  have BX : Hid (∀ wx, w0.grownBy wx none → wx.heap[w.heap.size]? = some (.cells #[.string nam, .slice na0 cs.length nc0, .slice ia vin.length ic, .slice oa vout.length oc, .slice ta its.length tc] 26 (0, 0))) := fun wx hx => box_kept b0 hx
  clear b0
  have CL : Hid (∀ wx, w0.grownBy wx none → wx.cell? ⟨w.heap.size, 0, none⟩ = some (.string nam) ∧ wx.cell? ⟨w.heap.size, 1, none⟩ = some (.slice na0 cs.length nc0) ∧ wx.cell? ⟨w.heap.size, 2, none⟩ = some (.slice ia vin.length ic) ∧ wx.cell? ⟨w.heap.size, 3, none⟩ = some (.slice oa vout.length oc) ∧ wx.cell? ⟨w.heap.size, 4, none⟩ = some (.slice ta its.length tc)) := fun wx hx => gra_cells (g := ⟨nam, ⟨na0, cs.length, nc0⟩, ⟨ia, vin.length, ic⟩, ⟨oa, vout.length, oc⟩, ⟨ta, its.length, tc⟩⟩) (BX.out wx hx)
  obtain ⟨r0, r1, r2, r3, r4⟩ := CL.out w0 (grown_refl _)
  rw [hw0] at r0 r1 r2 r3 r4
  by_cases hm : manyF cs.length vin.length vout.length its.length = true
  · have E := hide (OM.out hm)
    go_enter Tryd.func36, Tryd.ntmps36
    unfold manyF at hm
    simp only [Bool.or_eq_true, decide_eq_true_eq] at hm
    by_cases h1 : (1000 : Int) < (cs.length : Int)
    · go_wp2
      go_ret
      exact ⟨by rw [E.out]; rfl, grown_trans (grown_new _ _) (grown_refl _)⟩
    · by_cases h2 : (3000 : Int) < (vin.length : Int) + (its.length : Int) + (cs.length : Int)
      · go_wp2
        go_ret
        exact ⟨by rw [E.out]; rfl, grown_trans (grown_new _ _) (grown_refl _)⟩
      · have h3 : (3000 : Int) < (vout.length : Int) := by omega
        go_wp2
        go_ret
        exact ⟨by rw [E.out]; rfl, grown_trans (grown_new _ _) (grown_refl _)⟩
  · have hm' : manyF cs.length vin.length vout.length its.length = false := by simpa using hm
    have HM := hide hm'
    have hm2 := hm'
    unfold manyF at hm2
    simp only [Bool.or_eq_false_iff, decide_eq_false_iff_not] at hm2
    have h1 : ¬ (1000 : Int) < (cs.length : Int) := by omega
    have h2 : ¬ (3000 : Int) < (vin.length : Int) + (its.length : Int) + (cs.length : Int) := by omega
    have h3 : ¬ (3000 : Int) < (vout.length : Int) := by omega
    have hsm : cs.length ≤ 1000 ∧ vin.length + its.length + cs.length ≤ 3000 ∧ vout.length ≤ 3000 := by omega
    clear hm hm' hm2
    go_enter Tryd.func36, Tryd.ntmps36
    go_wp2_with fail
    rw [← hw0]
    clear hw0 r0 r1 r2 r3 r4 h1 h2 h3
    refine (PA.out w0 g0).mono ?_
    rintro e w1 ⟨rfl, hg1⟩
    obtain ⟨PE, hPE⟩ : ∃ PE, PE = partsF cs vin its := ⟨_, rfl⟩
    rw [← hPE] at OP ON OLI ⊢
    by_cases hp : PE = 0
    · have ON2 := hide (ON.out HM.out hp)
      have OL2 := hide (OLI.out HM.out hp)
      subst hp
      clear hPE OP ON OLI
      obtain ⟨r0, r1, r2, r3, r4⟩ := CL.out w1 hg1
      go_wp2_with fail
      clear r0 r1 r2 r3 r4
      refine (NA.out w1 (grown_trans g0 hg1)).mono ?_
      rintro e w2 ⟨u, rfl, hu, hg2⟩
      obtain ⟨ua, uc, hue⟩ := OwnsL.form hu
      have hvl := vnames_len cs vin its
      obtain ⟨NL, hNL⟩ : ∃ NL, NL = vnames cs vin its := ⟨_, rfl⟩
      rw [← hNL] at hu hue ON2 OL2 WL hvl
      rw [hue] at hu ⊢
      have HU := hide (hu.isL (bytes := 16) scell_len (by omega))
      clear hu hue hNL hvl
      have g2 := grown_trans hg1 hg2
      obtain ⟨r0, r1, r2, r3, r4⟩ := CL.out w2 g2
      by_cases hv0 : vout.length = 0
      · have E : Hid (T = 4) := ON2.out (fun h => by have := (foundF_iff.1 h.2).2.1; unfold onames at this; simp at this; exact this (List.length_eq_zero_iff.1 hv0))
        have hv1 : (vout.length : Int) = 0 := by omega
        go_wp2
        go_ret
        exact ⟨by rw [E.out]; rfl, grown_trans g0 g2⟩
      · have hv1 : ((vout.length : Int) == 0) = false := by rw [beq_eq_false_iff_ne]; omega
        have HV0 := hide hv0
        clear hv0
        go_wp2_with fail
        clear r0 r1 r2 r3 r4 hv1
        refine (unlike_any _ NL w2 HU.out).mono ?_
        rintro e w3 ⟨rfl, hg3⟩
        have g3 := grown_trans g2 hg3
        cases hno : namesOK [] NL with
        | false =>
          have E : Hid (T = 4) := ON2.out (fun h => by rw [hno] at h; simp at h)
          clear hno
          go_wp2
          go_ret
          exact ⟨by rw [E.out]; rfl, grown_trans g0 g3⟩
        | true =>
          have HNO := hide hno
          clear hno
          have HU3 := hide (HU.out.more hg3)
          obtain ⟨on, hon⟩ : ∃ on, on = onames vout := ⟨_, rfl⟩
          have HON := hide hon
          have hol : on.length = vout.length := by rw [hon]; simp [onames]
          rw [← hon] at ON2 OL2
          have HOL := hide hol
          clear hon hol
          go_wp2_with fail
          go_loopw [5] (fun i wr => w3.grownBy wr none ∧ ∃ k : Nat, k ≤ cs.length ∧ i = .int .i64 k ∧ ∀ c ∈ cs.take k, ∀ x ∈ c.ins, x ∈ NL) (fun i _ => cs.length - (intOf i).toNat)
          case atStart => exact ⟨grown_refl _, 0, Nat.zero_le _, rfl, by simp⟩
          case round =>
            obtain ⟨hgr, k, hk, rfl, hall⟩ := hrel
            have HA := hide hall
            clear hall
            have gwr := grown_trans g3 hgr
            obtain ⟨r0, r1, r2, r3, r4⟩ := CL.out wr gwr
            by_cases hlt : k < cs.length
            · have hlt' : k < (cs.map (·.n)).length := by rw [List.length_map]; exact hlt
              have HLk := HG.out.base.nodes.more (grown_trans g0 gwr)
              obtain ⟨b, off, rfl⟩ := HLk.addr hlt'
              have HN2 : Hid (∀ wx, w.grownBy wx none → wx.cell? ⟨b, off + k * 5 + 2, none⟩ = some (.slice cs[k].n.iv.a cs[k].n.iv.n cs[k].n.iv.c)) := fun wx hx => by have h := ((HG.out.base.nodes.more hx).nod k hlt').2.2.1; rw [List.getElem_map] at h; exact h
              have hii := (HG.out.base.node cs[k] (List.getElem_mem hlt)).ins
              have HMEM : Hid (cs[k] ∈ cs) := List.getElem_mem hlt
              have HCK : Hid (cs[k]? = some cs[k]) := List.getElem?_eq_getElem hlt
              obtain ⟨A, hA⟩ : ∃ A, A = cs[k] := ⟨_, rfl⟩
              rw [← hA] at HN2 hii HMEM HCK
              have HII := hide hii
              obtain ⟨va', vc', ei, q1, q2, q3⟩ := hii.form
              obtain ⟨⟨aop, anm, ⟨iva, ivn, ivc⟩, aot, aav⟩, ains, axs, aks⟩ := A
              simp only [Sl.v, Value.slice.injEq] at ei
              obtain ⟨rfl, rfl, rfl⟩ := ei
              simp only at HN2 HII
              clear HLk hA hii
              obtain ⟨wo, hwo⟩ : ∃ wo, wo = wr := ⟨_, rfl⟩
              rw [← hwo] at hgr gwr r0 r1 r2 r3 r4 ⊢
              clear hwo
              go_wp2_with fail
              clear r0 r1 r2 r3 r4
              go_loopw [6] (fun j wr => w3.grownBy wr none ∧ ∃ q : Nat, q ≤ ains.length ∧ j = .int .i64 q ∧ ∀ x ∈ ains.take q, x ∈ NL) (fun j _ => ains.length - (intOf j).toNat)
              case atStart => exact ⟨hgr, 0, Nat.zero_le _, rfl, by simp⟩
              case round =>
                obtain ⟨hgq, q, hq, rfl, hin⟩ := hrel
                have HIN := hide hin
                clear hin
                have gwq := grown_trans g3 hgq
                obtain ⟨r0, r1, r2, r3, r4⟩ := CL.out wr gwq
                have a2 := HN2.out wr (grown_trans g0 gwq)
                by_cases hlq : q < ains.length
                · have HS := HII.out.more (grown_trans g0 gwq)
                  obtain ⟨sb, so, rfl⟩ := HS.addr hlq
                  have d0 := str_at HS q hlq
                  have HK : Hid (ains[q]? = some ains[q]) := List.getElem?_eq_getElem hlq
                  obtain ⟨X, hX⟩ : ∃ X, X = ains[q] := ⟨_, rfl⟩
                  rw [← hX] at d0 HK
                  clear HS hX
                  have GM := hide (gamong_any X _ NL wr (HU3.out.more hgq))
                  go_wp2_with fail
                  clear r0 r1 r2 r3 r4 a2 d0
                  refine GM.out.mono ?_
                  rintro e w4 ⟨rfl, hg4⟩
                  cases hx : NL.any (isS X) with
                  | false =>
                    have E : Hid (T = 4) := ON2.out (fun h => anyS_not.1 hx ((foundF_iff.1 h.2).2.2.2 _ HMEM.out X (List.mem_of_getElem? HK.out)))
                    clear hx
                    go_wp2
                    go_ret
                    exact ⟨by rw [E.out]; rfl, grown_trans (grown_trans g0 gwq) hg4⟩
                  | true =>
                    have HN : Hid (∀ x ∈ ains.take (q + 1), x ∈ NL) := fun x hxm => by
                      rw [List.take_add_one, HK.out, List.mem_append] at hxm
                      rcases hxm with h | h
                      · exact HIN.out x h
                      · have e : x = X := by simpa using h
                        rw [e]
                        exact anyS_iff.1 hx
                    clear hx
                    go_wp2_with fail
                    go_roundw
                    case rel => exact ⟨grown_trans hgq hg4, q + 1, by omega, by go_num, HN.out⟩
                    case measure => simp [intOf]; omega
                · have HN : Hid (∀ c ∈ cs.take (k + 1), ∀ x ∈ c.ins, x ∈ NL) := fun c hcm x hx => by
                    rw [List.take_add_one, HCK.out, List.mem_append] at hcm
                    rcases hcm with h | h
                    · exact HA.out c h x hx
                    · have e : c = ⟨⟨aop, anm, ⟨iva, ains.length, ivc⟩, aot, aav⟩, ains, axs, aks⟩ := by simpa using h
                      rw [e] at hx
                      exact HIN.out x (by rw [List.take_of_length_le (by omega)]; exact hx)
                  go_wp2_with fail
                  clear r0 r1 r2 r3 r4 a2
                  go_roundw
                  case rel => exact ⟨hgq, k + 1, by omega, by go_num, HN.out⟩
                  case measure => simp [intOf]; omega
            · have HAL : Hid (∀ c ∈ cs, ∀ x ∈ c.ins, x ∈ NL) := by
                have h := HA.out
                rw [List.take_of_length_le (by omega)] at h
                exact h
              obtain ⟨wo, hwo⟩ : ∃ wo, wo = wr := ⟨_, rfl⟩
              rw [← hwo] at hgr gwr r0 r1 r2 r3 r4 ⊢
              clear hwo HA
              go_wp2_with fail
              clear r0 r1 r2 r3 r4
              go_loopw [7, 8] (fun l i wr => w3.grownBy wr none ∧ ∃ (k : Nat) (va : Option Addr) (vc : Nat), k ≤ vout.length ∧ i = .int .i64 k ∧ l = .slice va k vc ∧ OwnsS wr w3.heap.size (.slice va k vc) (on.take k) ∧ (∀ y ∈ on.take k, y ∈ NL) ∧ (on.take k).Nodup) (fun _ i _ => vout.length - (intOf i).toNat)
              case atStart => exact ⟨hgr, 0, none, 0, Nat.zero_le _, rfl, rfl, by rw [List.take_zero]; exact OwnsL.nil .., by simp, by simp⟩
              case round =>
                obtain ⟨hgq, k, va, vc, hk, rfl, rfl, hown, hall, hnd⟩ := hrel
                have HO := hide hown
                have HA := hide hall
                have HND := hide hnd
                clear hown hall hnd
                have gwq := grown_trans g3 hgq
                obtain ⟨r0, r1, r2, r3, r4⟩ := CL.out wr gwq
                by_cases hlt : k < vout.length
                · have hlt' : k < (vout.map (·.1)).length := by rw [List.length_map]; exact hlt
                  have HLk := HG.out.base.outs.more (grown_trans g0 gwq)
                  obtain ⟨b, off, rfl⟩ := HLk.addr hlt'
                  have a0 := (HLk.val k hlt').1
                  rw [List.getElem_map] at a0
                  have HK : Hid (on[k]? = some vout[k].1.name) := by show _ = _; rw [HON.out]; unfold onames; rw [List.map_map, List.getElem?_map, List.getElem?_eq_getElem hlt]; rfl
                  obtain ⟨Y, hY⟩ : ∃ Y, Y = vout[k].1.name := ⟨_, rfl⟩
                  rw [← hY] at a0 HK
                  clear HLk hY
                  have TL : Hid ((on.take k).length = k) := by show _ = _; have := HOL.out; rw [List.length_take]; omega
                  have GM := hide (gamong_any Y _ NL wr (HU3.out.more hgq))
                  have A0 := hide (fun (wx : World) (hx : wr.grownBy wx none) => cell_still a0 hx)
                  go_wp2_with fail
                  clear r0 r1 r2 r3 r4 a0
                  refine GM.out.mono ?_
                  rintro e w4 ⟨rfl, hg4⟩
                  have g4 := grown_trans gwq hg4
                  obtain ⟨r0, r1, r2, r3, r4⟩ := CL.out w4 g4
                  have a0 := A0.out w4 hg4
                  cases hx : NL.any (isS Y) with
                  | false =>
                    have E : Hid (T = 4) := ON2.out (fun h => anyS_not.1 hx ((foundF_iff.1 h.2).2.2.1 Y (List.mem_of_getElem? HK.out)))
                    clear hx
                    go_wp2
                    go_ret
                    exact ⟨by rw [E.out]; rfl, grown_trans g0 g4⟩
                  | true =>
                    have HYN : Hid (Y ∈ NL) := anyS_iff.1 hx
                    clear hx
                    have IS4 : IsStrs w4 (.slice va k vc) (on.take k) := (HO.out.more hg4).isL (bytes := 16) scell_len (by rw [TL.out]; omega)
                    have GM2 := hide (gamong_any Y _ (on.take k) w4 IS4)
                    clear IS4
                    go_wp2_with fail
                    clear r0 r1 r2 r3 r4 a0
                    refine GM2.out.mono ?_
                    rintro e w5 ⟨rfl, hg5⟩
                    have g5 := grown_trans g4 hg5
                    obtain ⟨r0, r1, r2, r3, r4⟩ := CL.out w5 g5
                    have a0 := A0.out w5 (grown_trans hg4 hg5)
                    cases hx2 : (on.take k).any (isS Y) with
                    | true =>
                      have E : Hid (T = 4) := ON2.out (fun h => by
                        have hd := (namesOK_nil.1 (foundF_iff.1 h.2).1).2
                        have hm := anyS_iff.1 hx2
                        obtain ⟨q, hq, eq⟩ := List.mem_take_iff_getElem.1 hm
                        rw [List.nodup_iff_pairwise_ne, List.pairwise_iff_getElem] at hd
                        obtain ⟨hkl, ek⟩ := List.getElem?_eq_some_iff.1 HK.out
                        exact hd q k (by omega) hkl (by omega) (eq.trans ek.symm))
                      clear hx2
                      go_wp2
                      go_ret
                      exact ⟨by rw [E.out]; rfl, grown_trans g0 g5⟩
                    | false =>
                      have HNN : Hid (Y ∉ on.take k) := anyS_not.1 hx2
                      clear hx2
                      have OW : Hid (∀ o, (w5.alloc o).ownsRow w3.heap.size 9 1 (.slice va k vc) k ((on.take k).flatMap scell)) := fun o => owns_row_at (((HO.out.more hg4).more hg5).more (grown_new _ _)) TL.out
                      have s35 : w3.heap.size ≤ w5.heap.size := by have := (grown_trans hgq (grown_trans hg4 hg5)).size; exact this
                      go_wp2_with (at_builtin; refine wpList_append_own _ rfl (.tmp 105) (.tmp 112) 49 rfl w3.heap.size 9 i0 (.string ⟨#[]⟩) 1 16 Tryd.underlying49 hi hz0 hz1 hz2 rfl (by decide) (.slice va k vc) k ((on.take k).flatMap scell) rfl (by exact OW.out _) ⟨w5.heap.size, 0, none⟩ 1 1 [.string Y] rfl rfl (by have h := cell_one_new w5 (Value.string Y) 9; simpa using h) (by simp [Value.oneCell']) (by simp only [maxLen]; omega) (by omega) (by simp; omega) ?_; intro v' w8 hown' hgrow _; obtain ⟨na, nc, rfl⟩ := own_form hown')
                      have ST : Hid (w3.grownBy w8 none ∧ OwnsS w8 w3.heap.size (.slice na (k + 1) nc) (on.take (k + 1)) ∧ (∀ y ∈ on.take (k + 1), y ∈ NL) ∧ (on.take (k + 1)).Nodup) := by
                        have et : on.take (k + 1) = on.take k ++ [Y] := by rw [List.take_add_one, HK.out]; rfl
                        refine ⟨grown_trans_row (grown_trans (grown_trans hgq (grown_trans hg4 hg5)) (grown_new w5 (.cells #[.string Y] 9))) hgrow (fun r e => (World.ownsRow.lt HO.out r e).1), ?_, fun y hy => ?_, ?_⟩
                        · rw [et]
                          exact owns_at_row TL.out hown'
                        · rw [et, List.mem_append] at hy
                          rcases hy with h | h
                          · exact HA.out y h
                          · have e : y = Y := by simpa using h
                            rw [e]
                            exact HYN.out
                        · rw [et, List.nodup_append]
                          refine ⟨HND.out, by simp, fun a ha b hb => ?_⟩
                          have e : b = Y := by simpa using hb
                          rw [e]
                          exact fun e2 => HNN.out (e2 ▸ ha)
                      clear hown' hgrow r0 r1 r2 r3 r4 a0
                      go_roundw
                      case rel => exact ⟨ST.out.1, k + 1, _, _, by omega, by go_num, rfl, ST.out.2.1, ST.out.2.2.1, ST.out.2.2.2⟩
                      case measure => simp [intOf]; omega
                · have hfo : foundF cs on NL = true := by
                    have h1 := HA.out
                    have h2 := HND.out
                    have h3 := HOL.out
                    rw [List.take_of_length_le (by omega)] at h1 h2
                    exact foundF_iff.2 ⟨namesOK_nil.2 ⟨fun y hy => (namesOK_nil.1 HNO.out).1 y (h1 y hy), h2⟩, by have := HV0.out; omega, h1, HAL.out⟩
                  have ET := hide (OL2.out HNO.out hfo)
                  have EW := hide (WL.out HNO.out HAL.out)
                  clear hfo
                  have gd := grown_drew (grown_refl wr)
                  have WX := hide (WA.out wr.drew (grown_trans (grown_trans g0 gwq) gd))
                  rw [EW.out] at WX
                  obtain ⟨LF, hLF⟩ : ∃ LF, LF = lineF cs vin its := ⟨_, rfl⟩
                  rw [← hLF] at WX ET
                  clear hLF EW
                  go_wp2_with fail
                  go_region_held3 (fun w' => w'.cell? ⟨w.heap.size, 0, none⟩ = some (.string nam) ∧ w'.cell? ⟨w.heap.size, 1, none⟩ = some (.slice na0 cs.length nc0) ∧ w'.cell? ⟨w.heap.size, 2, none⟩ = some (.slice ia vin.length ic) ∧ w'.cell? ⟨w.heap.size, 3, none⟩ = some (.slice oa vout.length oc) ∧ w'.cell? ⟨w.heap.size, 4, none⟩ = some (.slice ta its.length tc)) (go_keep) (first | (go_at_call 37; refine WX.out.mono ?_; rintro e w4 ⟨⟨xa2, xn2, xc2⟩, rfl, ho4, hg4⟩; obtain ⟨xa3, xc3, hx3⟩ := own_form ho4.1; obtain ⟨rfl, rfl, rfl⟩ : xa2 = xa3 ∧ xn2 = LF.length ∧ xc2 = xc3 := (by simpa [Sl.v] using hx3); have g4 : wr.grownBy w4 none := grown_trans gd hg4; obtain ⟨r0, r1, r2, r3, r4⟩ := CL.out w4 (grown_trans gwq g4); unfold Sl.v; simp only) | fail)
                  all_goals
                    by_cases hll : LF.length = cs.length
                    · have E : Hid (T = 0) := by show _ = _; rw [ET.out, if_pos hll]
                      rw [hll]
                      go_wp2
                      go_ret
                      exact ⟨by rw [E.out]; rfl, grown_trans (grown_trans g0 gwq) g4⟩
                    · have E : Hid (T = 4) := by show _ = _; rw [ET.out, if_neg hll]
                      have hll' : ((LF.length : Int) != (cs.length : Int)) = true := by simp; omega
                      go_wp2
                      go_ret
                      exact ⟨by rw [E.out]; rfl, grown_trans (grown_trans g0 gwq) g4⟩
    · have E : Hid (T = PE) := OP.out HM.out hp
      clear hPE
      go_wp2
      go_ret
      exact ⟨by rw [E.out]; rfl, grown_trans g0 hg1⟩

set_option maxRecDepth 100000 in
set_option maxHeartbeats 3200000 in
theorem dorder_any (g : Gra) (cs : List Nc) (vin vout : List (Val × List Int)) (its : List (Nam × List Int × List Int)) (w : World) (hg : GraphOk w g cs vin vout its) :
    Calls Tryd.prog 18 #[gval g] w fun e w' => ∃ u : Sl, e = .returned (.tuple #[u.v, .int .i64 (orderR cs vin vout its).2]) ∧ Owns w' w.heap.size u.v (orderR cs vin vout its).1 ∧ w.grownBy w' none := by
  have CA := hide (fun (wx : World) (hx : w.grownBy wx none) => dcheck_any g cs vin vout its wx (hg.more hx))
  have WA := hide (fun (wx : World) (hx : w.grownBy wx none) => work_any g cs wx (hg.more hx).base.nodes (hg.more hx).base.few.1 (fun c hc => ((hg.more hx).base.node c hc).ins))
  have WL := hide (work_line (cs := cs) (vin := vin) (its := its) (fun c hc => (hg.is c hc).1))
  have OI := hide (orderR_iff (cs := cs) (vin := vin) (vout := vout) (its := its))
  have OK := hide (orderR_ok (cs := cs) (vin := vin) (vout := vout) (its := its))
  have OE := hide (orderR_err (cs := cs) (vin := vin) (vout := vout) (its := its))
  clear hg
  obtain ⟨OR, hOR⟩ : ∃ OR, OR = orderR cs vin vout its := ⟨_, rfl⟩
  rw [← hOR] at CA OI OK OE ⊢
  clear hOR
  obtain ⟨OL, T⟩ := OR
  simp only at CA OI OK OE ⊢
  obtain ⟨nam, ⟨na0, nn0, nc0⟩, ⟨ia, iN, ic⟩, ⟨oa, oN, oc⟩, ⟨ta, tN, tc⟩⟩ := g
  unfold gval at CA WA ⊢
  simp only at CA WA ⊢
  obtain ⟨w0, hw0⟩ : ∃ w0, w0 = w.alloc (.cells #[.string nam, .slice na0 nn0 nc0, .slice ia iN ic, .slice oa oN oc, .slice ta tN tc] 26) := ⟨_, rfl⟩
  have g0 : w.grownBy w0 none := by rw [hw0]; exact grown_new _ _
  have b0 := heap_alloc_new w (.cells #[.string nam, .slice na0 nn0 nc0, .slice ia iN ic, .slice oa oN oc, .slice ta tN tc] 26)
  rw [← hw0] at b0
  have BXH : Hid (∀ wx, w0.grownBy wx none → wx.heap[w.heap.size]? = some (.cells #[.string nam, .slice na0 nn0 nc0, .slice ia iN ic, .slice oa oN oc, .slice ta tN tc] 26 (0, 0))) := fun wx hx => box_kept b0 hx
  clear b0
  obtain ⟨r0, r1, r2, r3, r4⟩ := gra_cells (g := ⟨nam, ⟨na0, nn0, nc0⟩, ⟨ia, iN, ic⟩, ⟨oa, oN, oc⟩, ⟨ta, tN, tc⟩⟩) (BXH.out w0 (grown_refl _))
  rw [hw0] at r0 r1 r2 r3 r4
  go_enter Tryd.func18, Tryd.ntmps18
  go_wp2_with fail
  rw [← hw0]
  clear hw0 r0 r1 r2 r3 r4
  refine (CA.out w0 g0).mono ?_
  rintro e w1 ⟨rfl, hg1⟩
  by_cases hz : T = 0
  · obtain ⟨m1, m2, m3, m4, m5⟩ := OI.out.1 hz
    have EW : Hid (workF cs (cs.length + 1) [] = OL) := by
      show _ = _
      rw [WL.out m3 (foundF_iff.1 m4).2.2.2]
      exact (OK.out hz).1.symm
    rw [EW.out] at WA
    subst hz
    clear m1 m2 m3 m4 m5 OI OK OE
    obtain ⟨r0, r1, r2, r3, r4⟩ := gra_cells (g := ⟨nam, ⟨na0, nn0, nc0⟩, ⟨ia, iN, ic⟩, ⟨oa, oN, oc⟩, ⟨ta, tN, tc⟩⟩) (BXH.out w1 hg1)
    go_wp2_with fail
    clear r0 r1 r2 r3 r4
    refine (WA.out w1 (grown_trans g0 hg1)).mono ?_
    rintro e w2 ⟨u, rfl, hu, hg2⟩
    go_wp2
    go_ret2
    exact ⟨u, rfl, hu.base_le (grown_trans g0 hg1).size, grown_trans (grown_trans g0 hg1) hg2⟩
  · have E : Hid (OL = []) := OE.out hz
    go_wp2
    go_ret2
    exact ⟨⟨none, 0, 0⟩, rfl, by rw [E.out]; exact ⟨World.ownsRow_nil _ _ _ _, by simp, by simp⟩, grown_trans g0 hg1⟩
end Go.Proofs.YtmdpeckeliplkaaDoor
