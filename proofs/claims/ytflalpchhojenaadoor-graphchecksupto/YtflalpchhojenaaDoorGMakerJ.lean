/- The document's maker, by the walk. -/
import Derived.Test.YtflalpchhojenaaDoorGWorkPJ
import Derived.Test.YtflalpchhojenaaDoorGRefJ
namespace Go.Proofs.YtflalpchhojenaaDoor
open Go.RowKit

theorem pos_step {l : List ByteArray} {x Y : ByteArray} {k : Nat} (hk : k ≤ pos l x) (hY : l[k]? = some Y) : ((Y.toList == x.toList) = true → pos l x = k) ∧ ((Y.toList == x.toList) = false → k + 1 ≤ pos l x) := by
  obtain ⟨hl, eY⟩ := List.getElem?_eq_some_iff.1 hY
  have he : (Y.data.toList == x.data.toList) = (Y.toList == x.toList) := by rw [bytes_toList, bytes_toList]
  unfold pos at hk ⊢
  constructor
  · intro h
    refine Classical.byContradiction fun hne => ?_
    have := List.not_of_lt_findIdx (p := fun y => y.data.toList == x.data.toList) (xs := l) (i := k) (by omega)
    rw [eY, he, h] at this
    simp at this
  · intro h
    refine Classical.byContradiction fun hne => ?_
    have e : l.findIdx (fun y => y.data.toList == x.data.toList) = k := by omega
    have h2 := List.findIdx_getElem (p := fun y : ByteArray => y.data.toList == x.data.toList) (xs := l) (w := by rw [e]; exact hl)
    simp only [e, eY, he, h] at h2
    exact absurd h2 (by simp)

set_option maxRecDepth 100000 in
set_option maxHeartbeats 3200000 in
theorem maker_any (g : Gra) (cs : List Nc) (x : ByteArray) (w : World) (h1 : IsNods w g.nv.v (cs.map (·.n))) :
    Calls Tryd.prog 52 #[gval g, .string x] w fun e w' => e = .returned (.int .i64 (mkN cs x)) ∧ w.grownBy w' none := by
  obtain ⟨nam, ⟨na0, nn0, nc0⟩, ⟨ia, iN, ic⟩, ⟨oa, oN, oc⟩, ⟨ta, tN, tc⟩⟩ := g
  have H1 := hide h1
  obtain ⟨xa, xc, e1, p1, p2, p3⟩ := h1.form
  rw [List.length_map] at e1 p1 p3
  obtain ⟨rfl, rfl, rfl⟩ : na0 = xa ∧ nn0 = cs.length ∧ nc0 = xc := by simpa [Sl.v] using e1
  clear h1 e1
  unfold gval
  simp only
  obtain ⟨w0, hw0⟩ : ∃ w0, w0 = w.alloc (.cells #[.string nam, .slice na0 cs.length nc0, .slice ia iN ic, .slice oa oN oc, .slice ta tN tc] 26) := ⟨_, rfl⟩
  have g0 : w.grownBy w0 none := by rw [hw0]; exact grown_new _ _
  have b0 := heap_alloc_new w (.cells #[.string nam, .slice na0 cs.length nc0, .slice ia iN ic, .slice oa oN oc, .slice ta tN tc] 26)
  rw [← hw0] at b0
  have BX : Hid (∀ wx, w0.grownBy wx none → wx.heap[w.heap.size]? = some (.cells #[.string nam, .slice na0 cs.length nc0, .slice ia iN ic, .slice oa oN oc, .slice ta tN tc] 26 (0, 0))) := fun wx hx => box_kept b0 hx
  clear b0
  go_enter Tryd.func52, Tryd.ntmps52
  go_wp2_with fail
  rw [← hw0]
  clear hw0
  go_loopw [5] (fun i wr => w0.grownBy wr none ∧ ∃ k : Nat, k ≤ cs.length ∧ i = .int .i64 k ∧ k ≤ pos (outsN cs) x) (fun i _ => cs.length - (intOf i).toNat)
  case atStart => exact ⟨grown_refl _, 0, Nat.zero_le _, rfl, Nat.zero_le _⟩
  case round =>
    obtain ⟨hgr, k, hk, rfl, hp⟩ := hrel
    have HP := hide hp
    clear hp
    obtain ⟨r0, r1, r2, r3, r4⟩ := gra_cells (g := ⟨nam, ⟨na0, cs.length, nc0⟩, ⟨ia, iN, ic⟩, ⟨oa, oN, oc⟩, ⟨ta, tN, tc⟩⟩) (BX.out wr hgr)
    simp only at r1
    clear r0 r2 r3 r4
    by_cases hlt : k < cs.length
    · have hlt' : k < (cs.map (·.n)).length := by rw [List.length_map]; exact hlt
      have HLk := H1.out.more (grown_trans g0 hgr)
      obtain ⟨b, off, rfl⟩ := HLk.addr hlt'
      have a3 := (HLk.nod k hlt').2.2.2.1
      rw [List.getElem_map] at a3
      have HK : Hid ((outsN cs)[k]? = some cs[k].n.out) := by show _ = _; unfold outsN; rw [List.getElem?_map, List.getElem?_map, List.getElem?_eq_getElem hlt]; rfl
      obtain ⟨Y, hY⟩ : ∃ Y, Y = cs[k].n.out := ⟨_, rfl⟩
      rw [← hY] at a3 HK
      clear HLk hY
      by_cases h : (Y.toList == x.toList) = true
      · have E : Hid (mkN cs x = (k : Int)) := by
          show _ = _
          unfold mkN
          rw [(pos_step HP.out HK.out).1 h, if_pos hlt]
        go_wp2
        go_ret
        exact ⟨by rw [E.out]; rfl, grown_trans g0 hgr⟩
      · have h' : (Y.toList == x.toList) = false := by simpa using h
        have HN : Hid (k + 1 ≤ pos (outsN cs) x) := (pos_step HP.out HK.out).2 h'
        clear h
        go_wp2_with fail
        go_roundw
        case rel => exact ⟨hgr, k + 1, by omega, by go_num, HN.out⟩
        case measure => simp [intOf]; omega
    · have E : Hid (mkN cs x = -1) := by
        show _ = _
        unfold mkN
        rw [if_neg (by have := HP.out; omega)]
      go_wp2
      go_ret
      exact ⟨by rw [E.out]; rfl, grown_trans g0 hgr⟩
end Go.Proofs.YtflalpchhojenaaDoor
