/- The document's order of work, by the walk. -/
import Derived.Test.YtmdpeckeliplkaaDoorPartK
import Derived.Test.YtmdpeckeliplkaaDoorGBoolJ
import Derived.Deep.RegionHeld3
namespace Go.Proofs.YtmdpeckeliplkaaDoor
open Go.RowKit

/-- Which nodes are done, as a list. -/
def doneL (n : Nat) (acc : List Int) : List Bool := (List.range n).map (fun (i : Nat) => decide ((i : Int) ∈ acc))

theorem doneL_len (n : Nat) (acc : List Int) : (doneL n acc).length = n := by simp [doneL]

theorem doneL_at {n : Nat} {acc : List Int} {i : Nat} (hi : i < n) : (doneL n acc)[i]? = some (decide ((i : Int) ∈ acc)) := by simp [doneL, hi]

theorem doneL_set {n : Nat} {acc : List Int} {k : Nat} : (doneL n acc).set k true = doneL n (acc ++ [(k : Int)]) := by
  refine List.ext_getElem? fun i => ?_
  rw [List.getElem?_set]
  by_cases hi : i < n
  · by_cases e : k = i
    · subst e
      rw [if_pos rfl, doneL_len, if_pos hi, doneL_at hi]
      simp
    · rw [if_neg e, doneL_at hi, doneL_at hi]
      have : (i : Int) ≠ (k : Int) := fun h => e (by omega)
      simp [this]
  · rw [List.getElem?_eq_none (l := doneL n acc) (by rw [doneL_len]; omega), List.getElem?_eq_none (l := doneL n (acc ++ [(k : Int)])) (by rw [doneL_len]; omega)]
    split
    · rw [if_neg (by rw [doneL_len]; omega)]
    · rfl

theorem OwnBl.kept {w w' : World} {base B : Nat} {bs : List Bool} (h : OwnBl w base B bs) (hk : w'.heap[B]? = w.heap[B]?) : OwnBl w' base B bs := by
  have o : OwnsL 4 1 (fun b : Bool => [Value.bool b]) w base (.slice (some ⟨B, 0, none⟩) bs.length bs.length) bs := by
    unfold OwnsL
    rw [flat_bools]
    exact h
  have o2 := owns_block (w' := w') o (fun b e => by
    have e2 : B = b := by simpa [Value.ownBlock] using e
    rw [← e2]
    exact hk)
  unfold OwnsL at o2
  rw [flat_bools] at o2
  exact o2

theorem nodup_snoc {acc : List Int} (h : acc.Nodup) {z : Int} (hz : z ∉ acc) : (acc ++ [z]).Nodup := by
  rw [List.nodup_append]
  refine ⟨h, by simp, fun a ha b hb => ?_⟩
  have e : b = z := by simpa using hb
  rw [e]
  exact fun e2 => hz (e2 ▸ ha)

/-- Where the document's order stands. -/
structure WInv (cs : List Nc) (w1 : World) (B : Nat) (wr : World) (l : Value) (acc : List Int) : Prop where
  done : OwnBl wr w1.heap.size B (doneL cs.length acc)
  out : Owns wr w1.heap.size l acc
  ne : l.ownBlock ≠ some B
  once : acc.Nodup
  inr : ∀ z ∈ acc, 0 ≤ z ∧ z < cs.length
  eq : workF cs (cs.length + 1) [] = workF cs (cs.length + 1 - acc.length) acc
  grown : w1.grownBy wr none

set_option maxRecDepth 100000 in
set_option maxHeartbeats 6400000 in
theorem work_any (g : Gra) (cs : List Nc) (w : World) (h1 : IsNods w g.nv.v (cs.map (·.n))) (hf : cs.length ≤ 1048576) (hin : ∀ c ∈ cs, IsStrs w c.n.iv.v c.ins) :
    Calls Tryd.prog 37 #[gval g] w fun e w' => ∃ u : Sl, e = .returned u.v ∧ Owns w' w.heap.size u.v (workF cs (cs.length + 1) []) ∧ w.grownBy w' none := by
  obtain ⟨i0, hi, hz0, hz1, hz2⟩ := info_parts infoInt
  obtain ⟨j0, hj, jz0, jz1, jz2⟩ := info_parts infoBool
  have MK := hide (fun (x : ByteArray) (wx : World) (hx : w.grownBy wx none) => maker_any g cs x wx (h1.more hx))
  obtain ⟨nam, ⟨na0, nn0, nc0⟩, ⟨ia, iN, ic⟩, ⟨oa, oN, oc⟩, ⟨ta, tN, tc⟩⟩ := g
  have H1 := hide h1
  have HIN := hide hin
  obtain ⟨xa, xc, e1, p1, p2, p3⟩ := h1.form
  rw [List.length_map] at e1 p1 p3
  obtain ⟨rfl, rfl, rfl⟩ : na0 = xa ∧ nn0 = cs.length ∧ nc0 = xc := by simpa [Sl.v] using e1
  clear h1 e1 hin
  unfold gval at MK ⊢
  simp only at MK ⊢
  obtain ⟨w0, hw0⟩ : ∃ w0, w0 = w.alloc (.cells #[.string nam, .slice na0 cs.length nc0, .slice ia iN ic, .slice oa oN oc, .slice ta tN tc] 26) := ⟨_, rfl⟩
  have g0 : w.grownBy w0 none := by rw [hw0]; exact grown_new _ _
  have b0 := heap_alloc_new w (.cells #[.string nam, .slice na0 cs.length nc0, .slice ia iN ic, .slice oa oN oc, .slice ta tN tc] 26)
  rw [← hw0] at b0
  have BX : Hid (∀ wx, w0.grownBy wx none → wx.heap[w.heap.size]? = some (.cells #[.string nam, .slice na0 cs.length nc0, .slice ia iN ic, .slice oa oN oc, .slice ta tN tc] 26 (0, 0))) := fun wx hx => box_kept b0 hx
  clear b0
  obtain ⟨r0, r1, r2, r3, r4⟩ := gra_cells (g := ⟨nam, ⟨na0, cs.length, nc0⟩, ⟨ia, iN, ic⟩, ⟨oa, oN, oc⟩, ⟨ta, tN, tc⟩⟩) (BX.out w0 (grown_refl _))
  rw [hw0] at r1
  clear r0 r2 r3 r4
  simp only at r1
  obtain ⟨M1, hM1⟩ : ∃ M, M = madeCells (Value.bool false).cells (((cs.length : Nat) : Int).toNat * j0.size) := ⟨_, rfl⟩
  have E1 : Hid (M1.toList = List.replicate cs.length (.bool false)) := by show _ = _; rw [hM1, jz1, Nat.mul_one, show (Value.bool false).cells = #[Value.bool false] from rfl, toList_madeCells_one]; simp
  have mk1 : ∀ W : World, (Instr.makeSlice 35 (.int .i64 (cs.length : Int)) (.int .i64 (cs.length : Int))).run Tryd.prog W = .ok (.slice (some ⟨W.heap.size, 0, none⟩) cs.length cs.length) (W.alloc (.cells M1 4)) := fun W => by
    have h := Go.run_make (P := Tryd.prog) W 35 4 j0 (.bool false) Tryd.underlying35 hj jz0 .i64 .i64 (cs.length : Int) (cs.length : Int) (by omega) (by omega) (by rw [jz2]; omega) (by omega)
    rw [← hM1] at h
    simpa using h
  clear hM1
  obtain ⟨w2, hw2⟩ : ∃ w2, w2 = w0.alloc (.cells M1 4) := ⟨_, rfl⟩
  have g02 : w0.grownBy w2 none := by rw [hw2]; exact grown_new _ _
  have b2 := heap_alloc_new w0 (.cells M1 4)
  rw [← hw2] at b2
  have hs0 : w0.heap.size = w.heap.size + 1 := by rw [hw0]; simp
  have D0 : Hid (OwnBl w2 w0.heap.size (w.heap.size + 1) (doneL cs.length [])) := by
    show OwnBl _ _ _ _
    rw [← hs0]
    unfold OwnBl
    rw [doneL_len]
    have hd : (doneL cs.length []).map Value.bool = List.replicate cs.length (.bool false) := by
      refine List.ext_getElem? fun i => ?_
      rw [List.getElem?_map]
      by_cases hi : i < cs.length
      · rw [doneL_at hi]; simp [hi]
      · rw [List.getElem?_eq_none (by rw [doneL_len]; omega), List.getElem?_eq_none (by simp; omega)]; rfl
    rw [hd]
    refine ⟨by simp, Or.inr ⟨w0.heap.size, cs.length, M1, rfl, Nat.le_refl _, b2, Nat.le_refl _, by simp only [maxLen]; omega, ?_, ?_⟩⟩
    · rw [← Array.length_toList, E1.out, List.length_replicate, Nat.mul_one]
    · rw [E1.out, List.take_of_length_le (by simp)]
  have S0 : Hid (w0.heap.size < w2.heap.size) := by show _ < _; rw [hw2]; simp
  go_enter Tryd.func37, Tryd.ntmps37
  go_wp2_with fail
  rw [← hw0, ← hw2]
  have HS0 := hide hs0
  clear hw0 hw2 r1 b2 mk1 hs0
  go_loopw [3] (fun l wr => ∃ (acc : List Int) (va : Option Addr) (vc : Nat), l = .slice va acc.length vc ∧ WInv cs w0 (w.heap.size + 1) wr (.slice va acc.length vc) acc) (fun l _ => cs.length - lenV l)
  case atStart => exact ⟨[], none, 0, rfl, ⟨D0.out, ⟨World.ownsRow_nil _ _ _ _, by simp, by simp⟩, by simp [Value.ownBlock], List.nodup_nil, (fun z hz => by cases hz), rfl, g02⟩⟩
  case round =>
    obtain ⟨acc, va, vc, rfl, hinv⟩ := hrel
    have I := hide hinv
    have hal : acc.length ≤ cs.length := nodup_leG hinv.once hinv.inr
    obtain ⟨wq, hwq⟩ : ∃ wq, wq = wr := ⟨_, rfl⟩
    rw [← hwq] at I ⊢
    have gq := hinv.grown
    rw [← hwq] at gq
    clear hinv hwq
    obtain ⟨r0, r1, r2, r3, r4⟩ := gra_cells (g := ⟨nam, ⟨na0, cs.length, nc0⟩, ⟨ia, iN, ic⟩, ⟨oa, oN, oc⟩, ⟨ta, tN, tc⟩⟩) (BX.out wq gq)
    simp only at r1
    clear r0 r2 r3 r4
    go_wp2_with fail
    clear r1
    go_loopw [5, 6] (fun nx i wr => wq.grownBy wr none ∧ ∃ d : Nat, d ≤ cs.length ∧ i = .int .i64 ((cs.length : Int) - (d : Int) - 1) ∧ nx = .int .i64 (lowF (readyF cs acc) cs.length d)) (fun _ i _ => (intOf i + 1).toNat)
    case atStart => exact ⟨grown_refl _, 0, Nat.zero_le _, by simp, rfl⟩
    case round =>
      obtain ⟨hgr, d, hd, rfl, rfl⟩ := hrel
      by_cases hlt : d < cs.length
      · obtain ⟨i, hi0⟩ : ∃ i : Nat, i = cs.length - (d + 1) := ⟨_, rfl⟩
        have hic : (cs.length : Int) - (d : Int) - 1 = (i : Int) := by omega
        have hin2 : i < cs.length := by omega
        rw [hic]
        have hlt' : i < (cs.map (·.n)).length := by rw [List.length_map]; exact hin2
        obtain ⟨b, off, rfl⟩ := H1.out.addr hlt'
        have HN2 : Hid (∀ wx, w.grownBy wx none → wx.cell? ⟨b, off + i * 5 + 2, none⟩ = some (.slice cs[i].n.iv.a cs[i].n.iv.n cs[i].n.iv.c)) := fun wx hx => by have h := ((H1.out.more hx).nod i hlt').2.2.1; rw [List.getElem_map] at h; exact h
        have hii := HIN.out cs[i] (List.getElem_mem hin2)
        have HRD : Hid (readyF cs acc i = (!(decide ((i : Int) ∈ acc)) && cs[i].ins.all (fun x => decide (mkN cs x < 0) || decide (mkN cs x ∈ acc)))) := by show _ = _; unfold readyF; rw [List.getElem?_eq_getElem hin2]; rfl
        obtain ⟨A, hA⟩ : ∃ A, A = cs[i] := ⟨_, rfl⟩
        rw [← hA] at HN2 hii HRD
        have HII := hide hii
        obtain ⟨va', vc', ei, q1, q2, q3⟩ := hii.form
        obtain ⟨⟨aop, anm, ⟨iva, ivn, ivc⟩, aot, aav⟩, ains, axs, aks⟩ := A
        simp only [Sl.v, Value.slice.injEq] at ei
        obtain ⟨rfl, rfl, rfl⟩ := ei
        simp only at HN2 HII HRD
        have dc := (I.out.done.at (doneL_at (acc := acc) hin2)).1
        have dcr := cell_still dc hgr
        obtain ⟨D, hD⟩ : ∃ D, D = decide ((i : Int) ∈ acc) := ⟨_, rfl⟩
        rw [← hD] at dcr HRD
        have gwr := grown_trans gq hgr
        have DN : Hid (∀ (j : Nat) wx, j < cs.length → wq.grownBy wx none → wx.cell? ⟨w.heap.size + 1, j, none⟩ = some (.bool (decide ((j : Int) ∈ acc)))) := fun j wx hj hx => cell_still (I.out.done.at (doneL_at (acc := acc) hj)).1 hx
        have LW : Hid (lowF (readyF cs acc) cs.length (d + 1) = if readyF cs acc i = true then (i : Int) else lowF (readyF cs acc) cs.length d) := by show _ = _; rw [lowF, ← hi0]
        clear dc hD hA hii hi0
        have hi0' : (0 : Int) ≤ (i : Int) := by omega
        go_wp2_with fail
        clear dcr
        go_loopw [7, 8] (fun rd kk wr => wq.grownBy wr none ∧ ∃ k : Nat, k ≤ ains.length ∧ kk = .int .i64 k ∧ rd = .bool (!D && (ains.take k).all (fun x => decide (mkN cs x < 0) || decide (mkN cs x ∈ acc)))) (fun _ kk _ => ains.length - (intOf kk).toNat)
        case atStart => exact ⟨hgr, 0, Nat.zero_le _, rfl, by simp⟩
        case round =>
          obtain ⟨hg3, k, hk, rfl, rfl⟩ := hrel
          obtain ⟨rb, hrb⟩ : ∃ rb, rb = (!D && (ains.take k).all (fun x => decide (mkN cs x < 0) || decide (mkN cs x ∈ acc))) := ⟨_, rfl⟩
          rw [← hrb]
          have HRB := hide hrb
          clear hrb
          have gw3 := grown_trans (grown_trans g0 gq) hg3
          obtain ⟨r0, r1, r2, r3, r4⟩ := gra_cells (g := ⟨nam, ⟨some ⟨b, off, none⟩, cs.length, nc0⟩, ⟨ia, iN, ic⟩, ⟨oa, oN, oc⟩, ⟨ta, tN, tc⟩⟩) (BX.out wr (grown_trans gq hg3))
          simp only at r0 r1 r2 r3 r4
          have a2 := HN2.out wr gw3
          by_cases hkl : k < ains.length
          · cases rb with
            | true =>
              have HS := HII.out.more gw3
              obtain ⟨sb, so, rfl⟩ := HS.addr hkl
              have d0 := str_at HS k hkl
              have HK : Hid (ains[k]? = some ains[k]) := List.getElem?_eq_getElem hkl
              obtain ⟨X, hX⟩ : ∃ X, X = ains[k] := ⟨_, rfl⟩
              rw [← hX] at d0 HK
              clear HS hX
              have gd := grown_drew (grown_refl wr)
              have MX := hide (MK.out X wr.drew (grown_trans gw3 gd))
              have CX := hide (fun (wx : World) (hx : wr.grownBy wx none) => And.intro (And.intro (cell_still r0 hx) (And.intro (cell_still r1 hx) (And.intro (cell_still r2 hx) (And.intro (cell_still r3 hx) (cell_still r4 hx))))) (And.intro (cell_still a2 hx) (cell_still d0 hx)))
              have NX : Hid ((ains.take (k + 1)).all (fun x => decide (mkN cs x < 0) || decide (mkN cs x ∈ acc)) = ((ains.take k).all (fun x => decide (mkN cs x < 0) || decide (mkN cs x ∈ acc)) && (decide (mkN cs X < 0) || decide (mkN cs X ∈ acc)))) := by show _ = _; rw [List.take_add_one, HK.out, List.all_append]; simp
              have RB : Hid ((!D && (ains.take k).all (fun x => decide (mkN cs x < 0) || decide (mkN cs x ∈ acc))) = true) := HRB.out.symm
              have MN : Hid (mkN cs X = -1 ∨ ∃ j : Nat, j < cs.length ∧ mkN cs X = (j : Int)) := by
                show _ ∨ _
                unfold mkN
                split
                · rename_i h
                  exact Or.inr ⟨_, h, rfl⟩
                · exact Or.inl rfl
              go_wp2_with fail
              go_region_held3 (fun w' => w'.cell? ⟨w.heap.size, 0, none⟩ = some (.string nam) ∧ w'.cell? ⟨w.heap.size, 1, none⟩ = some (.slice (some ⟨b, off, none⟩) cs.length nc0) ∧ w'.cell? ⟨w.heap.size, 2, none⟩ = some (.slice ia iN ic) ∧ w'.cell? ⟨w.heap.size, 3, none⟩ = some (.slice oa oN oc) ∧ w'.cell? ⟨w.heap.size, 4, none⟩ = some (.slice ta tN tc) ∧ w'.cell? ⟨b, off + i * 5 + 2, none⟩ = some (.slice (some ⟨sb, so, none⟩) ains.length ivc) ∧ w'.cell? ⟨sb, so + k, none⟩ = some (.string X)) (go_keep) (first | (go_at_call 51; refine MX.out.mono ?_; rintro e w4 ⟨rfl, hg4⟩; have g4 : wr.grownBy w4 none := grown_trans gd hg4; obtain ⟨⟨r0, r1, r2, r3, r4⟩, a2, d0⟩ := CX.out w4 g4) | fail)
              rcases MN.out with hm | ⟨j, hj2, hm⟩
              · have NX2 : Hid ((!D && (ains.take (k + 1)).all (fun x => decide (mkN cs x < 0) || decide (mkN cs x ∈ acc))) = true) := by show _ = _; rw [NX.out, hm]; have := RB.out; simp at this ⊢; exact this
                have hmn : mkN cs X < 0 := by omega
                clear hm
                go_wp2_with fail
                go_roundw
                case rel => exact ⟨grown_trans hg3 g4, k + 1, by omega, by go_num, by rw [NX2.out]⟩
                case measure => simp [intOf]; omega
              · have dj := DN.out j w4 hj2 (grown_trans hg3 g4)
                have NX2 : Hid ((!D && (ains.take (k + 1)).all (fun x => decide (mkN cs x < 0) || decide (mkN cs x ∈ acc))) = decide ((j : Int) ∈ acc)) := by
                  show _ = _
                  rw [NX.out, hm]
                  have h2 := RB.out
                  have h3 : decide ((j : Int) < 0) = false := by simp
                  rw [h3, Bool.false_or, ← Bool.and_assoc, h2, Bool.true_and]
                rw [hm]
                have hj0 : ¬ ((j : Int) < 0) := by omega
                obtain ⟨DJ, hDJ⟩ : ∃ DJ, DJ = decide ((j : Int) ∈ acc) := ⟨_, rfl⟩
                rw [← hDJ] at dj NX2
                clear hDJ hm
                go_wp2_with fail
                go_roundw
                case rel => exact ⟨grown_trans hg3 g4, k + 1, by omega, by go_num, by rw [NX2.out]⟩
                case measure => simp [intOf]; omega
            | false =>
              have E : Hid (readyF cs acc i = false) := by
                show _ = _
                rw [HRD.out]
                have h2 := HRB.out.symm
                rw [Bool.and_eq_false_iff] at h2 ⊢
                rcases h2 with h2 | h2
                · exact Or.inl h2
                · right
                  rw [List.all_eq_false] at h2 ⊢
                  obtain ⟨x, hx, h3⟩ := h2
                  exact ⟨x, List.mem_of_mem_take hx, h3⟩
              go_wp2_with fail
              go_roundw
              case rel => exact ⟨hg3, d + 1, by omega, by first | (congr 1; omega) | congr 1, by rw [LW.out, E.out]; rfl⟩
              case measure => simp [intOf]
          · have E : Hid (readyF cs acc i = rb) := by show _ = _; rw [HRD.out, HRB.out, List.take_of_length_le (by omega)]
            cases rb with
            | true =>
              go_wp2_with fail
              go_roundw
              case rel => exact ⟨hg3, d + 1, by omega, by first | (congr 1; omega) | congr 1, by rw [LW.out, E.out]; rfl⟩
              case measure => simp [intOf]
            | false =>
              go_wp2_with fail
              go_roundw
              case rel => exact ⟨hg3, d + 1, by omega, by first | (congr 1; omega) | congr 1, by rw [LW.out, E.out]; rfl⟩
              case measure => simp [intOf]
      · obtain rfl : d = cs.length := by omega
        have hneg : ¬ ((0 : Int) ≤ (cs.length : Int) - (cs.length : Int) - 1) := by omega
        have e1 : (cs.length : Int) - (cs.length : Int) - 1 = -1 := by omega
        rw [e1]
        clear hneg e1
        rcases lowF_spec (readyF cs acc) cs.length cs.length (Nat.le_refl _) with ⟨h1, -⟩ | ⟨k, h1, -, h3, h4, -⟩
        · have E : Hid (workF cs (cs.length + 1) [] = acc) := by
            show _ = _
            rw [I.out.eq, show cs.length + 1 - acc.length = cs.length - acc.length + 1 by omega, workF, if_pos (by rw [h1]; decide)]
          rw [h1]
          go_wp2
          go_ret
          exact ⟨⟨va, acc.length, vc⟩, rfl, by rw [E.out]; exact (I.out.out.new hgr).base_le g0.size, grown_trans (grown_trans g0 gq) hgr⟩
        · have hka : (k : Int) ∉ acc := fun e => by unfold readyF at h4; simp [e] at h4
          have hnd := nodup_snoc I.out.once hka
          have hrg : ∀ z ∈ acc ++ [(k : Int)], 0 ≤ z ∧ z < cs.length := fun z hz => by
            rcases List.mem_append.1 hz with hz | hz
            · exact I.out.inr z hz
            · have : z = (k : Int) := by simpa using hz
              omega
          have hl2 := nodup_leG hnd hrg
          rw [List.length_append, List.length_singleton] at hl2
          have HEQ : Hid (workF cs (cs.length + 1) [] = workF cs (cs.length + 1 - (acc ++ [(k : Int)]).length) (acc ++ [(k : Int)])) := by
            show _ = _
            rw [I.out.eq, show cs.length + 1 - acc.length = cs.length - acc.length + 1 by omega, workF, if_neg (by rw [h1]; omega), h1, List.length_append, List.length_singleton]
            congr 1
            omega
          have HND := hide hnd
          have HRG := hide hrg
          have dw : OwnBl wr w0.heap.size (w.heap.size + 1) (doneL cs.length acc) := I.out.done.kept (hgr.block _ (I.out.done.lt).2 (by simp))
          obtain ⟨dk0, dk1⟩ := dw.at (doneL_at (acc := acc) h3)
          obtain ⟨ds1, ds2⟩ := dw.set k true
          rw [doneL_set] at ds1
          have DS := hide (And.intro ds1 ds2)
          have hB := I.out.done.lt
          have hsz := hgr.size
          have NE := hide I.out.ne
          have OWr := hide (I.out.out.new hgr)
          have hk0 : ¬ ((k : Int) < 0) := by omega
          rw [h1]
          clear hnd hrg dw ds1 ds2 h1 h4
          obtain ⟨ws, hws⟩ : ∃ ws, ws = wr.setCell ⟨w.heap.size + 1, k, none⟩ (.bool true) := ⟨_, rfl⟩
          rw [← hws] at DS
          have sws : ws.heap.size = wr.heap.size := by rw [hws]; simp [World.setCell]
          have OW : Hid (∀ o, Owns (ws.alloc o) w0.heap.size (.slice va acc.length vc) acc) := fun o => (OWr.out.more DS.out.2 (some_or fun b e => fun e2 => NE.out (by rw [e, e2]))).new (grown_new _ _)
          have SWS := hide sws
          rw [hws] at OW
          clear sws
          go_wp2_with (at_builtin; refine wpList_append_lies _ rfl (.tmp 68) (.tmp 70) 40 rfl w0.heap.size 3 i0 (.int .i64 0) 1 8 Tryd.underlying40 hi hz0 hz1 hz2 rfl (by decide) (.slice va acc.length vc) acc.length (acc.map (Value.int .i64)) rfl (by exact (OW.out _).1) ⟨wr.heap.size, 0, none⟩ 1 1 [.int .i64 (k : Int)] rfl rfl (by have h := cell_one_new (wr.setCell ⟨w.heap.size + 1, k, none⟩ (.bool true)) (Value.int .i64 (k : Int)) 3; simpa [World.setCell] using h) (by simp [Value.oneCell']) (by omega) (by simp only [maxLen]; omega) (by omega) (by simp [World.setCell]; omega) (wr.heap.size + 1) (by simp [World.setCell]) ?_; intro gg cap w8 hown8 hgrow hat hlt8)
          rw [← hws] at hgrow
          have gn := grown_new ws (.cells #[.int .i64 (k : Int)] 3)
          have s8 := hgrow.size
          have sws := SWS.out
          have sgn : (ws.alloc (.cells #[.int .i64 (k : Int)] 3)).heap.size = ws.heap.size + 1 := by simp
          have hBw : w.heap.size + 1 < wr.heap.size := by have := hB.2; omega
          have ST : Hid (WInv cs w0 (w.heap.size + 1) w8 (.slice (some ⟨gg, 0, none⟩) (acc ++ [(k : Int)]).length cap) (acc ++ [(k : Int)])) := by
            refine ⟨DS.out.1.kept ((hgrow.block _ (by omega) (fun e => NE.out e.symm)).trans (gn.block _ (by omega) (by simp))), ⟨?_, ?_, fun z hz => ?_⟩, ?_, HND.out, HRG.out, HEQ.out, ?_⟩
            · rw [List.length_append, List.map_append]
              exact hown8
            · rw [List.length_append, List.length_singleton]
              omega
            · have := HRG.out z hz
              omega
            · intro e
              have e2 : gg = w.heap.size + 1 := by simpa [Value.ownBlock] using e
              rcases hat with h | h
              · exact NE.out (by rw [h, e2])
              · omega
            · exact grown_trans_row (grown_trans (grown_trans_row (grown_trans gq hgr) DS.out.2 (fun r e => by cases e; exact hB.1)) gn) hgrow (fun r e => (OWr.out.lt r e).1)
          rw [List.length_append, List.length_singleton] at ST
          clear hown8 hgrow hat hlt8
          refine ⟨⟨acc ++ [(k : Int)], _, _, by rw [List.length_append, List.length_singleton], by rw [List.length_append, List.length_singleton]; exact ST.out⟩, ?_⟩
          simp only [lenV]
          omega
end Go.Proofs.YtmdpeckeliplkaaDoor
