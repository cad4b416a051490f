/- rowsOf, by the walk. -/
import Derived.Test.YtmdpeckeliplkaaDoorLvRowsJ
namespace Go.Proofs.YtmdpeckeliplkaaDoor
open Go.RowKit

theorem made_bool {n s : Nat} (hs : s = 1) : (madeCells (Value.bool false).cells (((n : Nat) : Int).toNat * s)).toList = List.replicate n (.bool false) := by
  rw [hs, Nat.mul_one, show (Value.bool false).cells = #[Value.bool false] from rfl, toList_madeCells_one]; simp

theorem made_nils {n s : Nat} (hs : s = 1) : (madeCells (Value.slice none 0 0).cells (((n : Nat) : Int).toNat * s)).toList = List.replicate n (.slice none 0 0) := by
  rw [hs, Nat.mul_one, show (Value.slice none 0 0).cells = #[Value.slice none 0 0] from rfl, toList_madeCells_one]; simp

set_option maxRecDepth 100000 in
set_option maxHeartbeats 3200000 in
theorem rowsof_any (B n : Nat) (rs : List Sl) (R : List (List Int)) (w : World) (hr : RdL w B n rs R) (hB : Behind R n) (hn : n ≤ 1024) (hrl : ∀ k, (R.getD k []).length ≤ 4294967296) :
    Calls Tryd.prog 23 #[.slice (some ⟨B, 0, none⟩) n n] w fun e w' => ∃ (Q : Nat) (q : Nat → Nat), e = .returned (.slice (some ⟨Q, 0, none⟩) n n) ∧ Rb w' Q n q (rowN R n n) ∧ w.grownBy w' none := by
  obtain ⟨i0, hi, hz0, hz1, hz2⟩ := info_parts infoBool
  obtain ⟨j0, hj, hy0, hy1, hy2⟩ := info_parts infoBools
  have HR := hide hr
  have HB := hide hB
  have HRL := hide hrl
  clear hr hB hrl
  obtain ⟨M1, hM1⟩ : ∃ M, M = madeCells (Value.bool false).cells (((n : Nat) : Int).toNat * i0.size) := ⟨_, rfl⟩
  obtain ⟨M2, hM2⟩ : ∃ M, M = madeCells (Value.slice none 0 0).cells (((n : Nat) : Int).toNat * j0.size) := ⟨_, rfl⟩
  have E1 : Hid (M1.toList = List.replicate n (.bool false)) := by show _ = _; rw [hM1]; exact made_bool hz1
  have E2 : Hid (M2.toList = List.replicate n (.slice none 0 0)) := by show _ = _; rw [hM2]; exact made_nils hy1
  have mk1 : ∀ W : World, (Instr.makeSlice 35 (.int .i64 (n : Int)) (.int .i64 (n : Int))).run Tryd.prog W = .ok (.slice (some ⟨W.heap.size, 0, none⟩) n n) (W.alloc (.cells M1 4)) := fun W => by
    have h := Go.run_make (P := Tryd.prog) W 35 4 i0 (.bool false) Tryd.underlying35 hi hz0 .i64 .i64 (n : Int) (n : Int) (by omega) (by omega) (by rw [hz2]; omega) (by omega)
    rw [← hM1] at h
    simpa using h
  have mk2 : ∀ W : World, (Instr.makeSlice 30 (.int .i64 (n : Int)) (.int .i64 (n : Int))).run Tryd.prog W = .ok (.slice (some ⟨W.heap.size, 0, none⟩) n n) (W.alloc (.cells M2 35)) := fun W => by
    have h := Go.run_make (P := Tryd.prog) W 30 35 j0 (.slice none 0 0) Tryd.underlying30 hj hy0 .i64 .i64 (n : Int) (n : Int) (by omega) (by omega) (by rw [hy2]; omega) (by omega)
    rw [← hM2] at h
    simpa using h
  clear hM1 hM2
  obtain ⟨w0, hw0⟩ : ∃ w0, w0 = w.alloc (.cells M2 35) := ⟨_, rfl⟩
  have S0 : Hid (RW w0 w.heap.size w.heap.size n 0 (fun _ => 0) (rowN R n 0)) := RW.start (by omega) E2.out hw0
  have g0 : Hid (w.grownBy w0 none) := by show w.grownBy w0 none; rw [hw0]; exact grown_new _ _
  go_enter Tryd.func23, Tryd.ntmps23
  go_wp2_with fail
  rw [← hw0]
  clear hw0 mk2
  obtain ⟨Q, hQ⟩ : ∃ Q, Q = w.heap.size := ⟨_, rfl⟩
  have HQ := hide hQ
  rw [← hQ] at S0 ⊢
  clear hQ
  go_loopg [14] n (fun gh i wr => ∃ (k : Nat) (q : Nat → Nat), gh = n - k ∧ k ≤ n ∧ i = .int .i64 k ∧ RW wr Q Q n k q (rowN R n k) ∧ w.grownBy wr none)
  case atStart => exact ⟨0, _, rfl, Nat.zero_le _, rfl, S0.out, g0.out⟩
  case round =>
    obtain ⟨k, q, hgk, hk, rfl, hrw, hg⟩ := hrel
    have HW := hide hrw
    have HG := hide hg
    clear hrw hg
    by_cases hlt : k < n
    · obtain ⟨a, ha⟩ : ∃ a, a = n - 1 - k := ⟨_, rfl⟩
      obtain ⟨d, hd1, hd2, hd3, hd4⟩ : ∃ d : Int, (n : Int) - 1 = d ∧ d - (k : Int) = (a : Int) ∧ 0 ≤ d ∧ d ≤ 1024 := ⟨(n : Int) - 1, rfl, by omega, by omega, by omega⟩
      have hal : a < n := by omega
      have ha0 : (0 : Int) ≤ (a : Int) := Int.natCast_nonneg _
      have ha1 : (a : Int) < (n : Int) := by omega
      obtain ⟨w1, hw1⟩ : ∃ w1, w1 = wr.alloc (.cells M1 4) := ⟨_, rfl⟩
      have hmk := HW.out.make hlt (by omega) E1.out hw1 (by have := HG.out.size; have := HQ.out; omega)
      have hm1 : RW w1 Q Q n k q (rowN R n k) := HW.out.more (by rw [hw1]; exact grown_new _ _)
      have cQ := World.ownsRow.cellAt hm1.row a (by omega)
      have fQ := World.ownsRow.frozenAt hm1.row a
      rw [List.getElem?_map, List.getElem?_range hal] at cQ
      simp only [Option.map_some] at cQ
      rw [if_neg (by omega)] at cQ
      have GQ : Hid (w.grownBy (w1.setCell ⟨Q, a, none⟩ (.slice (some ⟨wr.heap.size, 0, none⟩) n n)) none) := by
        show w.grownBy _ none
        refine grown_trans_row (b := w1) ?_ (by rw [ha]; exact hmk.2) (fun g e => by injection e with e; have := HQ.out; omega)
        rw [hw1]
        exact grown_trans HG.out (grown_new _ _)
      have ST0 := hide hmk.1
      rw [← ha] at ST0
      have HA := hide ha
      have hRL := HRL.out a
      have HBa := hide (HB.out a hal)
      have hc := (HR.out.more GQ.out).cell a hal
      have HI := hide ((HR.out).ints a hal)
      obtain ⟨⟨sa, sn, sc⟩, hs⟩ : ∃ s, s = rs.getD a nilS := ⟨_, rfl⟩
      obtain ⟨L, hL⟩ : ∃ L, L = R.getD a [] := ⟨_, rfl⟩
      rw [← hs] at hc HI
      rw [← hL] at HI HBa hRL
      have HLd := hide hL
      clear hs hL
      simp only [Sl.v] at HI hc
      obtain ⟨xa, xc, e1, -⟩ := HI.out
      obtain ⟨rfl, rfl, rfl⟩ : sa = xa ∧ sn = L.length ∧ sc = xc := by simpa using e1
      clear e1
      rw [hw1] at cQ fQ hc
      clear hmk hm1 ha
      go_wp2_with fail
      rw [← hw1]
      clear hw1 cQ fQ hc
      generalize w1.setCell ⟨Q, a, none⟩ (.slice (some ⟨wr.heap.size, 0, none⟩) n n) = w2 at GQ ST0 ⊢
      obtain ⟨q2, hq2⟩ : ∃ q2 : Nat → Nat, q2 = (fun x => if x = a then wr.heap.size else q x) := ⟨_, rfl⟩
      rw [← hq2] at ST0
      clear hq2
      go_loopg [31] L.length (fun gh2 j wx => ∃ t : Nat, gh2 = L.length - t ∧ t ≤ L.length ∧ j = .int .i64 t ∧ RW wx Q Q n (k + 1) q2 ((rowN R n k).set a (joinR (rowN R n k) (List.replicate n false) (L.take t))) ∧ w.grownBy wx none)
      case atStart => exact ⟨0, rfl, Nat.zero_le _, rfl, ST0.out, GQ.out⟩
      case round =>
        obtain ⟨t, hg2, ht, rfl, hst, hgx⟩ := hrel
        have HS := hide hst
        have HX := hide hgx
        clear hst hgx
        by_cases htl : t < L.length
        · obtain ⟨vb, vo, rfl, s0⟩ := ints_addrG (HI.out.more HX.out) htl
          have hz := HBa.out _ (List.getElem_mem htl)
          have hgd : L.getD t 0 = L[t] := by rw [List.getD, List.getElem?_eq_getElem htl]; rfl
          have HJ := hide (joinR_step (rowN R n k) (List.replicate n false) L htl)
          rw [hgd] at s0
          obtain ⟨z, hzz⟩ : ∃ z, z = L[t] := ⟨_, rfl⟩
          rw [← hzz] at s0 hz HJ
          obtain ⟨r, rfl⟩ : ∃ r : Nat, z = (r : Int) := ⟨z.toNat, by omega⟩
          rw [Int.toNat_natCast] at HJ
          have hra : a < r := by omega
          have hrn : r < n := by omega
          have hr0 : (0 : Int) ≤ (r : Int) := Int.natCast_nonneg _
          have hr1 : (r : Int) < (n : Int) := by omega
          clear hzz hgd hz
          have hHA := HA.out
          have cA := HS.out.cell (a := a) (by omega) hal
          obtain ⟨oA, lA⟩ := HS.out.each a (by omega) hal
          rw [getD_set _ _ _ _ _ (by rw [rowN_len]; exact hal), if_pos rfl] at oA lA
          obtain ⟨cur, hcur⟩ : ∃ cur, cur = joinR (rowN R n k) (List.replicate n false) (L.take t) := ⟨_, rfl⟩
          rw [← hcur] at oA lA HJ HS
          obtain ⟨cc, fc⟩ := oA.at (getD_some (by rw [lA]; exact hrn))
          have s1 := oA.set r true
          have PU := HS.out.put (a := a) (by omega) hal (row := cur.set r true) (by rw [List.length_set]; exact lA) s1.1 s1.2
          rw [List.set_set] at PU
          have GX2 : Hid (w.grownBy (wr.setCell ⟨q2 a, r, none⟩ (.bool true)) none) := grown_trans_row HX.out s1.2 (fun g e => by injection e with e; have := oA.lt.1; have := HQ.out; omega)
          have PU2 := hide PU
          have LA := hide lA
          clear PU s1 oA lA hHA hcur
          go_wp2_with fail
          clear cc fc cA s0
          generalize wr.setCell ⟨q2 a, r, none⟩ (.bool true) = wI at GX2 PU2 ⊢
          have hHA := HA.out
          have cA := PU2.out.cell (a := a) (by omega) hal
          have cR := PU2.out.cell (a := r) (by omega) hrn
          have NE := hide (PU2.out.ne (a := a) (by omega) hal)
          have JN : Hid (∀ wy, wI.grownBy wy none → Calls Tryd.prog 41 #[.slice (some ⟨q2 a, 0, none⟩) n n, .slice (some ⟨q2 r, 0, none⟩) n n] wy fun e w' => e = .returned (.tuple #[]) ∧ OwnBl w' Q (q2 a) (joinF (cur.set r true) ((rowN R n k).getD r [])) ∧ wy.grownBy w' (some (q2 a))) := fun wy hy => by
            have p := PU2.out.more hy
            obtain ⟨o1, l1⟩ := p.each a (by omega) hal
            obtain ⟨o2, l2⟩ := p.each r (by omega) hrn
            rw [getD_set _ _ _ _ _ (by rw [rowN_len]; exact hal), if_pos rfl] at o1 l1
            rw [getD_set _ _ _ _ _ (by rw [rowN_len]; exact hal), if_neg (by omega)] at o2 l2
            have h := join_any Q (q2 a) (q2 r) _ _ wy o1 o2 (l1.trans l2.symm) (p.inj a (by omega) hal r (by omega) hrn (by omega)) (by omega)
            rw [l2] at h
            exact h
          clear hHA
          go_region_held3 (fun w' => w'.cell? ⟨Q, a, none⟩ = some (.slice (some ⟨q2 a, 0, none⟩) n n) ∧ w'.cell? ⟨Q, r, none⟩ = some (.slice (some ⟨q2 r, 0, none⟩) n n)) (go_keep) (first | (go_at_call 41; refine (JN.out _ (grown_drew (grown_refl _))).mono ?_; rintro e w' ⟨rfl, ho, hgw⟩; have kA : w'.cell? ⟨Q, a, none⟩ = some (.slice (some ⟨q2 a, 0, none⟩) n n) := (World.cell?_of_block (hgw.block Q (World.block_lt_of_cell? _ _ cA) (by simpa using fun e => NE.out e.symm))).trans cA; have kR : w'.cell? ⟨Q, r, none⟩ = some (.slice (some ⟨q2 r, 0, none⟩) n n) := (World.cell?_of_block (hgw.block Q (World.block_lt_of_cell? _ _ cR) (by simpa using fun e => NE.out e.symm))).trans cR) | fail)
          have FIN : Hid (RW w' Q Q n (k + 1) q2 ((rowN R n k).set a (joinR (rowN R n k) (List.replicate n false) (L.take (t + 1))))) := by
            show RW _ _ _ _ _ _ _
            have hHA := HA.out
            have p := PU2.out.more (w' := wI.drew) (grown_drew (grown_refl _))
            have l2 := (p.each r (by omega) hrn).2
            rw [getD_set _ _ _ _ _ (by rw [rowN_len]; exact hal), if_neg (by omega)] at l2
            have h := p.put (a := a) (by omega) hal (row := joinF (cur.set r true) ((rowN R n k).getD r [])) (by rw [joinF_len (by rw [List.length_set, LA.out, l2]), List.length_set]; exact LA.out) ho hgw
            rw [List.set_set] at h
            rw [HJ.out]
            exact h
          have GF : Hid (w.grownBy w' none) := grown_trans_row (grown_drew GX2.out) hgw (fun g e => by injection e with e; have hHA := HA.out; have := ((PU2.out.each a (by omega) hal).1.lt).1; have := HQ.out; omega)
          clear ho hgw kA kR cA cR
          go_wp2_with fail
          go_roundg (L.length - (t + 1))
          case measure => omega
          case rel => exact ⟨t + 1, rfl, by omega, by go_num, FIN.out, GF.out⟩
        · obtain rfl : t = L.length := by omega
          rw [List.take_of_length_le (Nat.le_refl _)] at HS
          have FIN : Hid (RW wr Q Q n (k + 1) q2 (rowN R n (k + 1))) := by
            show RW _ _ _ _ _ _ _
            have h := HS.out
            rw [HLd.out] at h
            rw [rowN, ← HA.out]
            exact h
          go_wp2_with fail
          go_roundg (n - (k + 1))
          case measure => omega
          case rel => exact ⟨k + 1, q2, rfl, by omega, by go_num, FIN.out, HX.out⟩
    · obtain rfl : k = n := by omega
      go_wp2
      go_ret
      exact ⟨Q, q, rfl, HW.out.done, HG.out⟩
end Go.Proofs.YtmdpeckeliplkaaDoor
