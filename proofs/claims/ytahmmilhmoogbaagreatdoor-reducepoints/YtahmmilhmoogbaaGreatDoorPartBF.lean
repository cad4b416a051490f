/- Joined texts: RdGrp, RdPick. -/
import Derived.Test.YtahmmilhmoogbaaGreatDoorPartAV
import Derived.Test.YtahmmilhmoogbaaGreatDoorPartBE
namespace Go.Proofs.YtahmmilhmoogbaaGreatDoor

open Go.RowKit

set_option maxRecDepth 100000 in
set_option maxHeartbeats 8000000 in
theorem groups_any (n : Nod) (A : At) (u : Sl) (x : List Int) (gone : List Bool) (w : World) (hn : NodeOk w n A) (hx : IsInts w u.v x) (hf : Fine x) (hax : axesO x.length (alongP A x.length) (List.replicate x.length false) = some gone) (hgl : gone.length = x.length) :
    Calls Tryz.prog 37 #[nval n, .slice u.a u.n u.c] w fun e w' => ∃ (base Bw : Nat) (rs : List Sl), w.heap.size ≤ base ∧ e = .returned (.slice (some ⟨Bw, 0, none⟩) (cntF x gone) (cntF x gone)) ∧ Gr w' base Bw (cntF x gone) (grpL (plF x gone [0]) (cntF x gone) (plF x gone [0]).length) rs ∧ w.grownBy w' none := by
  obtain ⟨i0, hi0, hz0, hz1, hz2⟩ := info_parts infoInt
  obtain ⟨j0, hj0, jz0, jz1, jz2⟩ := info_parts infoIntsR
  obtain ⟨ux, uc, eu, c1, c2, c3⟩ := hx.sl
  obtain ⟨ua, un, uu⟩ := u
  simp only [Sl.v, Value.slice.injEq] at eu
  obtain ⟨rfl, rfl, rfl⟩ := eu
  have HX := hide hx
  have FEW := hf.few
  have HF := hide hf
  have HGL := hide hgl
  have PLS : Hid (∀ k, Pls (x.take k) (gone.take k) ∧ prod (x.take k) ≤ 65536) := fun k => ⟨pls_any (min k x.length) _ _ (by rw [List.length_take]) (by rw [List.length_take, HGL.out]) (fun z hz => HF.out.pos z (List.mem_of_mem_take hz)), Int.le_trans (prod_take_le (fun z hz => HF.out.pos z hz) k) HF.out.le⟩
  clear hx hf hgl
  have NK := hide hn
  obtain ⟨op, nam, ⟨ia, il, ic⟩, out, ⟨ao, al, cap⟩⟩ := n
  unfold nval
  simp only
  obtain ⟨w0, hw0⟩ : ∃ w0, w0 = w.alloc (.cells #[.string op, .string nam, .slice ia il ic, .string out, .slice ao al cap] 35) := ⟨_, rfl⟩
  have g0 : Hid (w.grownBy w0 none) := by show w.grownBy w0 none; rw [hw0]; exact grown_new _ _
  have hb0 := heap_alloc_new w (.cells #[.string op, .string nam, .slice ia il ic, .string out, .slice ao al cap] 35)
  rw [← hw0] at hb0
  have BX : Hid (∀ wx, w0.grownBy wx none → wx.heap[w.heap.size]? = some (.cells #[.string op, .string nam, .slice ia il ic, .string out, .slice ao al cap] 35 (0, 0))) := fun wx hg => box_kept hb0 hg
  clear hb0 hn
  have AL := hide (along_any ⟨op, nam, ⟨ia, il, ic⟩, out, ⟨ao, al, cap⟩⟩ A x.length w0 (NK.out.more g0.out) (by omega))
  unfold nval at AL
  simp only at AL
  obtain ⟨n0, n1, n2, n3, n4⟩ := nod_cells (n := ⟨op, nam, ⟨ia, il, ic⟩, out, ⟨ao, al, cap⟩⟩) (BX.out w0 (grown_refl _))
  rw [hw0] at n0 n1 n2 n3 n4
  go_enter Tryz.func37, Tryz.ntmps37
  go_wp2_with fail
  rw [← hw0]
  clear hw0 n0 n1 n2 n3 n4
  refine AL.out.mono ?_
  rintro e w1 ⟨⟨sa, sn, sc⟩, rfl, hs, hg1⟩
  have AX := hide (axes_any _ _ x.length w1 hs (by omega))
  simp only [Sl.v] at AX ⊢
  rw [hax] at AX
  have G1 := hide (grown_trans g0.out hg1)
  clear hs hg1 AL hax
  go_wp2_with (first | (go_at_call 58; refine AX.out.mono ?_; rintro e w2 ⟨hg2, Bg, rfl, hob, -⟩) | fail)
  have GI := hide (grown_trans G1.out (grown_trans hg2 (grown_new w2 (.cells #[.int .i64 0] 3))))
  have OB := hide (hob.new (grown_new w2 (.cells #[.int .i64 0] 3)))
  have P0 := hide (ints_new w2 [0] 3 (by simp) (by simp))
  obtain ⟨w3, hw3⟩ : ∃ w3, w3 = w2.alloc (.cells #[.int .i64 0] 3) := ⟨_, rfl⟩
  simp only [List.map_cons, List.map_nil, List.length_cons, List.length_nil, Nat.zero_add] at P0
  rw [← hw3] at GI OB P0 ⊢
  clear hg2 hob hw3 AX G1
  go_loopw [7, 8, 27] (fun s c i wr => ∃ (k : Nat) (u : Sl), k ≤ x.length ∧ i = .int .i64 k ∧ s = .slice u.a u.n u.c ∧ c = .int .i64 ((cntF (x.take k) (gone.take k) : Nat) : Int) ∧ IsInts wr u.v (plF (x.take k) (gone.take k) [0]) ∧ w3.grownBy wr none) (fun _ _ i _ => x.length - (intOf i).toNat)
  case atStart => exact ⟨0, ⟨some ⟨w2.heap.size, 0, none⟩, 1, 1⟩, Nat.zero_le _, rfl, rfl, rfl, P0.out, grown_refl _⟩
  case round =>
    obtain ⟨k, ⟨sa, sn, sc⟩, hk, rfl, rfl, rfl, hp, hg⟩ := hrel
    simp only
    have HPK := hide hp
    have HG := hide hg
    by_cases hkl : k < x.length
    · obtain ⟨b, off, rfl, hc⟩ := HX.out.get hkl
      have hgk : k < gone.length := by rw [HGL.out]; exact hkl
      have hcell : wr.cell? ⟨b, off + k, none⟩ = some (.int .i64 (x.getD k 0)) := cell_still (hc k hkl) (grown_trans GI.out hg)
      obtain ⟨cb, fb⟩ := (OB.out.new hg).at (k := k) (v := gone.getD k false) (by simp [List.getD, hgk])
      have hd1 : 1 ≤ x.getD k 0 := HF.out.at k hkl
      have hd2 : x.getD k 0 ≤ 65536 := HF.out.le_each (by simp [List.getD, hkl])
      obtain ⟨d, hd⟩ : ∃ d : Nat, x.getD k 0 = (d : Int) := ⟨(x.getD k 0).toNat, (Int.toNat_of_nonneg (by omega)).symm⟩
      have S1 := plF_snoc (x.getD k 0) (gone.getD k false) (x.take k) (gone.take k) [0] (by rw [List.length_take, List.length_take, HGL.out])
      have S2 := cntF_snoc (x.getD k 0) (gone.getD k false) (x.take k) (gone.take k) (by rw [List.length_take, List.length_take, HGL.out])
      rw [← take_step x k hkl, ← takeB_step gone k hgk] at S1 S2
      have PK := PLS.out k
      have PK1 := PLS.out (k + 1)
      obtain ⟨gb, hgb⟩ : ∃ gb, gb = gone.getD k false := ⟨_, rfl⟩
      rw [hd, Int.toNat_natCast, ← hgb] at S1 S2
      rw [hd] at hcell hd1 hd2
      rw [← hgb] at cb
      have e1 := PK1.1.len
      rw [S1, furF_len] at e1
      have e2 := PK1.1.cnt
      rw [S2] at e2
      have e3 := PK1.2
      have e4 := PK.1.cnt
      have e5 := PK.2
      have FU := hide (fun (wx : World) (hgx : wr.grownBy wx none) => fur_any ⟨sa, sn, sc⟩ _ d gb wx (HPK.out.more hgx) (fun p hp => by have := PK.1.mem p hp; omega) (by omega) (by omega))
      simp only at FU
      have HS1 := hide S1
      have HS2 := hide S2
      obtain ⟨C, hC⟩ : ∃ C, C = cntF (x.take k) (gone.take k) := ⟨_, rfl⟩
      rw [← hC] at HS2 e2 e4 ⊢
      clear hc hd hgb hp hg S1 S2 PK PK1 hC e1
      cases gb with
      | true =>
        go_wp2_with (first | (go_at_call 60; refine (FU.out _ (grown_refl _)).mono ?_; rintro e w4 ⟨⟨va, vn, vc⟩, rfl, ho, hg4⟩; simp only) | fail)
        have N1 := hide ho.ints
        have N2 := hide (grown_trans HG.out hg4)
        clear ho hg4
        go_roundw
        case rel => exact ⟨k + 1, ⟨va, vn, vc⟩, by omega, by go_num, rfl, by rw [HS2.out]; simp, by rw [HS1.out]; exact N1.out, N2.out⟩
        case measure => simp [intOf]; omega
      | false =>
        simp only [Bool.false_eq_true, if_false, Int.natCast_mul] at e2
        have q0 : 0 ≤ (C : Int) * (d : Int) := Int.mul_nonneg (Int.natCast_nonneg _) (Int.natCast_nonneg _)
        have hw : IntKind.i64.wrap ((C : Int) * (d : Int)) = (C : Int) * d := by rw [wrap_i64_eq]; unfold wrap64; omega
        go_wp2_with (first | (go_at_call 60; refine (FU.out _ (grown_refl _)).mono ?_; rintro e w4 ⟨⟨va, vn, vc⟩, rfl, ho, hg4⟩; simp only) | fail)
        have N1 := hide ho.ints
        have N2 := hide (grown_trans HG.out hg4)
        clear ho hg4
        go_roundw
        case rel => exact ⟨k + 1, ⟨va, vn, vc⟩, by omega, by go_num, rfl, by rw [HS2.out]; simp, by rw [HS1.out]; exact N1.out, N2.out⟩
        case measure => simp [intOf]; omega
    · have hke : k = x.length := by omega
      subst hke
      have tx : x.take x.length = x := List.take_length
      have tg : gone.take x.length = gone := List.take_of_length_le (by rw [HGL.out]; exact Nat.le_refl _)
      have PK := PLS.out x.length
      rw [tx, tg] at PK HPK ⊢
      obtain ⟨PL, hPL⟩ : ∃ PL, PL = plF x gone [0] := ⟨_, rfl⟩
      obtain ⟨C, hC⟩ : ∃ C, C = cntF x gone := ⟨_, rfl⟩
      obtain ⟨p1, p2, p3, p4⟩ := PK.1
      rw [← hPL] at p1 p2
      rw [← hC] at p2 p3 p4
      rw [← hPL] at HPK
      rw [← hC]
      have HPL := hide hPL
      have HCC := hide hC
      have hb := PK.2
      have hb1 : PL.length ≤ 65536 := by omega
      have hb2 : C ≤ 65536 := by omega
      have PM := hide p2
      have hb4 : j0.bytes * C ≤ 281474976710656 := by rw [jz2]; omega
      have hb5 : C ≤ maxLen := by simp only [maxLen]; omega
      obtain ⟨_, _, ep, -⟩ := HPK.out.sl
      simp only [Sl.v, Value.slice.injEq] at ep
      obtain ⟨-, rfl, -⟩ := ep
      obtain ⟨wz, ewz⟩ : ∃ z, z = wr := ⟨_, rfl⟩
      subst ewz
      have hsz : w.heap.size ≤ wz.heap.size := (grown_trans GI.out HG.out).size
      clear hp hg PK hPL hC tx tg p1 p2 p3 hb hkl
      go_wp2_with (first | (refine wpList_make_full _ rfl (.tmp 48) (.tmp 48) 75 rfl wz.heap.size 22 j0 (.slice none 0 0) 1 Tryz.underlying75 hj0 jz0 jz1 .i64 .i64 _ _ C rfl rfl (by omega) (by omega) hb4 hb5 (Nat.le_refl _) ?_; intro w5 hown5 hg5))
      have GR0 := hide (Gr.nils (R := grpL PL C 0) hown5 (fun k hk => by rw [grpL_at PL C 0 k hk]; rfl))
      have HG5 := hide hg5
      clear hown5 hg5 hb4 hb5
      go_wp2
      go_loopw [52] (fun i wx => ∃ (k : Nat) (rs : List Sl), k ≤ PL.length ∧ i = .int .i64 k ∧ Gr wx wz.heap.size wz.heap.size C (grpL PL C k) rs ∧ wz.grownBy wx none) (fun i _ => PL.length - (intOf i).toNat)
      case atStart => exact ⟨0, _, Nat.zero_le _, rfl, GR0.out, HG5.out⟩
      case round =>
        obtain ⟨k, rs, hk, rfl, hgr, hg⟩ := hrel
        have HR := hide hgr
        have HGX := hide hg
        by_cases hlt : k < PL.length
        · obtain ⟨b, off, rfl, hc⟩ := HPK.out.get hlt
          have hcell := cell_still (hc k hlt) hg
          have hm := PM.out (PL.getD k 0) (by simp [List.getD, hlt])
          obtain ⟨m, hme⟩ : ∃ m : Nat, PL.getD k 0 = (m : Int) := ⟨(PL.getD k 0).toNat, (Int.toNat_of_nonneg hm.1).symm⟩
          rw [hme] at hcell hm
          have hmC : m < C := by omega
          have HST := hide (grpL_step PL C k m hmC hme)
          obtain ⟨rc, rf⟩ := hgr.rd hmC
          have EA := hide (hgr.each m hmC)
          rw [grpL_at PL C k m hmC] at EA
          obtain ⟨⟨ra, rn, rcap⟩, hrv⟩ : ∃ s, s = rs.getD m nilG := ⟨_, rfl⟩
          rw [← hrv] at rc EA
          simp only at rc
          have hlen := grpR_le PL k m
          have OW := hide ((EA.out.new (grown_new wr (.cells #[.int .i64 (k : Int)] 3))).1)
          have hsz' := hg.size
          have GA : Hid (∀ (w8 : World) (gg cap8 : Nat), w8.ownsRow wz.heap.size 3 1 (.slice (some ⟨gg, 0, none⟩) ((grpR PL k m).length + 1) cap8) ((grpR PL k m).length + 1) ((grpR PL k m).map (Value.int .i64) ++ [.int .i64 (k : Int)]) → (wr.alloc (.cells #[.int .i64 (k : Int)] 3)).grownBy w8 (Value.slice ra rn rcap).ownBlock → ((Value.slice ra rn rcap).ownBlock = some gg ∨ gg = wr.heap.size + 1) → w8.cell? ⟨wz.heap.size, m, none⟩ = some (.slice ra rn rcap) ∧ w8.frozen? ⟨wz.heap.size, m, none⟩ = false ∧ Gr (w8.setCell ⟨wz.heap.size, m, none⟩ (.slice (some ⟨gg, 0, none⟩) ((grpR PL k m).length + 1) cap8)) wz.heap.size wz.heap.size C (grpL PL C (k + 1)) (rs.set m ⟨some ⟨gg, 0, none⟩, (grpR PL k m).length + 1, cap8⟩) ∧ wz.grownBy (w8.setCell ⟨wz.heap.size, m, none⟩ (.slice (some ⟨gg, 0, none⟩) ((grpR PL k m).length + 1) cap8)) none) := fun w8 gg cap8 h1 h2 h3 => by
            have e0 : rs.getD m nilG = ⟨ra, rn, rcap⟩ := hrv.symm
            have key := (HR.out.new (grown_new wr (.cells #[.int .i64 (k : Int)] 3))).app (grpL_len _ _ _) hmC (v' := ⟨some ⟨gg, 0, none⟩, (grpR PL k m).length + 1, cap8⟩) (i := k) (by rw [e0]; exact h2) (by rw [grpL_at PL C k m hmC]; exact h1) (by
              rw [e0]
              rcases h3 with h | h
              · exact Or.inl h.symm
              · exact Or.inr (by rw [h]; simp [Value.ownBlock])) (by omega) (by rw [grpL_at PL C k m hmC]; omega)
            rw [e0, grpL_at PL C k m hmC, ← HST.out] at key
            refine ⟨key.1, key.2.1, key.2.2.1, ?_⟩
            exact grown_drop (grown_trans_row (grown_trans HGX.out (grown_new _ _)) h2 (fun r e => ((HR.out.each m hmC).1.lt r (by rw [e0]; exact e)).1)) key.2.2.2 (Nat.le_refl _)
          have l1 : (k : Int) < (PL.length : Int) := by omega
          have l2 : (m : Int) < (C : Int) := by omega
          clear hgr hg hc hm hme hrv
          go_wp2_with (first | (at_builtin; refine wpList_append_lies _ rfl (.tmp 62) (.tmp 64) 22 rfl wz.heap.size 3 i0 (.int .i64 0) 1 8 Tryz.underlying22 hi0 hz0 hz1 hz2 rfl (by decide) (.slice ra rn rcap) (grpR PL k m).length ((grpR PL k m).map (Value.int .i64)) rfl (by exact OW.out) ⟨wr.heap.size, 0, none⟩ 1 1 [.int .i64 (k : Int)] rfl rfl (by exact World.news_of_block (by have h := heap_alloc_new wr (.cells #[.int .i64 (k : Int)] 3); simpa using h)) (int_one _) (by omega) (by simp only [maxLen]; omega) (by omega) (by simp; omega) (wr.heap.size + 1) (by simp) ?_; intro gg cap8 w8 hown8 hgrow hat hlt8; obtain ⟨s1, s2, s3, s4⟩ := GA.out w8 gg cap8 hown8 hgrow hat; clear hown8 hgrow hat hlt8 rc rf) | fail)
          go_roundw
          case rel => exact ⟨k + 1, _, by omega, by go_num, s3, s4⟩
          case measure => simp [intOf]; omega
        · have hke : k = PL.length := by omega
          subst hke
          clear hgr hg
          go_wp2
          go_ret
          rw [← HPL.out, ← HCC.out]
          exact ⟨_, _, rs, hsz, rfl, HR.out, grown_trans (grown_trans GI.out HG.out) HGX.out⟩

end Go.Proofs.YtahmmilhmoogbaaGreatDoor

namespace Go.Proofs.YtahmmilhmoogbaaGreatDoor

open Go.RowKit

def pickL (xs ns : List Int) : List Int := ns.map fun z => xs.getD z.toNat 0

theorem pick_setR (f : Int → Int) (l : List Int) (k : Nat) (hk : k < l.length) : ((l.take k).map f ++ List.replicate (l.length - k) (0 : Int)).set k (f (l.getD k 0)) = (l.take (k + 1)).map f ++ List.replicate (l.length - (k + 1)) 0 := by
  rw [List.set_append_right _ _ (by rw [List.length_map, List.length_take]; omega), List.length_map, List.length_take, Nat.min_eq_left (by omega), Nat.sub_self, show l.length - k = (l.length - (k + 1)) + 1 from by omega, List.replicate_succ, List.set_cons_zero, List.take_add_one, List.getElem?_eq_getElem (by omega), Option.toList_some, List.map_append, List.append_assoc]
  have e : l.getD k 0 = l[k] := by simp [List.getD, hk]
  rw [e]
  rfl

set_option maxRecDepth 100000 in
set_option maxHeartbeats 4000000 in
theorem picked_any (u v : Sl) (xs ns : List Int) (w : World) (hx : IsInts w u.v xs) (hn : IsInts w v.v ns) (hl : ns.length ≤ 70000) (hm : ∀ z ∈ ns, 0 ≤ z ∧ z < (xs.length : Int)) : Calls Tryz.prog 38 #[.slice u.a u.n u.c, .slice v.a v.n v.c] w fun e w' => ∃ s : Sl, e = .returned (.slice s.a s.n s.c) ∧ IsInts w' s.v (pickL xs ns) ∧ w.grownBy w' none := by
  obtain ⟨i0, hi0, hz0, hz1, hz2⟩ := info_parts info64E
  obtain ⟨ua, un, uc⟩ := u
  obtain ⟨va, vn, vc⟩ := v
  obtain ⟨_, _, eu, c1, c2, c3⟩ := hx.sl
  obtain ⟨_, _, ev, d1, d2, d3⟩ := hn.sl
  simp only [Sl.v, Value.slice.injEq] at eu ev
  obtain ⟨rfl, rfl, rfl⟩ := eu
  obtain ⟨rfl, rfl, rfl⟩ := ev
  have HX := hide hx
  have HN := hide hn
  have HM := hide hm
  have hb4 : i0.bytes * ns.length ≤ 281474976710656 := by rw [hz2]; omega
  have hb5 : ns.length ≤ maxLen := by simp only [maxLen]; omega
  clear hx hn hm
  go_enter Tryz.func38, Tryz.ntmps38
  go_wp2_with (first | (refine wpList_make_full _ rfl (.tmp 9) (.tmp 9) 23 rfl w.heap.size 2 i0 (.int .i64 0) 1 Tryz.underlying23 hi0 hz0 hz1 .i64 .i64 _ _ ns.length rfl rfl (by omega) (by omega) hb4 hb5 (Nat.le_refl _) ?_; intro w1 hown1 hg1))
  rw [made_zeros] at hown1
  have O1 : Hid (OwnsE w1 w.heap.size (.slice (some ⟨w.heap.size, 0, none⟩) ns.length ns.length) (List.replicate ns.length 0)) := by
    refine ⟨by rw [List.length_replicate]; exact hown1, by rw [List.length_replicate]; omega, fun z hz => ?_⟩
    rw [(List.mem_replicate.1 hz).2]
    omega
  have G1 := hide hg1
  clear hown1 hg1 hb4 hb5
  go_wp2
  go_loopw [13] (fun i wr => w.grownBy wr none ∧ ∃ k : Nat, k ≤ ns.length ∧ i = .int .i64 k ∧ OwnsE wr w.heap.size (.slice (some ⟨w.heap.size, 0, none⟩) ns.length ns.length) ((ns.take k).map (fun z => xs.getD z.toNat 0) ++ List.replicate (ns.length - k) 0)) (fun i _ => ns.length - (intOf i).toNat)
  case atStart => exact ⟨G1.out, 0, Nat.zero_le _, rfl, by simpa using O1.out⟩
  case round =>
    obtain ⟨hg, k, hk, rfl, o1⟩ := hrel
    have HG := hide hg
    have P1 := hide o1
    clear o1
    by_cases hlt : k < ns.length
    · obtain ⟨b, off, rfl, hc⟩ := HN.out.get hlt
      have hcell := cell_still (hc k hlt) hg
      have hmm := HM.out (ns.getD k 0) (by simp [List.getD, hlt])
      obtain ⟨m, hme⟩ : ∃ m : Nat, ns.getD k 0 = (m : Int) := ⟨(ns.getD k 0).toNat, (Int.toNat_of_nonneg hmm.1).symm⟩
      rw [hme] at hcell hmm
      have hmx : m < xs.length := by omega
      obtain ⟨xb, xo, rfl, hcx⟩ := HX.out.get hmx
      have hcell2 := cell_still (hcx m hmx) hg
      have hwf := HX.out.wf (xs.getD m 0) (by simp [List.getD, hmx])
      obtain ⟨a1, a2, a3, a4⟩ := P1.out.put (by rw [List.length_append, List.length_map, List.length_take, List.length_replicate]; omega) hlt (xs.getD m 0) hwf
      have ST := pick_setR (fun z => xs.getD z.toNat 0) ns k hlt
      simp only [hme, Int.toNat_natCast] at ST
      rw [ST] at a3
      have N1 := hide a3
      have NG := hide (grown_drop hg a4 (Nat.le_refl _))
      obtain ⟨ov, hov⟩ : ∃ q, q = ((ns.take k).map (fun z => xs.getD z.toNat 0) ++ List.replicate (ns.length - k) (0 : Int)).getD k 0 := ⟨_, rfl⟩
      rw [← hov] at a1
      obtain ⟨z, hz⟩ : ∃ z, z = xs.getD m 0 := ⟨_, rfl⟩
      rw [← hz] at hcell2 N1 NG
      have l1 : (k : Int) < (ns.length : Int) := by omega
      have l2 : (m : Int) < (xs.length : Int) := by omega
      clear a3 a4 hg hov hz hc hcx hwf hme ST hmm
      go_wp2_with fail
      go_roundw
      case rel => exact ⟨NG.out, k + 1, by omega, by go_num, N1.out⟩
      case measure => simp [intOf]; omega
    · have hke : k = ns.length := by omega
      subst hke
      have F1 := P1.out.ints
      rw [List.take_length, Nat.sub_self, List.replicate_zero, List.append_nil] at F1
      have HF1 := hide F1
      clear hg F1
      go_wp2
      go_ret
      exact ⟨⟨some ⟨w.heap.size, 0, none⟩, ns.length, ns.length⟩, rfl, HF1.out, HG.out⟩

end Go.Proofs.YtahmmilhmoogbaaGreatDoor
