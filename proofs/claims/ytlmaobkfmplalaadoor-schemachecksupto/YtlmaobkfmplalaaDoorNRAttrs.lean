/- The error of a node's attributes: the document's answer, by the walk. -/
import Derived.Test.YtlmaobkfmplalaaDoorNRFind
import Derived.Test.YtlmaobkfmplalaaDoorNRNum
import Derived.Test.YtlmaobkfmplalaaDoorNROf
namespace Go.Proofs.YtlmaobkfmplalaaDoor
open Go.RowKit

/-- No two attributes of an operator are called the same. -/
def Apart (a b : Ra) : Prop := (a.name.toList == b.name.toList) = false

/-- Those of one name ahead of a place have the kind. -/
def kindOK (nm : ByteArray) (kd : Int) (rs : List Ra) : Bool := rs.all (fun r => !(sameR nm r) || (r.kind == kd))

theorem find_uniq {nm : ByteArray} : ∀ {rs : List Ra} {j : Nat} {r : Ra}, rs.Pairwise Apart → rs[j]? = some r → sameR nm r = true → rs.find? (sameR nm) = some r
  | x :: l, 0, r, _, h, hs => by
    obtain rfl : x = r := by simpa using h
    rw [List.find?_cons, hs]
  | x :: l, j + 1, r, hp, h, hs => by
    obtain ⟨h1, h2⟩ := List.pairwise_cons.1 hp
    have hj : l[j]? = some r := by simpa using h
    have hx : sameR nm x = false := by
      have h3 := h1 r (List.mem_of_getElem? hj)
      unfold Apart at h3
      unfold sameR at hs ⊢
      rw [beq_iff_eq] at hs
      rw [← hs]
      exact h3
    rw [List.find?_cons, hx]
    exact find_uniq h2 hj hs

theorem any_find {nm : ByteArray} {rs : List Ra} : rs.any (sameR nm) = (rs.find? (sameR nm)).isSome := by
  induction rs with
  | nil => rfl
  | cons x l ih =>
    rw [List.any_cons, List.find?_cons]
    cases sameR nm x <;> simp [ih]

theorem kind_step {nm : ByteArray} {kd : Int} {rs : List Ra} {j : Nat} {r : Ra} (h : kindOK nm kd (rs.take j) = true) (hj : rs[j]? = some r) (hr : (!(sameR nm r) || (r.kind == kd)) = true) : kindOK nm kd (rs.take (j + 1)) = true := by
  unfold kindOK at h ⊢
  rw [List.take_add_one, List.all_append, h, hj]
  simp only [Option.toList_some, List.all_cons, List.all_nil, Bool.and_true, Bool.true_and]
  exact hr

theorem any_take {rs : List Ra} {f : Ra → Bool} {j : Nat} {r : Ra} (hj : rs[j]? = some r) : (rs.take (j + 1)).any f = ((rs.take j).any f || f r) := by
  rw [List.take_add_one, List.any_append, hj]
  simp

theorem kind_found {nm : ByteArray} {kd : Int} {rs : List Ra} {r : Ra} (h : kindOK nm kd rs = true) (hf : rs.find? (sameR nm) = some r) : r.kind = kd := by
  unfold kindOK at h
  rw [List.all_eq_true] at h
  have := h r (List.mem_of_find?_eq_some hf)
  rw [List.find?_some hf] at this
  simpa using this

theorem ra_at {w : World} {b off len cap : Nat} {xs : List Ra} (h : IsL 32 3 rcells w (.slice (some ⟨b, off, none⟩) len cap) xs) (k : Nat) (hk : k < xs.length) : w.cell? ⟨b, off + k * 3, none⟩ = some (.string xs[k].name) ∧ w.cell? ⟨b, off + k * 3 + 1, none⟩ = some (.int .i64 xs[k].kind) ∧ w.cell? ⟨b, off + k * 3 + 2, none⟩ = some (.bool xs[k].must) :=
  ⟨h.at k hk 0 (by omega), h.at k hk 1 (by omega), h.at k hk 2 (by omega)⟩

/-- What is found of one attribute among those of the operator. -/
def one1 (rs : List Ra) (a : Atr) : Option Int := match rs.find? (sameR a.name) with
  | none => some 5
  | some r => if a.kind != r.kind then some 4 else none

set_option maxRecDepth 100000 in
set_option maxHeartbeats 12800000 in
theorem rattrs_any (n : Nod) (xs : List Atr) (fv : Sl) (fs rs : List Ra) (hrs : rs = fs ++ [thenRa]) (base : Nat) (w : World) (hvk : ∀ w', w.grownBy w' fv.v.ownBlock → IsAttrs w' n.av.v xs) (hf : OwnsF w base fv.v fs) (hb : base ≤ w.heap.size) (hfl : fs.length ≤ 20) (hd : rs.Pairwise Apart) :
    Calls Tryd.prog 37 #[nval n, .slice fv.a fv.n fv.c] w fun e w' => e = .returned (.int .i64 (attrsE rs xs)) ∧ w.grownBy w' fv.v.ownBlock := by
  obtain ⟨i0, hi, hz0, hz1, hz2⟩ := info_parts infoFo
  obtain ⟨op, nam, ⟨ia, il, ic⟩, out, ⟨ao, al, cap⟩⟩ := n
  simp only at hvk
  have hv := hvk w (World.grownBy.refl _ _)
  obtain ⟨ao', cap', hav, h1, h2, h3⟩ := hv.form
  obtain ⟨rfl, rfl, rfl⟩ : ao = ao' ∧ al = xs.length ∧ cap = cap' := by simpa [Sl.v] using hav
  have HVK := hide hvk
  have HF := hide hf
  have HD := hide hd
  have HRS := hide hrs
  clear hv hav hd hvk hrs
  unfold nval
  simp only
  obtain ⟨w0, hw0⟩ : ∃ w0, w0 = w.alloc (.cells #[.string op, .string nam, .slice ia il ic, .string out, .slice ao xs.length cap] 25) := ⟨_, rfl⟩
  have g0 : w.grownBy w0 none := by rw [hw0]; exact grown_new _ _
  have b0 := heap_alloc_new w (.cells #[.string op, .string nam, .slice ia il ic, .string out, .slice ao xs.length cap] 25)
  rw [← hw0] at b0
  have B0 := hide b0
  have S0 : Hid (w0.heap.size = w.heap.size + 1) := by show _ = _; rw [hw0]; simp
  clear b0
  go_enter Tryd.func37, Tryd.ntmps37
  go_wp2_with fail
  rw [← hw0]
  clear hw0
  refine (ropt_any _ _ w0).mono ?_
  rintro e w1 ⟨rfl, hg1⟩
  have g1 := grown_trans g0 hg1
  have OW1 : Hid (∀ o, (w1.alloc o).ownsRow base 89 3 (.slice fv.a fv.n fv.c) fs.length (fs.flatMap rcells)) := fun o => World.ownsRow.alloc (OwnsL.more HF.out g1) o
  have sz1 := g1.size
  go_wp2_with (at_builtin; refine wpList_append_lies _ rfl (.tmp 13) (.tmp 15) 65 rfl base 89 i0 (.agg #[.string ⟨#[]⟩, .int .i64 0, .bool false]) 3 32 Tryd.underlying65 hi hz0 hz1 hz2 rfl (by decide) (.slice fv.a fv.n fv.c) fs.length (fs.flatMap rcells) rfl (by exact OW1.out _) ⟨w1.heap.size, 0, none⟩ 1 1 (rcells thenRa) rfl rfl (by exact World.news_of_block (heap_alloc_new w1 _)) (by intro u hu; simp only [rcells, List.mem_cons, List.not_mem_nil, or_false] at hu; rcases hu with rfl | rfl | rfl <;> rfl) (by omega) (by simp only [maxLen]; omega) (by omega) (by simp; omega) (w1.heap.size + 1) (by simp) ?_; intro g gc w4 hown' hgrow hat hlt4)
  have hrs := HRS.out
  have hrl : rs.length = fs.length + 1 := by rw [hrs]; simp
  have IR : Hid (IsL 32 3 rcells w4 (.slice (some ⟨g, 0, none⟩) (fs.length + 1) gc) rs) := by
    have o1 : OwnsL 89 3 rcells w4 base (.slice (some ⟨g, 0, none⟩) (fs.length + 1) gc) rs := by
      unfold OwnsL
      rw [hrl, hrs, List.flatMap_append]
      simpa using hown'
    exact o1.isL (bytes := 32) rcells_len (by omega)
  have fvlt : ∀ b, fv.v.ownBlock = some b → base ≤ b ∧ b < w.heap.size := fun b e => World.ownsRow.lt HF.out b e
  have GW4 : Hid (w.grownBy w4 fv.v.ownBlock) := by
    have ga := grown_trans g1 (grown_new w1 (.cells #[.string ⟨#[116, 104, 101, 110]⟩, .int .i64 3, .bool false] 89))
    exact grown_none_row ga hgrow
  have B4 : Hid (∀ wx, w4.grownBy wx none → wx.heap[w.heap.size]? = some (.cells #[.string op, .string nam, .slice ia il ic, .string out, .slice ao xs.length cap] 25 (0, 0))) := fun wx hx => box_kept ((hgrow.block _ (by have := S0.out; have := hg1.size; simp; omega) (fun e => by have := fvlt _ e.symm; omega)).trans (box_kept (box_kept B0.out hg1) (grown_new w1 _))) hx
  have GX : Hid (∀ wx, w4.grownBy wx none → w.grownBy wx fv.v.ownBlock) := fun wx hx => ⟨hx.os.trans GW4.out.os, hx.tape.trans GW4.out.tape, hx.output.trans GW4.out.output, Nat.le_trans GW4.out.size hx.size, fun b hb hne => (hx.block b (Nat.lt_of_lt_of_le hb GW4.out.size) (by simp)).trans (GW4.out.block b hb hne)⟩
  have HV : Hid (∀ wx, w4.grownBy wx none → IsAttrs wx (.slice ao xs.length cap) xs) := fun wx hx => HVK.out wx (GX.out wx hx)
  have HRL := hide hrl
  have hrl21 : fs.length + 1 ≤ 21 := by omega
  obtain ⟨m, hm⟩ : ∃ m, m = fs.length + 1 := ⟨_, rfl⟩
  rw [← hm] at IR hrl21 HRL ⊢
  clear hown' hgrow hat hlt4 OW1 B0 hf hrl hrs fvlt hm hfl g0 g1 hg1 sz1 S0
  have hgcm : m ≤ gc := by
    obtain ⟨a', c', e, k1, -⟩ := IR.out
    simp only [Value.slice.injEq] at e
    have := HRL.out
    omega
  have hgcx : gc ≤ 9223372036854775807 := by
    obtain ⟨a', c', e, k1, k2, -⟩ := IR.out
    simp only [Value.slice.injEq] at e
    omega
  go_loopw [5] (fun i wr => w4.grownBy wr none ∧ ∃ k : Nat, k ≤ xs.length ∧ i = .int .i64 k ∧ chk1 rs xs xs 0 = chk1 rs xs (xs.drop k) k) (fun i _ => xs.length - (intOf i).toNat)
  case atStart => exact ⟨grown_refl _, 0, Nat.zero_le _, rfl, rfl⟩
  case round =>
    obtain ⟨hg, k, hk, rfl, hpl⟩ := hrel
    have HPL := hide hpl
    clear hpl
    obtain ⟨-, -, -, -, n4⟩ := nod_cells (n := ⟨op, nam, ⟨ia, il, ic⟩, out, ⟨ao, xs.length, cap⟩⟩) (B4.out wr hg)
    by_cases hlt : k < xs.length
    · have HVk := HV.out wr hg
      obtain ⟨b, off, rfl⟩ := HVk.addr hlt
      obtain ⟨a0, a1, a2, a3, a4, a5, a6, a7, a8⟩ := HVk.attr k hlt
      have HCK := hide (chk1_at (rs := rs) hlt)
      obtain ⟨A, hA⟩ : ∃ A, A = xs[k] := ⟨_, rfl⟩
      rw [← hA] at a0 a1 a2 a3 a4 a5 a6 a7 a8 HCK
      clear HVk hA
      obtain ⟨W1, hW1⟩ : ∃ W1, W1 = wr.alloc (.cells #[.string A.name, .int .i64 A.kind, .int .i64 A.f, .int .i64 A.i, .string A.s, .int .i64 A.ty, .slice A.dv.a A.dv.n A.dv.c, .slice A.tv.a A.tv.n A.tv.c, .slice A.iv.a A.iv.n A.iv.c] 45) := ⟨_, rfl⟩
      have G1 : wr.grownBy W1 none := by rw [hW1]; exact grown_new _ _
      have B1 := heap_alloc_new wr (.cells #[.string A.name, .int .i64 A.kind, .int .i64 A.f, .int .i64 A.i, .string A.s, .int .i64 A.ty, .slice A.dv.a A.dv.n A.dv.c, .slice A.tv.a A.tv.n A.tv.c, .slice A.iv.a A.iv.n A.iv.c] 45)
      rw [← hW1] at B1
      have AB : Hid (∀ wx, W1.grownBy wx none → wx.heap[wr.heap.size]? = some (.cells #[.string A.name, .int .i64 A.kind, .int .i64 A.f, .int .i64 A.i, .string A.s, .int .i64 A.ty, .slice A.dv.a A.dv.n A.dv.c, .slice A.tv.a A.tv.n A.tv.c, .slice A.iv.a A.iv.n A.iv.c] 45 (0, 0))) := fun wx hx => box_kept B1 hx
      have gW := grown_trans hg G1
      clear B1
      go_wp2_with fail
      rw [← hW1]
      clear hW1 a0 a1 a2 a3 a4 a5 a6 a7 a8 n4
      obtain ⟨wo, rfl⟩ : ∃ wo, wo = wr := ⟨_, rfl⟩
      go_loopw [7, 8] (fun kn i wx => W1.grownBy wx none ∧ ∃ j : Nat, j ≤ m ∧ i = .int .i64 j ∧ kn = .bool ((rs.take j).any (sameR A.name)) ∧ kindOK A.name A.kind (rs.take j) = true) (fun _ i _ => m - (intOf i).toNat)
      case atStart => exact ⟨grown_refl _, 0, Nat.zero_le _, rfl, rfl, rfl⟩
      case round =>
        obtain ⟨hg2, j, hj, rfl, rfl, hko⟩ := hrel
        have HKO := hide hko
        clear hko
        by_cases hjl : j < m
        · have hjr : j < rs.length := by have := HRL.out; omega
          obtain ⟨r0, r1, r2⟩ := ra_at (IR.out.more (grown_trans gW hg2)) j hjr
          simp only [Nat.zero_add] at r0 r1 r2
          obtain ⟨c0, c1, c2, -⟩ := atr_cells (AB.out wr hg2)
          have HJ : Hid (rs[j]? = some rs[j]) := List.getElem?_eq_getElem hjr
          obtain ⟨R, hR⟩ : ∃ R, R = rs[j] := ⟨_, rfl⟩
          rw [← hR] at r0 r1 r2 HJ
          clear hR
          go_wp2_with fail
          go_cut [42] from 29 to 50 (fun b wx => b = .bool (sameR A.name R) ∧ W1.grownBy wx none)
          case first =>
            go_region
            all_goals
              go_wp2_with fail
              go_meet
              exact ⟨rfl, grown_drew hg2⟩
          case rest =>
            obtain ⟨rfl, hg3⟩ := hcut
            clear r0 r1 r2 c0 c1 c2
            cases hsr : sameR A.name R with
            | false =>
              have HN1 : Hid ((rs.take (j + 1)).any (sameR A.name) = (rs.take j).any (sameR A.name)) := by show _ = _; rw [any_take HJ.out, hsr, Bool.or_false]
              have HN2 : Hid (kindOK A.name A.kind (rs.take (j + 1)) = true) := kind_step HKO.out HJ.out (by rw [hsr]; rfl)
              clear hsr
              go_wp2
              go_roundw
              case rel => exact ⟨hg3, j + 1, by omega, by go_num, by rw [HN1.out], HN2.out⟩
              case measure => simp [intOf]; omega
            | true =>
              have HS := hide hsr
              obtain ⟨r0, r1, r2⟩ := ra_at (IR.out.more (grown_trans gW hg3)) j hjr
              simp only [Nat.zero_add] at r0 r1 r2
              have hR2 : rs[j] = R := Option.some.inj ((List.getElem?_eq_getElem hjr).symm.trans HJ.out)
              rw [hR2] at r0 r1 r2
              obtain ⟨c0, c1, c2, -⟩ := atr_cells (AB.out wc hg3)
              clear hR2 hsr
              go_wp2_with fail
              obtain ⟨wd, hwd⟩ : ∃ wd, wd = wc := ⟨_, rfl⟩
              rw [← hwd] at r0 r1 r2 c0 c1 c2 hg3 ⊢
              clear hwd
              go_cut [50] from 29 to 50 (fun b wx => b = .bool (R.kind != A.kind) ∧ W1.grownBy wx none)
              case first =>
                go_region
                all_goals
                  go_wp2_with fail
                  go_meet
                  exact ⟨rfl, grown_drew hg3⟩
              case rest =>
                obtain ⟨rfl, hg4⟩ := hcut
                have HFU : Hid (rs.find? (sameR A.name) = some R) := find_uniq HD.out HJ.out HS.out
                clear r0 r1 r2 c0 c1 c2
                cases hkd : (R.kind != A.kind) with
                | true =>
                  have E : Hid (attrsE rs xs = 4) := attrsE_some (by
                    rw [HPL.out, HCK.out, HFU.out]
                    have : (A.kind != R.kind) = true := by rw [bne_iff_ne] at hkd ⊢; exact fun e => hkd e.symm
                    simp only [this, Bool.true_or, if_true])
                  clear hkd
                  go_wp2
                  go_ret
                  exact ⟨by rw [E.out]; rfl, GX.out _ (grown_trans gW hg4)⟩
                | false =>
                  have HN1 : Hid ((rs.take (j + 1)).any (sameR A.name) = true) := by show _ = _; rw [any_take HJ.out, HS.out, Bool.or_true]
                  have HN2 : Hid (kindOK A.name A.kind (rs.take (j + 1)) = true) := kind_step HKO.out HJ.out (by have h : R.kind = A.kind := (by simpa using hkd); rw [h]; simp)
                  clear hkd
                  go_wp2
                  go_roundw
                  case rel => exact ⟨hg4, j + 1, by omega, by go_num, by rw [HN1.out], HN2.out⟩
                  case measure => simp [intOf]; omega
        · obtain rfl : j = m := by omega
          have hall : rs.take j = rs := List.take_of_length_le (by have := HRL.out; omega)
          rw [hall] at HKO ⊢
          clear hall
          rw [any_find]
          cases hfd : rs.find? (sameR A.name) with
          | none =>
            have E : Hid (attrsE rs xs = 5) := attrsE_some (by rw [HPL.out, HCK.out, hfd])
            clear hfd
            go_wp2
            go_ret
            exact ⟨by rw [E.out]; rfl, GX.out _ (grown_trans gW hg2)⟩
          | some R =>
            have HFD := hide hfd
            have HKD : Hid ((A.kind != R.kind) = false) := by have := kind_found HKO.out hfd; show _ = _; simp [this]
            clear hfd
            simp only [Option.isSome_some]
            obtain ⟨wp, rfl⟩ : ∃ wp, wp = wr := ⟨_, rfl⟩
            go_wp2_with fail
            go_loopw [9] (fun i wx => W1.grownBy wx none ∧ ∃ q : Nat, q ≤ k ∧ i = .int .i64 q ∧ (xs.take q).any (aheadA A.name) = false) (fun i _ => k - (intOf i).toNat)
            case atStart => exact ⟨hg2, 0, Nat.zero_le _, rfl, rfl⟩
            case round =>
              obtain ⟨hg3, q, hq, rfl, hno⟩ := hrel
              have HNO := hide hno
              clear hno
              by_cases hql : q < k
              · have HVq := HV.out wr (grown_trans gW hg3)
                obtain ⟨x0, -⟩ := HVq.attr q (by omega)
                obtain ⟨c0, c1, c2, -⟩ := atr_cells (AB.out wr hg3)
                obtain ⟨-, -, -, -, n4⟩ := nod_cells (n := ⟨op, nam, ⟨ia, il, ic⟩, out, ⟨some ⟨b, off, none⟩, xs.length, cap⟩⟩) (B4.out wr (grown_trans gW hg3))
                have HQ : Hid (xs[q]? = some (xs[q]'(by omega))) := List.getElem?_eq_getElem _
                obtain ⟨D, hD⟩ : ∃ D, D = xs[q]'(by omega) := ⟨_, rfl⟩
                rw [← hD] at x0 HQ
                clear HVq hD
                go_wp2_with fail
                go_cut [66] from 53 to 66 (fun b wx => b = .bool (aheadA A.name D) ∧ W1.grownBy wx none)
                case first =>
                  go_region
                  all_goals
                    go_wp2_with fail
                    go_meet
                    exact ⟨rfl, grown_drew hg3⟩
                case rest =>
                  obtain ⟨rfl, hg4⟩ := hcut
                  clear x0 c0 c1 c2 n4
                  cases hah : aheadA A.name D with
                  | true =>
                    have E : Hid (attrsE rs xs = 4) := attrsE_some (by
                      rw [HPL.out, HCK.out, HFD.out]
                      have ha : (xs.take k).any (aheadA A.name) = true := List.any_eq_true.2 ⟨D, by
                        have h5 : (xs.take k)[q]? = some D := by rw [List.getElem?_take_of_lt hql]; exact HQ.out
                        exact List.mem_of_getElem? h5, hah⟩
                      simp only [ha, Bool.or_true, if_true])
                    clear hah
                    go_wp2
                    go_ret
                    exact ⟨by rw [E.out]; rfl, GX.out _ (grown_trans gW hg4)⟩
                  | false =>
                    have HN : Hid ((xs.take (q + 1)).any (aheadA A.name) = false) := by
                      show _ = _
                      rw [List.take_add_one, List.any_append, HNO.out, HQ.out]
                      simp [hah]
                    clear hah
                    go_wp2
                    go_roundw
                    case rel => exact ⟨hg4, q + 1, by omega, by go_num, HN.out⟩
                    case measure => simp [intOf]; omega
              · obtain rfl : q = k := by omega
                obtain ⟨c0, c1, c2, -⟩ := atr_cells (AB.out wr hg3)
                by_cases hk1 : A.kind = 1
                · have e1 : (A.kind == 1) = true := by simpa using hk1
                  have HE1 := hide e1
                  rw [hk1] at c1
                  clear hk1 e1
                  go_wp2_with fail
                  refine (rcheck_any 1 A.f wr).mono ?_
                  rintro e w5 ⟨rfl, rfl⟩
                  cases hf5 : chk 1 A.f with
                  | false =>
                    have E : Hid (attrsE rs xs = 4) := attrsE_some (by rw [HPL.out, HCK.out, HFD.out]; simp [HKD.out, HNO.out, HE1.out, fOK_chk, hf5])
                    clear hf5
                    go_wp2
                    go_ret
                    exact ⟨by rw [E.out]; rfl, GX.out _ (grown_trans gW hg3)⟩
                  | true =>
                    have HN : Hid (chk1 rs xs xs 0 = chk1 rs xs (xs.drop (q + 1)) (q + 1)) := by
                      show _ = _
                      rw [HPL.out, HCK.out, HFD.out]; simp [HKD.out, HNO.out, fOK_chk, hf5]
                    clear hf5
                    go_wp2
                    go_roundw
                    case rel => exact ⟨grown_trans gW hg3, q + 1, by omega, by go_num, HN.out⟩
                    case measure => simp [intOf]; omega
                · have e1 : (A.kind == 1) = false := by simpa using hk1
                  have HN : Hid (chk1 rs xs xs 0 = chk1 rs xs (xs.drop (q + 1)) (q + 1)) := by
                    show _ = _
                    rw [HPL.out, HCK.out, HFD.out]; simp [HKD.out, HNO.out, e1]
                  clear hk1
                  go_wp2
                  go_roundw
                  case rel => exact ⟨grown_trans gW hg3, q + 1, by omega, by go_num, HN.out⟩
                  case measure => simp [intOf]; omega
    · obtain rfl : k = xs.length := by omega
      have HN : Hid (chk1 rs xs xs 0 = none) := by
        show _ = _
        rw [HPL.out, List.drop_of_length_le (Nat.le_refl _)]; rfl
      obtain ⟨wo, rfl⟩ : ∃ wo, wo = wr := ⟨_, rfl⟩
      go_wp2_with fail
      clear n4
      go_loopw [10] (fun i wx => w4.grownBy wx none ∧ ∃ k : Nat, k ≤ m ∧ i = .int .i64 k ∧ (rs.take k).any (fun r => r.must && !(xs.find? (isA r.name r.kind)).isSome) = false) (fun i _ => m - (intOf i).toNat)
      case atStart => exact ⟨hg, 0, Nat.zero_le _, rfl, rfl⟩
      case round =>
        obtain ⟨hgr, k, hk', rfl, hno⟩ := hrel
        have HNO := hide hno
        clear hno
        by_cases hlt2 : k < m
        · have hkr : k < rs.length := by have := HRL.out; omega
          obtain ⟨r0, r1, r2⟩ := ra_at (IR.out.more hgr) k hkr
          simp only [Nat.zero_add] at r0 r1 r2
          have HRK : Hid (rs[k]? = some rs[k]) := List.getElem?_eq_getElem hkr
          have RC : Hid (∀ wx, w4.grownBy wx none → wx.cell? ⟨g, k * 3, none⟩ = some (.string rs[k].name) ∧ wx.cell? ⟨g, k * 3 + 1, none⟩ = some (.int .i64 rs[k].kind) ∧ wx.cell? ⟨g, k * 3 + 2, none⟩ = some (.bool rs[k].must)) := fun wx hx => by
            have h := ra_at (IR.out.more hx) k hkr
            simpa only [Nat.zero_add] using h
          obtain ⟨R, hR⟩ : ∃ R, R = rs[k] := ⟨_, rfl⟩
          rw [← hR] at r0 r1 r2 HRK RC
          clear hR
          obtain ⟨n0, n1, n2, n3, n4⟩ := nod_cells (n := ⟨op, nam, ⟨ia, il, ic⟩, out, ⟨ao, xs.length, cap⟩⟩) (B4.out wr hgr)
          have FN := hide (fun (wx : World) (hx : wr.grownBy wx none) => rfind_any ⟨op, nam, ⟨ia, il, ic⟩, out, ⟨ao, xs.length, cap⟩⟩ xs R.name R.kind wx (HV.out wx (grown_trans hgr hx)))
          unfold nval at FN
          simp only at FN
          obtain ⟨bF, hbF⟩ : ∃ bF, bF = (xs.find? (isA R.name R.kind)).isSome := ⟨_, rfl⟩
          obtain ⟨A, hA⟩ : ∃ A, A = (xs.find? (isA R.name R.kind)).getD noAtr := ⟨_, rfl⟩
          rw [← hbF, ← hA] at FN
          unfold aval at FN
          have HBF := hide hbF
          clear hbF hA
          go_wp2_with fail
          go_cut [12] from 76 to 105 (fun b wx => b = .bool bF ∧ w4.grownBy wx none)
          case first =>
            have gd := grown_drew (grown_refl wr)
            have ga := grown_drew (grown_new wr (.cells #[.string ⟨#[]⟩, .int .i64 0, .int .i64 0, .int .i64 0, .string ⟨#[]⟩, .int .i64 0, .slice none 0 0, .slice none 0 0, .slice none 0 0] 45))
            have HZ : Hid (w.heap.size < wr.heap.size ∧ g < wr.heap.size) := ⟨(Array.getElem?_eq_some_iff.1 (B4.out wr hgr)).1, World.block_lt_of_cell? wr _ r0⟩
            have y1 : w.heap.size ≠ wr.heap.size := by have := HZ.out; omega
            have y1' := y1.symm
            have y2 : g ≠ wr.heap.size := by have := HZ.out; omega
            have y2' := y2.symm
            go_region_held3 (fun w' => w'.cell? ⟨w.heap.size, 0, none⟩ = some (.string op) ∧ w'.cell? ⟨w.heap.size, 1, none⟩ = some (.string nam) ∧ w'.cell? ⟨w.heap.size, 2, none⟩ = some (.slice ia il ic) ∧ w'.cell? ⟨w.heap.size, 3, none⟩ = some (.string out) ∧ w'.cell? ⟨w.heap.size, 4, none⟩ = some (.slice ao xs.length cap) ∧ w'.cell? ⟨g, k * 3, none⟩ = some (.string R.name) ∧ w'.cell? ⟨g, k * 3 + 1, none⟩ = some (.int .i64 R.kind)) (go_keep) (first | (go_at_call 29; refine (FN.out _ (by first | exact gd | exact ga)).mono ?_; rintro e v2 ⟨rfl, hg2⟩; have G2 : wr.grownBy v2 none := (by first | exact grown_trans gd hg2 | exact grown_trans ga hg2); obtain ⟨n0, n1, n2, n3, n4⟩ := nod_cells (n := ⟨op, nam, ⟨ia, il, ic⟩, out, ⟨ao, xs.length, cap⟩⟩) (B4.out v2 (grown_trans hgr G2)); obtain ⟨r0, r1, r2⟩ := RC.out v2 (grown_trans hgr G2); have y3 : w.heap.size ≠ v2.heap.size := (by have := G2.size; have := HZ.out; omega); have y3' := y3.symm; have y4 : g ≠ v2.heap.size := (by have := G2.size; have := HZ.out; omega); have y4' := y4.symm; try (have kz : v2.heap[wr.heap.size]? = some (.cells #[.string ⟨#[]⟩, .int .i64 0, .int .i64 0, .int .i64 0, .string ⟨#[]⟩, .int .i64 0, .slice none 0 0, .slice none 0 0, .slice none 0 0] 45 (0, 0)) := box_kept (show ((wr.alloc (.cells #[.string ⟨#[]⟩, .int .i64 0, .int .i64 0, .int .i64 0, .string ⟨#[]⟩, .int .i64 0, .slice none 0 0, .slice none 0 0, .slice none 0 0] 45)).drew).heap[wr.heap.size]? = _ from heap_alloc_new wr _) hg2; obtain ⟨f0, f1, f2, f3, f4, f5, f6, f7, f8⟩ := atr_frozen kz; obtain ⟨k0, k1, k2, k3, k4, k5, k6, k7, k8⟩ := atr_cells (a := noAtr) kz)))
            · go_wp2_with fail
              go_meet
              exact ⟨rfl, grown_trans (grown_trans hgr G2) (grown_new _ _)⟩
            · obtain ⟨-, gX⟩ := store9 (.string A.name) (.int .i64 A.kind) (.int .i64 A.f) (.int .i64 A.i) (.string A.s) (.int .i64 A.ty) (.slice A.dv.a A.dv.n A.dv.c) (.slice A.tv.a A.tv.n A.tv.c) (.slice A.iv.a A.iv.n A.iv.c) (grown_trans hgr G2) hgr.size kz
              have GXX := hide gX
              clear gX
              go_wp2_with fail
              go_meet
              exact ⟨rfl, GXX.out⟩
          case rest =>
            obtain ⟨rfl, hgx⟩ := hcut
            obtain ⟨r0, r1, r2⟩ := RC.out wc hgx
            by_cases hmu : (R.must && !bF) = true
            · have E : Hid (attrsE rs xs = 4) := by
                show _ = _
                unfold attrsE
                rw [HN.out]
                have hl : lacks rs xs = true := List.any_eq_true.2 ⟨R, List.mem_of_getElem? HRK.out, by rw [← HBF.out]; exact hmu⟩
                simp only [hl, if_true]
              obtain ⟨hm1, hm2⟩ : R.must = true ∧ bF = false := by simpa using hmu
              rw [hm1] at r2
              subst hm2
              clear hmu hm1
              go_wp2
              go_ret
              exact ⟨by rw [E.out]; rfl, GX.out _ hgx⟩
            · have hmu' : (R.must && !bF) = false := by simpa using hmu
              have HS : Hid ((rs.take (k + 1)).any (fun r => r.must && !(xs.find? (isA r.name r.kind)).isSome) = false) := any_step' HNO.out HRK.out (by rw [← HBF.out]; exact hmu')
              cases hmm : R.must with
              | false =>
                rw [hmm] at r2
                clear hmu hmu' hmm
                go_wp2
                go_roundw
                case rel => exact ⟨hgx, k + 1, by omega, by go_num, HS.out⟩
                case measure => simp [intOf]; omega
              | true =>
                obtain rfl : bF = true := by rw [hmm] at hmu'; simpa using hmu'
                rw [hmm] at r2
                clear hmu hmu' hmm
                go_wp2
                go_roundw
                case rel => exact ⟨hgx, k + 1, by omega, by go_num, HS.out⟩
                case measure => simp [intOf]; omega
        · obtain rfl : k = m := by omega
          have E : Hid (attrsE rs xs = 0) := by
            show _ = _
            unfold attrsE
            rw [HN.out]
            have hl : lacks rs xs = false := by
              have := HNO.out
              rwa [List.take_of_length_le (by have := HRL.out; omega)] at this
            simp [hl]
          go_wp2
          go_ret
          exact ⟨by rw [E.out]; rfl, GX.out _ hgr⟩
end Go.Proofs.YtlmaobkfmplalaaDoor
