/- What a node and its inputs are called makes no difference: the law, by the walk. -/
import Derived.Test.YtdcbjikjeicgbaaGreatDoorINamJ
import Derived.Test.YtdcbjikjeicgbaaGreatDoorIBatJ
import Derived.Test.YtdcbjikjeicgbaaGreatDoorPartU
import Derived.Test.YtdcbjikjeicgbaaGreatDoorGUpdJ
import Derived.Test.YtdcbjikjeicgbaaGreatDoorGCopyVJ
namespace Go.Proofs.YtdcbjikjeicgbaaGreatDoor
open Go.RowKit

/-- The first k of a list, called by one name. -/
def cldI (s : ByteArray) (k : Nat) (ins : List ByteArray) : List ByteArray := List.replicate k s ++ ins.drop k

theorem cldI_len {s : ByteArray} {k : Nat} {ins : List ByteArray} (hk : k ≤ ins.length) : (cldI s k ins).length = ins.length := by
  unfold cldI
  rw [List.length_append, List.length_replicate, List.length_drop]
  omega

theorem cldI_set {s : ByteArray} {k : Nat} {ins : List ByteArray} (hk : k < ins.length) : (cldI s k ins).set k s = cldI s (k + 1) ins := by
  unfold cldI
  rw [List.set_append_right _ _ (by simp), List.length_replicate, Nat.sub_self, List.drop_eq_getElem_cons hk, List.set_cons_zero, List.replicate_succ', List.append_assoc]
  rfl

theorem cldI_at {s : ByteArray} {k : Nat} {ins : List ByteArray} (hk : k < ins.length) : (cldI s k ins)[k]? = some ins[k] := by
  unfold cldI
  rw [List.getElem?_append_right (by simp), List.length_replicate, Nat.sub_self, List.drop_eq_getElem_cons hk]
  rfl

theorem cldI_any {s : ByteArray} {k : Nat} {ins : List ByteArray} (hs : (s.toList == []) = false) (hk : k = ins.length) : (cldI s k ins).any (isS ⟨#[]⟩) = false := by
  unfold cldI
  rw [hk, List.drop_of_length_le (Nat.le_refl _), List.append_nil, List.any_eq_false]
  intro x hx
  rw [(List.mem_replicate.1 hx).2]
  have h1 : s.toList ≠ [] := by simpa using hs
  simp only [isS, beq_iff_eq]
  intro e
  exact h1 (e.symm.trans (by rw [bytes_toList]))

/-- The first k of the values, called by one name. -/
def cldV (s : ByteArray) (k : Nat) (qs : List (Val × List Int)) : List (Val × List Int) := (qs.take k).map (fun p => ((⟨s, p.1.ty, p.1.dv⟩ : Val), p.2)) ++ qs.drop k

theorem cldV_len {s : ByteArray} {k : Nat} {qs : List (Val × List Int)} (hk : k ≤ qs.length) : (cldV s k qs).length = qs.length := by
  unfold cldV
  rw [List.length_append, List.length_map, List.length_take, List.length_drop]
  omega

theorem cldV_at {s : ByteArray} {k : Nat} {qs : List (Val × List Int)} (hk : k < qs.length) : (cldV s k qs)[k]? = some qs[k] := by
  unfold cldV
  have hl : ((qs.take k).map (fun p => ((⟨s, p.1.ty, p.1.dv⟩ : Val), p.2))).length = k := by rw [List.length_map, List.length_take]; omega
  rw [List.getElem?_append_right (by rw [hl]; omega), hl, Nat.sub_self, List.drop_eq_getElem_cons hk]
  rfl

theorem cldV_set {s : ByteArray} {k : Nat} {qs : List (Val × List Int)} (hk : k < qs.length) : (cldV s k qs).set k ((⟨s, qs[k].1.ty, qs[k].1.dv⟩ : Val), qs[k].2) = cldV s (k + 1) qs := by
  unfold cldV
  have hl : ((qs.take k).map (fun p => ((⟨s, p.1.ty, p.1.dv⟩ : Val), p.2))).length = k := by rw [List.length_map, List.length_take]; omega
  rw [List.set_append_right _ _ (by rw [hl]; omega), hl, Nat.sub_self, List.drop_eq_getElem_cons hk, List.set_cons_zero, List.take_add_one, List.getElem?_eq_getElem hk, List.map_append, List.append_assoc]
  rfl

theorem cldV_tys {s : ByteArray} {k : Nat} {qs : List (Val × List Int)} : tysOf (cldV s k qs) = tysOf qs ∧ dimsOf (cldV s k qs) = dimsOf qs := by
  unfold tysOf dimsOf cldV
  constructor
  · conv => rhs; rw [← List.take_append_drop k qs]
    rw [List.map_append, List.map_append, List.map_map]
    rfl
  · conv => rhs; rw [← List.take_append_drop k qs]
    rw [List.map_append, List.map_append, List.map_map]
    rfl

theorem keys_same {qs vs : List (Val × List Int)} (h : qs.map vkey = vs.map vkey) : tysOf qs = tysOf vs ∧ dimsOf qs = dimsOf vs := by
  have h1 := congrArg (List.map (fun q : ByteArray × Int × List Int => q.2.1)) h
  have h2 := congrArg (List.map (fun q : ByteArray × Int × List Int => q.2.2)) h
  rw [List.map_map, List.map_map] at h1 h2
  exact ⟨h1, h2⟩

theorem flat_scell (l : List ByteArray) : l.flatMap scell = l.map Value.string := by
  induction l with
  | nil => rfl
  | cons a l ih => rw [List.flatMap_cons, ih]; rfl

/-- The copy of a node, its inputs called anew. -/
theorem Copied.again {w w' W : World} {n : Nod} {ins ins' : List ByteArray} {A : At} {ys : List Atr} {iv av : Sl} {b : Nat} {s : ByteArray} (h : Copied w w' n ins A.xs A.cs iv av ys) (hn : NodeAll w n ins A) (kp : ∀ c, c < w'.heap.size → iv.v.ownBlock ≠ some c → W.heap[c]? = w'.heap[c]?) (own : OwnsL 9 1 scell W b iv.v ins') (hl : ins'.length = ins.length) (hb : ys.length * 136 ≤ 140737488351232) (hs : s.size ≤ 1048576) : NodeAll W ⟨n.op, s, iv, s, av⟩ ins' ⟨A.op, ys, A.cs⟩ := by
  obtain ⟨-, -, -, -, -, hi3⟩ := hn.node.ins.form
  refine ⟨⟨own.isL (bytes := 16) scell_len (by rw [hl]; exact hi3), (h.own.isL (bytes := 136) acells_len hb).kept fun c hc e => kp c hc (fun e2 => h.apt c e2 e), ?_, by rw [h.len]; exact hn.node.few, strip_s h.eq hn.node.short⟩, hn.op, ?_, hn.lens, hs⟩
  · intro j a ha
    have hj : j < A.xs.length := by rw [← h.len]; exact (List.getElem?_eq_some_iff.1 ha).1
    obtain ⟨c, hc, -⟩ := hn.node.has j A.xs[j] (List.getElem?_eq_getElem hj)
    have hm := h.new a (List.mem_of_getElem? ha)
    exact ⟨c, hc, (h.has j a c ha hc).kept fun d hd e => kp d hd (hm.2.2.any e)⟩
  · intro a ha
    have h1 : strip a ∈ A.xs.map strip := by rw [← h.eq]; exact List.mem_map_of_mem ha
    obtain ⟨x, hx, e⟩ := List.mem_map.1 h1
    have := hn.rng x hx
    have e2 : (strip x).i = (strip a).i := by rw [e]
    have e3 : x.i = a.i := e2
    rw [← e3]
    exact this

set_option maxRecDepth 100000 in
set_option maxHeartbeats 16000000 in
theorem inam_walk (n : Nod) (ins : List ByteArray) (A : At) (u : Sl) (vs : List (Val × List Int)) (s : ByteArray) (w : World) (hl : Laid w) (hn : NodeAll w n ins A) (hfew : A.xs.length ≤ 1048576) (_hi : ins.length ≤ 1048576) (hv : ValsIn w u.v vs) (hvl : vs.length ≤ 1048576) (hs : s.size ≤ 1048576) :
    Calls Tryz.prog 5 #[nval n, .slice u.a u.n u.c, .string s] w fun e w' => e = .returned (.bool true) ∧ Below w.heap.size w w' := by
  have HLA := hide hl
  have HN := hide hn
  have HV := hide hv
  have HS := hide hs
  have OO := hide (fun (wx : World) (hx : w.grownBy wx none) => out_of n ins A u vs wx (hl.more hx) (hn.more hx) (hv.more hx))
  have LV := hide (fun (wx : World) (hx : w.grownBy wx none) => ilive_any wx (hl.more hx))
  have CN := hide (fun (wx : World) (hx : w.grownBy wx none) => copynode_any n ins A.xs A.cs wx (hn.node.ins.more hx) (hn.node.av.more hx) (hn.node.more hx).has hn.node.few)
  have CV := hide (fun (wx : World) (hx : w.grownBy wx none) => copyvals_any u.v vs wx (hv.more hx).vals (hv.more hx).dims hvl)
  have HF := hide hfew
  have HVL := hide hvl
  clear hl hn hv hs hvl hfew
  obtain ⟨w0, hw0⟩ : ∃ w0, w0 = w.alloc (.cells #[.string n.op, .string n.name, .slice n.iv.a n.iv.n n.iv.c, .string n.out, .slice n.av.a n.av.n n.av.c] 25) := ⟨_, rfl⟩
  have g0 : Hid (w.grownBy w0 none) := by show w.grownBy w0 none; rw [hw0]; exact grown_new _ _
  have hb0 := heap_alloc_new w (.cells #[.string n.op, .string n.name, .slice n.iv.a n.iv.n n.iv.c, .string n.out, .slice n.av.a n.av.n n.av.c] 25)
  rw [← hw0] at hb0
  have BX : Hid (∀ wx, w0.grownBy wx none → wx.heap[w.heap.size]? = some (.cells #[.string n.op, .string n.name, .slice n.iv.a n.iv.n n.iv.c, .string n.out, .slice n.av.a n.av.n n.av.c] 25 (0, 0))) := fun wx hg => box_kept hb0 hg
  clear hb0
  have O1 := hide (OO.out w0 g0.out)
  have hR : (∃ c, outF n ins A vs = .error c) ∨ ∃ r, outF n ins A vs = .ok r := by cases outF n ins A vs with
    | error c => exact .inl ⟨c, rfl⟩
    | ok r => exact .inr ⟨r, rfl⟩
  rcases hR with ⟨c, hR⟩ | ⟨r, hR⟩
  · have hc := outF_err hR
    rw [hR] at O1
    have bc : (c != 0) = true := by simpa using hc
    clear hR hc OO HN HV BX CN CV
    obtain ⟨op, nam, ⟨ia, il, ic⟩, out, ⟨ao, al, cap⟩⟩ := n
    obtain ⟨ua, un, uc⟩ := u
    unfold nval at O1 ⊢
    simp only at O1 hw0 ⊢
    go_enter Tryz.func5, Tryz.ntmps5
    go_wp2_with fail
    rw [← hw0]
    clear hw0
    refine O1.out.mono ?_
    rintro e w1 ⟨hg1, rfl⟩
    have G2 := hide (grown_trans (grown_trans g0.out hg1) (grown_new w1 (.cells #[.string ⟨#[]⟩, .int .i64 0, .slice none 0 0] 31)))
    clear hg1
    go_wp2_with fail
    refine (LV.out _ G2.out).mono ?_
    rintro e w3 ⟨rfl, hg3⟩
    go_wp2
    go_ret
    exact ⟨rfl, grown_below (grown_trans G2.out hg3)⟩
  · have HOK := hide (outF_ok hR)
    rw [hR] at O1
    clear hR OO
    obtain ⟨t, d⟩ := r
    obtain ⟨op, nam, ⟨ia, il, ic⟩, out, ⟨ao, al, cap⟩⟩ := n
    obtain ⟨ua, un, uc⟩ := u
    unfold nval at O1 CN ⊢
    simp only [Sl.v] at O1 BX CN CV hw0 ⊢
    by_cases hs0 : (s.toList == []) = true
    · clear HN HV BX CN CV HOK
      go_enter Tryz.func5, Tryz.ntmps5
      go_wp2_with fail
      rw [← hw0]
      clear hw0
      refine O1.out.mono ?_
      rintro e w1 ⟨hg1, ⟨sa, sn, sc⟩, rfl, ho⟩
      have G2 := hide (grown_trans (grown_trans g0.out hg1) (grown_new w1 (.cells #[.string out, .int .i64 t, .slice sa sn sc] 31)))
      clear hg1 ho
      simp only
      go_wp2_with fail
      refine (LV.out _ G2.out).mono ?_
      rintro e w3 ⟨rfl, hg3⟩
      go_wp2
      go_ret
      exact ⟨rfl, grown_below (grown_trans G2.out hg3)⟩
    · have hs1 : (s.toList == []) = false := by simpa using hs0
      have HS1 := hide hs1
      clear hs0
      go_enter Tryz.func5, Tryz.ntmps5
      go_wp2_with fail
      rw [← hw0]
      clear hw0
      refine O1.out.mono ?_
      rintro e w1 ⟨hg1, ⟨sa, sn, sc⟩, rfl, ho⟩
      have HAI := hide ho.ints
      have HG1 := hide hg1
      simp only [Sl.v] at HAI ⊢
      obtain ⟨W1, hW1⟩ : ∃ W1, W1 = w1.alloc (.cells #[.string out, .int .i64 t, .slice sa sn sc] 31) := ⟨_, rfl⟩
      have B1 := heap_alloc_new w1 (.cells #[.string out, .int .i64 t, .slice sa sn sc] 31)
      rw [← hW1] at B1
      have BA := hide B1
      have G11 : Hid (w1.grownBy W1 none) := by show w1.grownBy W1 none; rw [hW1]; exact grown_new _ _
      have G10 := hide (grown_trans HG1.out G11.out)
      have G1 := hide (grown_trans g0.out G10.out)
      have LT1 : Hid (w1.heap.size < W1.heap.size) := (Array.getElem?_eq_some_iff.1 B1).1
      obtain ⟨n0, n1, n2, n3, n4⟩ := nod_cells (n := ⟨op, nam, ⟨ia, il, ic⟩, out, ⟨ao, al, cap⟩⟩) (BX.out W1 G10.out)
      rw [hW1] at n0 n1 n2 n3 n4
      clear B1 hg1 ho O1
      go_wp2_with fail
      rw [← hW1]
      clear hW1 n0 n1 n2 n3 n4
      refine (CN.out W1 G1.out).mono ?_
      rintro e w2 ⟨⟨iva, ivn, ivc⟩, ⟨ava, avn, avc⟩, ys, rfl, hcp⟩
      have HCP := hide hcp
      obtain rfl : ivn = ins.length := by
        obtain ⟨xa, xc, e⟩ := OwnsL.form hcp.ins
        simp only [Sl.v, Value.slice.injEq] at e
        exact e.2.1
      obtain ⟨W3, hW3⟩ : ∃ W3, W3 = w2.alloc (.cells #[.string op, .string s, .slice iva ins.length ivc, .string s, .slice ava avn avc] 25) := ⟨_, rfl⟩
      have B3 := heap_alloc_new w2 (.cells #[.string op, .string s, .slice iva ins.length ivc, .string s, .slice ava avn avc] 25)
      rw [← hW3] at B3
      have BM := hide B3
      have G3 : Hid (w2.grownBy W3 none) := by show w2.grownBy W3 none; rw [hW3]; exact grown_new _ _
      have LT3 : Hid (w2.heap.size < W3.heap.size) := (Array.getElem?_eq_some_iff.1 B3).1
      have G13 := hide (grown_trans hcp.grown G3.out)
      have IVL : Hid (∀ c, (Value.slice iva ins.length ivc).ownBlock = some c → W1.heap.size ≤ c ∧ c < w2.heap.size) := fun c e => World.ownsRow.lt hcp.ins c e
      have C3 := hide (CV.out W3 (grown_trans G1.out G13.out))
      clear B3 hcp CN CV
      simp only
      go_wp2_with fail
      rw [← hW3]
      clear hW3
      refine C3.out.mono ?_
      rintro e w4 ⟨⟨va, vn, vc⟩, qs, rfl, hov, hkey, hg4⟩
      have HOV := hide hov
      have HKY := hide (keys_same hkey)
      have HG4 := hide hg4
      have QL : Hid (qs.length = vs.length) := by have := congrArg List.length hkey; show qs.length = vs.length; simpa using this
      obtain rfl : vn = qs.length := by
        obtain ⟨xa, xc, e⟩ := OwnsL.form hov.own
        simp only [Value.slice.injEq, List.length_map] at e
        exact e.2.1
      have IV4 : Hid (OwnsL 9 1 scell w4 W1.heap.size (.slice iva ins.length ivc) (cldI s 0 ins)) := (HCP.out.ins.more (grown_trans G3.out hg4))
      have VVL : Hid (∀ c, (Value.slice va qs.length vc).ownBlock = some c → W3.heap.size ≤ c ∧ c < w4.heap.size) := fun c e => ⟨(World.ownsRow.lt hov.own c e).1, hov.row c e⟩
      clear hov hkey hg4 C3
      go_wp2_with fail
      go_loopw [11] (fun i wr => ∃ k : Nat, k ≤ ins.length ∧ i = .int .i64 k ∧ OwnsL 9 1 scell wr W1.heap.size (.slice iva ins.length ivc) (cldI s k ins) ∧ w4.grownBy wr (Value.slice iva ins.length ivc).ownBlock) (fun i _ => ins.length - (intOf i).toNat)
      case atStart => exact ⟨0, Nat.zero_le _, rfl, IV4.out, ⟨rfl, rfl, rfl, Nat.le_refl _, fun _ _ _ => rfl⟩⟩
      case round =>
        obtain ⟨k, hk, rfl, hown, hgr⟩ := hrel
        have HOW := hide hown
        have HGR := hide hgr
        have MB : wr.heap[w2.heap.size]? = some (.cells #[.string op, .string s, .slice iva ins.length ivc, .string s, .slice ava avn avc] 25 (0, 0)) := (hgr.block w2.heap.size (by have := LT3.out; have := HG4.out.size; omega) (fun e => by have := IVL.out _ e.symm; omega)).trans (box_kept BM.out HG4.out)
        obtain ⟨m0, m1, m2, m3, m4⟩ := nod_cells (n := ⟨op, s, ⟨iva, ins.length, ivc⟩, s, ⟨ava, avn, avc⟩⟩) MB
        clear hown hgr
        by_cases hlt : k < ins.length
        · obtain ⟨g, c2, hiv2, hgb, hgl⟩ := World.ownsRow.form HCP.out.ins (by omega)
          obtain ⟨rfl, rfl⟩ : iva = some ⟨g, 0, none⟩ ∧ ivc = c2 := by simpa [Sl.v] using hiv2
          have ho := HOW.out
          unfold OwnsL at ho
          rw [cldI_len (by omega)] at ho
          have hfz := World.ownsRow.frozenAt ho k
          have hcl : wr.cell? ⟨g, k, none⟩ = some (.string ins[k]) := by
            rw [World.ownsRow.cellAt ho k (by omega), flat_scell, List.getElem?_map, cldI_at hlt]
            rfl
          obtain ⟨o1, g1⟩ := ho.stored k (.string s)
          have ST : Hid (OwnsL 9 1 scell (wr.setCell ⟨g, k, none⟩ (.string s)) W1.heap.size (.slice (some ⟨g, 0, none⟩) ins.length ivc) (cldI s (k + 1) ins)) := by
            show OwnsL _ _ _ _ _ _ _
            unfold OwnsL
            rw [cldI_len (by omega), ← cldI_set hlt]
            rw [flat_scell] at o1 ⊢
            rwa [List.map_set]
          have SG := hide (grown_same HGR.out g1)
          obtain ⟨x, hx⟩ : ∃ x, x = ins[k] := ⟨_, rfl⟩
          rw [← hx] at hcl
          clear hx ho hiv2 o1 g1 MB
          go_wp2
          go_roundw
          case rel => exact ⟨k + 1, by omega, by go_num, ST.out, SG.out⟩
          case measure => simp [intOf]; omega
        · obtain rfl : k = ins.length := by omega
          clear MB
          obtain ⟨w5, rfl⟩ : ∃ w5, w5 = wr := ⟨_, rfl⟩
          have OV5 : Hid (OwnVals w5 W3.heap.size w4.heap.size (.slice va qs.length vc) (cldV s 0 qs)) := HOV.out.past valFeet HGR.out (fun g e => .inl (by have := IVL.out g e; have := LT3.out; omega))
          go_wp2_with fail
          go_loopw [12] (fun i wr => ∃ k : Nat, k ≤ qs.length ∧ i = .int .i64 k ∧ OwnVals wr W3.heap.size w4.heap.size (.slice va qs.length vc) (cldV s k qs) ∧ w5.grownBy wr (Value.slice va qs.length vc).ownBlock) (fun i _ => qs.length - (intOf i).toNat)
          case atStart => exact ⟨0, Nat.zero_le _, rfl, OV5.out, ⟨rfl, rfl, rfl, Nat.le_refl _, fun _ _ _ => rfl⟩⟩
          case round =>
            obtain ⟨k, hk, rfl, hown, hgr⟩ := hrel
            have HO2 := hide hown
            have HG2 := hide hgr
            clear hown hgr
            by_cases hlt : k < qs.length
            · obtain ⟨g, c2, hiv2, hgb, hgl⟩ := World.ownsRow.form HOV.out.own (by rw [List.length_map]; omega)
              obtain ⟨rfl, rfl⟩ : va = some ⟨g, 0, none⟩ ∧ vc = c2 := by simpa [Sl.v] using hiv2
              have hfz := owns_cell HO2.out.own (k * 3 + 0)
              have vb := HVL.out
              have ql := QL.out
              have cl := cldV_len (s := s) (k := k) (qs := qs) (by omega)
              obtain ⟨xx, y0⟩ : ∃ xx : ByteArray, wr.cell? ⟨g, k * 3, none⟩ = some (.string xx) := by
                have h := (HO2.out.own.isL (bytes := 48) vcells_len (by rw [List.length_map, cl]; omega)).val k (by rw [List.length_map, cl]; exact hlt)
                rw [Nat.zero_add] at h
                exact ⟨_, h.1⟩
              obtain ⟨o1, g1⟩ := HO2.out.upd valFeet vcells_len (k := k) (j := 0) (a := qs[k].1) (a' := ⟨s, qs[k].1.ty, qs[k].1.dv⟩) (c := qs[k].2) (u := .string s) (cldV_at hlt) (by decide) rfl (fun b h => h) (fun w h => h)
              rw [cldV_set hlt] at o1
              rw [Nat.add_zero] at hfz o1 g1
              have SO := hide o1
              have SG := hide (grown_same HG2.out g1)
              have qb : qs.length ≤ 1048576 := by omega
              clear hiv2 o1 g1 vb ql cl
              go_wp2
              go_roundw
              case rel => exact ⟨k + 1, by omega, by go_num, SO.out, SG.out⟩
              case measure => simp [intOf]; omega
            · obtain rfl : k = qs.length := by omega
              obtain ⟨w6, rfl⟩ : ∃ w6, w6 = wr := ⟨_, rfl⟩
              have G15 := grown_trans_row (grown_trans G13.out HG4.out) HGR.out (fun g e => (IVL.out g e).1)
              have G16 := hide (grown_trans_row G15 HG2.out (fun g e => by have := VVL.out g e; have := G13.out.size; omega))
              have KP : ∀ c, c < w2.heap.size → (Value.slice iva ins.length ivc).ownBlock ≠ some c → w6.heap[c]? = w2.heap[c]? := fun c hc hne => by
                have h4 : c < w4.heap.size := by have := LT3.out; have := HG4.out.size; omega
                have e1 := HG2.out.block c (Nat.lt_of_lt_of_le h4 HGR.out.size) (fun e => by have := VVL.out c e.symm; have := LT3.out; omega)
                have e2 := HGR.out.block c h4 (fun e => hne e.symm)
                have e3 := (grown_trans G3.out HG4.out).block c hc (by simp)
                exact e1.trans (e2.trans e3)
              have OW6 : OwnsL 9 1 scell w6 W1.heap.size (.slice iva ins.length ivc) (cldI s ins.length ins) := owns_block HOW.out (fun b e => HG2.out.block b (by have := IVL.out b e; have := LT3.out; have := HG4.out.size; have := HGR.out.size; omega) (fun e2 => by have := VVL.out b e2.symm; have := IVL.out b e; have := LT3.out; omega))
              have hyl := HCP.out.len
              have hxl := HF.out
              have ND := hide (HCP.out.again (s := s) (HN.out.more G1.out) KP OW6 (cldI_len (Nat.le_refl _)) (by rw [hyl]; omega) HS.out)
              have vb := HVL.out
              have ql := QL.out
              have cl := cldV_len (s := s) (k := qs.length) (qs := qs) (Nat.le_refl _)
              have VI : ValsIn w6 (Sl.v ⟨va, qs.length, vc⟩) (cldV s qs.length qs) := ⟨HO2.out.own.isL (bytes := 48) vcells_len (by rw [List.length_map, cl]; omega), fun p hp => HO2.out.has p hp⟩
              have RN := (HOK.out.renamed (m := ⟨op, s, ⟨iva, ins.length, ivc⟩, s, ⟨ava, avn, avc⟩⟩) (ins' := cldI s ins.length ins) (ys := ys) (us := cldV s qs.length qs) rfl HCP.out.eq (cldI_len (Nat.le_refl _)) (by rw [HS1.out, cldI_any HS1.out rfl]; rfl) (cldV_tys.1.trans HKY.out.1) (cldV_tys.2.trans HKY.out.2)).eq
              have O2 := hide (out_of _ _ _ ⟨va, qs.length, vc⟩ _ w6 (HLA.out.more (grown_trans G1.out G16.out)) ND.out VI)
              rw [RN] at O2
              unfold nval at O2
              simp only at O2
              have MB : w6.heap[w2.heap.size]? = some (.cells #[.string op, .string s, .slice iva ins.length ivc, .string s, .slice ava avn avc] 25 (0, 0)) := by
                have h4 : w2.heap.size < w4.heap.size := by have := LT3.out; have := HG4.out.size; omega
                have e1 := HG2.out.block w2.heap.size (Nat.lt_of_lt_of_le h4 HGR.out.size) (fun e => by have := VVL.out _ e.symm; have := LT3.out; omega)
                have e2 := HGR.out.block w2.heap.size h4 (fun e => by have := IVL.out _ e.symm; omega)
                exact e1.trans (e2.trans (box_kept BM.out HG4.out))
              obtain ⟨m0, m1, m2, m3, m4⟩ := nod_cells (n := ⟨op, s, ⟨iva, ins.length, ivc⟩, s, ⟨ava, avn, avc⟩⟩) MB
              clear KP OW6 hyl hxl vb ql cl VI RN MB G15
              go_wp2_with fail
              refine O2.out.mono ?_
              rintro e w7 ⟨hg7, ⟨ba, bn, bc⟩, rfl, hbo⟩
              simp only
              have B7 := heap_alloc_new w7 (.cells #[.string s, .int .i64 t, .slice ba bn bc] 31)
              have b0 := (cell_of_row _ _ 0 _ _ (0, 0) B7).trans rfl
              have b1 := (cell_of_row _ _ 1 _ _ (0, 0) B7).trans rfl
              have b2 := (cell_of_row _ _ 2 _ _ (0, 0) B7).trans rfl
              have G17 := hide (grown_trans (grown_trans G16.out hg7) (grown_new w7 (.cells #[.string s, .int .i64 t, .slice ba bn bc] 31)))
              have A7 := box_kept BA.out G17.out
              have a0 := (cell_of_row _ _ 0 _ _ (0, 0) A7).trans rfl
              have a1 := (cell_of_row _ _ 1 _ _ (0, 0) A7).trans rfl
              have a2 := (cell_of_row _ _ 2 _ _ (0, 0) A7).trans rfl
              have SA := hide (same_any _ _ d d (w7.alloc (.cells #[.string s, .int .i64 t, .slice ba bn bc] 31)) (HAI.out.more (grown_trans G11.out G17.out)) (hbo.ints.more (grown_new _ _)))
              rw [decide_eq_true rfl] at SA
              simp only [Sl.v] at SA
              have bs : (s.toList == s.toList) = true := by simp
              have bt : (t == t) = true := by simp
              clear B7 A7 hg7 hbo m0 m1 m2 m3 m4
              go_wp2_with (first | (go_at_call 20; refine SA.out.mono ?_; rintro e w8 ⟨rfl, hg8⟩) | fail)
              refine (LV.out w8 (grown_trans (grown_trans G1.out G17.out) hg8)).mono ?_
              rintro e w9 ⟨rfl, hg9⟩
              go_wp2
              go_ret
              exact ⟨rfl, grown_below (grown_trans (grown_trans (grown_trans G1.out G17.out) hg8) hg9)⟩
end Go.Proofs.YtdcbjikjeicgbaaGreatDoor
