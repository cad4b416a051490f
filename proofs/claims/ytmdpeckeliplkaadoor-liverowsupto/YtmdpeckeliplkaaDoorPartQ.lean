/- Joined texts: GKey, GSameV, GSameG. -/
import Derived.Test.YtmdpeckeliplkaaDoorGOrdLJ
import Derived.Test.YtmdpeckeliplkaaDoorPartS
import Derived.Test.YtmdpeckeliplkaaDoorPartI
import Derived.Test.YtmdpeckeliplkaaDoorPartJ
/- What Order, Check and Readers answer hangs on no place where lists lie. -/
namespace Go.Proofs.YtmdpeckeliplkaaDoor
open Go.RowKit


theorem map_key {α κ γ : Type} {k : α → κ} {F : α → γ} (hF : ∀ a b, k a = k b → F a = F b) : ∀ {xs ys : List α}, xs.map k = ys.map k → xs.map F = ys.map F
  | [], [], _ => rfl
  | [], y :: ys, h => by simp at h
  | x :: xs, [], h => by simp at h
  | x :: xs, y :: ys, h => by
    rw [List.map_cons, List.map_cons, List.cons.injEq] at h
    rw [List.map_cons, List.map_cons, hF x y h.1, map_key hF h.2]

/-- Two graphs that hold the same, wherever their lists lie. -/
structure SameG (cs : List Nc) (vin vout : List (Val × List Int)) (its : List (Nam × List Int × List Int)) (cs' : List Nc) (vin' vout' : List (Val × List Int)) (its' : List (Nam × List Int × List Int)) : Prop where
  nodes : cs'.map nkey = cs.map nkey
  ins : vin'.map vkey = vin.map vkey
  outs : vout'.map vkey = vout.map vkey
  inits : its'.map mkey = its.map mkey

theorem key_len {α κ : Type} {k : α → κ} {xs ys : List α} (h : xs.map k = ys.map k) : xs.length = ys.length := by
  have := congrArg List.length h
  simpa using this

theorem key_ins {cs cs' : List Nc} (h : cs'.map nkey = cs.map nkey) : cs'.map (·.ins) = cs.map (·.ins) := map_key (k := nkey) (fun _ _ e => congrArg (fun t => t.2.2.1) e) h

theorem key_out {cs cs' : List Nc} (h : cs'.map nkey = cs.map nkey) : (cs'.map (·.n)).map (·.out) = (cs.map (·.n)).map (·.out) := by
  rw [List.map_map, List.map_map]
  exact map_key (k := nkey) (fun _ _ e => congrArg (fun t => t.2.2.2.1) e) h

theorem key_nodE {cs cs' : List Nc} (h : cs'.map nkey = cs.map nkey) : cs'.map nodE = cs.map nodE := by
  refine map_key (k := nkey) (fun a b e => ?_) h
  have e1 := congrArg (fun t => t.1) e
  have e2 := congrArg (fun t => t.2.2.1) e
  have e3 := congrArg (fun t => t.2.2.2.1) e
  have e4 := congrArg (fun t => t.2.2.2.2.1) e
  have e5 := congrArg (fun t => t.2.2.2.2.2) e
  simp only [nkey] at e1 e2 e3 e4 e5
  unfold nodE
  rw [e1, e2, e3, e5]
  exact checkF_strip e4

theorem key_name {vs vs' : List (Val × List Int)} (h : vs'.map vkey = vs.map vkey) : (vs'.map (·.1)).map (·.name) = (vs.map (·.1)).map (·.name) := by
  rw [List.map_map, List.map_map]
  exact map_key (k := vkey) (fun _ _ e => congrArg (fun t => t.1) e) h

theorem key_valE {vs vs' : List (Val × List Int)} (h : vs'.map vkey = vs.map vkey) : vs'.map valE = vs.map valE := by
  refine map_key (k := vkey) (fun a b e => ?_) h
  have e1 := congrArg (fun t => t.2.1) e
  have e2 := congrArg (fun t => t.2.2) e
  simp only [vkey] at e1 e2
  unfold valE
  rw [e1, e2]

theorem key_namE {vs vs' : List (Nam × List Int × List Int)} (h : vs'.map mkey = vs.map mkey) : vs'.map namE = vs.map namE := by
  refine map_key (k := mkey) (fun a b e => ?_) h
  have e1 := congrArg (fun t => t.2.1) e
  have e2 := congrArg (fun t => t.2.2) e
  simp only [mkey] at e1 e2
  unfold namE
  rw [e1, e2]

theorem key_mname {vs vs' : List (Nam × List Int × List Int)} (h : vs'.map mkey = vs.map mkey) : (vs'.map (·.1)).map (·.name) = (vs.map (·.1)).map (·.name) := by
  rw [List.map_map, List.map_map]
  exact map_key (k := mkey) (fun _ _ e => congrArg (fun t => t.1) e) h

theorem at_ins {cs cs' : List Nc} (h : cs'.map (·.ins) = cs.map (·.ins)) (k : Nat) : (cs'[k]?.map (·.ins)).getD [] = (cs[k]?.map (·.ins)).getD [] := by
  rw [← List.getElem?_map, ← List.getElem?_map, h]

theorem linksN_same {cs cs' : List Nc} (h : cs'.map (·.ins) = cs.map (·.ins)) (l : List ByteArray) (k0 : Nat) : ∀ k, linksN cs' l k0 k = linksN cs l k0 k
  | 0 => by rw [linksN, linksN, key_len h]
  | k + 1 => by rw [linksN, linksN, linksN_same h l k0 k, at_ins h]

theorem readsN_same {cs cs' : List Nc} (h : cs'.map (·.ins) = cs.map (·.ins)) (x : ByteArray) : ∀ k, readsN cs' x k = readsN cs x k
  | 0 => rfl
  | k + 1 => by rw [readsN, readsN, readsN_same h x k, at_ins h]

theorem found_same {cs cs' : List Nc} (h : cs'.map (·.ins) = cs.map (·.ins)) (outs l : List ByteArray) : foundF cs' outs l = foundF cs outs l := by
  have e : ∀ c : List Nc, c.all (fun c => allF l c.ins) = (c.map (·.ins)).all (fun i => allF l i) := fun c => by rw [List.all_map]; rfl
  unfold foundF
  rw [e, e, h]

theorem SameG.vnames {cs : List Nc} {vin vout : List (Val × List Int)} {its : List (Nam × List Int × List Int)} {cs' : List Nc} {vin' vout' : List (Val × List Int)} {its' : List (Nam × List Int × List Int)} (h : SameG cs vin vout its cs' vin' vout' its') : vnames cs' vin' its' = vnames cs vin its := by
  unfold Go.Proofs.YtmdpeckeliplkaaDoor.vnames
  rw [key_name h.ins, key_mname h.inits, key_out h.nodes]

theorem SameG.onames {cs : List Nc} {vin vout : List (Val × List Int)} {its : List (Nam × List Int × List Int)} {cs' : List Nc} {vin' vout' : List (Val × List Int)} {its' : List (Nam × List Int × List Int)} (h : SameG cs vin vout its cs' vin' vout' its') : onames vout' = onames vout := key_name h.outs

theorem SameG.order {cs : List Nc} {vin vout : List (Val × List Int)} {its : List (Nam × List Int × List Int)} {cs' : List Nc} {vin' vout' : List (Val × List Int)} {its' : List (Nam × List Int × List Int)} (h : SameG cs vin vout its cs' vin' vout' its') : orderR cs' vin' vout' its' = orderR cs vin vout its := by
  have l1 := key_len h.nodes
  have l2 := key_len h.ins
  have l3 := key_len h.outs
  have l4 := key_len h.inits
  have p : partsF cs' vin' its' = partsF cs vin its := by
    unfold partsF
    rw [key_valE h.ins, key_namE h.inits, key_nodE h.nodes]
  have q : lineF cs' vin' its' = lineF cs vin its := by
    unfold lineF
    rw [h.vnames, l1, l2, l4, linksN_same (key_ins h.nodes)]
  unfold orderR
  rw [l1, l2, l3, l4, p, q, h.vnames, h.onames, found_same (key_ins h.nodes)]

theorem SameG.reads {cs : List Nc} {vin vout : List (Val × List Int)} {its : List (Nam × List Int × List Int)} {cs' : List Nc} {vin' vout' : List (Val × List Int)} {its' : List (Nam × List Int × List Int)} (h : SameG cs vin vout its cs' vin' vout' its') (x : ByteArray) : readsN cs' x cs'.length = readsN cs x cs.length := by
  rw [key_len h.nodes, readsN_same (key_ins h.nodes)]
end Go.Proofs.YtmdpeckeliplkaaDoor

/- The same values, by the walk. -/
namespace Go.Proofs.YtmdpeckeliplkaaDoor
open Go.RowKit

theorem key_at {α κ : Type} {f : α → κ} {xs ys : List α} (h : xs.map f = ys.map f) {k : Nat} (h1 : k < xs.length) (h2 : k < ys.length) : f xs[k] = f ys[k] := by
  have e := congrArg (fun l : List κ => l[k]?) h
  simp only [List.getElem?_map, List.getElem?_eq_getElem h1, List.getElem?_eq_getElem h2, Option.map_some, Option.some.injEq] at e
  exact e

set_option maxRecDepth 100000 in
set_option maxHeartbeats 3200000 in
theorem samevals_eq (u v : Value) (ps qs : List (Val × List Int)) (w : World) (hu : IsVals w u (ps.map (·.1))) (hv : IsVals w v (qs.map (·.1))) (hd : ∀ p ∈ ps, IsInts w p.1.dv.v p.2) (he : ∀ p ∈ qs, IsInts w p.1.dv.v p.2) (hk : ps.map vkey = qs.map vkey) :
    Calls Tryd.prog 26 #[u, v] w fun e w' => e = .returned (.bool true) ∧ w.grownBy w' none := by
  have H1 := hide hu
  have H2 := hide hv
  have HD := hide hd
  have HE := hide he
  have HK := hide hk
  have hln := key_len hk
  have HN := hide hln
  obtain ⟨xa, xc, e1, p1, p2, p3⟩ := hu.form
  obtain ⟨ya, yc, e2, q1, q2, q3⟩ := hv.form
  rw [List.length_map] at e1 p1 p3 e2 q1 q3
  rw [hln] at e1 p1 p3
  subst e1 e2
  clear hu hv hd he hk hln
  go_enter Tryd.func26, Tryd.ntmps26
  go_wp2_with fail
  go_loopw [5] (fun i wr => w.grownBy wr none ∧ ∃ k : Nat, k ≤ qs.length ∧ i = .int .i64 k) (fun i _ => qs.length - (intOf i).toNat)
  case atStart => exact ⟨grown_refl _, 0, Nat.zero_le _, rfl⟩
  case round =>
    obtain ⟨hg, k, hk, rfl⟩ := hrel
    by_cases hlt : k < qs.length
    · have hlp : k < ps.length := by have := HN.out; omega
      have I1 := H1.out.more hg
      have I2 := H2.out.more hg
      have hl1 : k < (ps.map (·.1)).length := by rw [List.length_map]; exact hlp
      have hl2 : k < (qs.map (·.1)).length := by rw [List.length_map]; exact hlt
      obtain ⟨ub, uo, rfl⟩ := I1.addr hl1
      obtain ⟨vb, vo, rfl⟩ := I2.addr hl2
      obtain ⟨a0, a1, a2⟩ := I1.val k hl1
      obtain ⟨b0, b1, b2⟩ := I2.val k hl2
      have hkk := key_at HK.out hlp hlt
      have hda := HD.out ps[k] (List.getElem_mem hlp)
      have heb := HE.out qs[k] (List.getElem_mem hlt)
      rw [List.getElem_map] at a0 a1 a2 b0 b1 b2
      obtain ⟨A, ds, hA⟩ : ∃ A ds, ps[k] = (A, ds) := ⟨_, _, rfl⟩
      obtain ⟨B, es, hB⟩ : ∃ B es, qs[k] = (B, es) := ⟨_, _, rfl⟩
      rw [hA] at a0 a1 a2 hkk hda
      rw [hB] at b0 b1 b2 hkk heb
      simp only [vkey, Prod.mk.injEq] at hkk
      obtain ⟨k1, k2, rfl⟩ := hkk
      simp only at a0 a1 a2 b0 b1 b2 hda heb
      rw [← k1] at b0
      rw [← k2] at b1
      have SM := hide (sameints_eq A.dv.v B.dv.v ds wr.drew (hda.more (grown_drew hg)) (heb.more (grown_drew hg)))
      have CX := hide (fun (wx : World) (hx : wr.grownBy wx none) => And.intro (And.intro (cell_still a0 hx) (And.intro (cell_still a1 hx) (cell_still a2 hx))) (And.intro (cell_still b0 hx) (And.intro (cell_still b1 hx) (cell_still b2 hx))))
      have gd := grown_drew (grown_refl wr)
      clear I1 I2 hA hB k1 k2 hda heb
      go_wp2_with fail
      go_region_held3 (fun w' => w'.cell? ⟨ub, uo + k * 3, none⟩ = some (.string A.name) ∧ w'.cell? ⟨ub, uo + k * 3 + 1, none⟩ = some (.int .i64 A.ty) ∧ w'.cell? ⟨ub, uo + k * 3 + 2, none⟩ = some (.slice A.dv.a A.dv.n A.dv.c) ∧ w'.cell? ⟨vb, vo + k * 3, none⟩ = some (.string A.name) ∧ w'.cell? ⟨vb, vo + k * 3 + 1, none⟩ = some (.int .i64 A.ty) ∧ w'.cell? ⟨vb, vo + k * 3 + 2, none⟩ = some (.slice B.dv.a B.dv.n B.dv.c)) (go_keep) (first | (go_at_call 42; refine SM.out.mono ?_; rintro e w3 ⟨rfl, hg3⟩; have g3 : wr.grownBy w3 none := grown_trans gd hg3; obtain ⟨⟨a0, a1, a2⟩, b0, b1, b2⟩ := CX.out w3 g3) | fail)
      all_goals
        go_wp2
        go_roundw
        case rel => exact ⟨grown_trans hg g3, k + 1, by omega, by go_num⟩
        case measure => simp [intOf]; omega
    · go_wp2
      go_ret
      exact ⟨rfl, hg⟩
end Go.Proofs.YtmdpeckeliplkaaDoor

/- The same graphs, by the walk. -/
namespace Go.Proofs.YtmdpeckeliplkaaDoor
open Go.RowKit

set_option maxRecDepth 100000 in
set_option maxHeartbeats 6400000 in
theorem samegraph_eq (h g : Gra) (cs cs' : List Nc) (vin vout vin' vout' : List (Val × List Int)) (its its' : List (Nam × List Int × List Int)) (w : World) (hg : GraphIn w g cs vin vout its) (hh : GraphIn w h cs' vin' vout' its') (hnm : h.name = g.name) (hs : SameG cs vin vout its cs' vin' vout' its') :
    Calls Tryd.prog 13 #[gval h, gval g] w fun e w' => e = .returned (.bool true) ∧ w.grownBy w' none := by
  have HG := hide hg
  have HH := hide hh
  have HS := hide hs
  have l1 := key_len hs.nodes
  have l4 := key_len hs.inits
  obtain ⟨nam, ⟨na0, nn0, nc0⟩, ⟨ia, iN, ic⟩, ⟨oa, oN, oc⟩, ⟨ta, tN, tc⟩⟩ := g
  obtain ⟨nam', ⟨ma0, mn0, mc0⟩, ⟨ja, jN, jc⟩, ⟨qa, qN, qc⟩, ⟨ua, uN, uc⟩⟩ := h
  simp only at hnm
  subst hnm
  obtain ⟨xa, xc, e1, p1, p2, p3⟩ := hg.nodes.form
  rw [List.length_map] at e1 p1 p3
  obtain ⟨rfl, rfl, rfl⟩ : na0 = xa ∧ nn0 = cs.length ∧ nc0 = xc := by simpa [Sl.v] using e1
  obtain ⟨ya, yc, e2, p4, p5, p6⟩ := hh.nodes.form
  rw [List.length_map, l1] at e2 p4 p6
  obtain ⟨rfl, rfl, rfl⟩ : ma0 = ya ∧ mn0 = cs.length ∧ mc0 = yc := by simpa [Sl.v] using e2
  obtain ⟨za, zc, e3, p7, p8, p9⟩ := hg.inits.form
  rw [List.length_map] at e3 p7 p9
  obtain ⟨rfl, rfl, rfl⟩ : ta = za ∧ tN = its.length ∧ tc = zc := by simpa [Sl.v] using e3
  obtain ⟨va, vc, e4, p10, p11, p12⟩ := hh.inits.form
  rw [List.length_map, l4] at e4 p10 p12
  obtain ⟨rfl, rfl, rfl⟩ : ua = va ∧ uN = its.length ∧ uc = vc := by simpa [Sl.v] using e4
  have L1 := hide l1
  have L4 := hide l4
  clear hg hh hs e1 e2 e3 e4 l1 l4
  unfold gval
  simp only
  obtain ⟨w0, hw0⟩ : ∃ w0, w0 = (w.alloc (.cells #[.string nam', .slice ma0 cs.length mc0, .slice ja jN jc, .slice qa qN qc, .slice ua its.length uc] 26)).alloc (.cells #[.string nam', .slice na0 cs.length nc0, .slice ia iN ic, .slice oa oN oc, .slice ta its.length tc] 26) := ⟨_, rfl⟩
  have g0 : w.grownBy w0 none := by rw [hw0]; exact grown_trans (grown_new _ _) (grown_new _ _)
  have hbx := two_boxes w (.cells #[.string nam', .slice ma0 cs.length mc0, .slice ja jN jc, .slice qa qN qc, .slice ua its.length uc] 26) (.cells #[.string nam', .slice na0 cs.length nc0, .slice ia iN ic, .slice oa oN oc, .slice ta its.length tc] 26)
  have hbx0 := hbx
  rw [← hw0] at hbx
  have B1 : Hid (∀ wx, w0.grownBy wx none → wx.heap[w.heap.size]? = some (.cells #[.string nam', .slice ma0 cs.length mc0, .slice ja jN jc, .slice qa qN qc, .slice ua its.length uc] 26 (0, 0))) := fun wx hg => box_kept hbx.1 hg
  have B2 : Hid (∀ wx, w0.grownBy wx none → wx.heap[w.heap.size + 1]? = some (.cells #[.string nam', .slice na0 cs.length nc0, .slice ia iN ic, .slice oa oN oc, .slice ta its.length tc] 26 (0, 0))) := fun wx hg => box_kept hbx.2 hg
  obtain ⟨n0, n1, n2, n3, n4⟩ := gra_cells (g := ⟨nam', ⟨ma0, cs.length, mc0⟩, ⟨ja, jN, jc⟩, ⟨qa, qN, qc⟩, ⟨ua, its.length, uc⟩⟩) hbx0.1
  obtain ⟨m0, m1, m2, m3, m4⟩ := gra_cells (g := ⟨nam', ⟨na0, cs.length, nc0⟩, ⟨ia, iN, ic⟩, ⟨oa, oN, oc⟩, ⟨ta, its.length, tc⟩⟩) hbx0.2
  have SI := hide (samevals_eq (.slice ja jN jc) (.slice ia iN ic) vin' vin w0 (HH.out.ins.more g0) (HG.out.ins.more g0) (fun p hp => (HH.out.din p hp).more g0) (fun p hp => (HG.out.din p hp).more g0) HS.out.ins)
  have SO := hide (fun (wx : World) (hx : w0.grownBy wx none) => samevals_eq (.slice qa qN qc) (.slice oa oN oc) vout' vout wx (HH.out.outs.more (grown_trans g0 hx)) (HG.out.outs.more (grown_trans g0 hx)) (fun p hp => (HH.out.dout p hp).more (grown_trans g0 hx)) (fun p hp => (HG.out.dout p hp).more (grown_trans g0 hx)) HS.out.outs)
  clear hbx hbx0
  go_enter Tryd.func13, Tryd.ntmps13
  go_wp2_with fail
  rw [← hw0]
  clear hw0 n0 n1 n2 n3 n4 m0 m1 m2 m3 m4
  refine SI.out.mono ?_
  rintro e w1 ⟨rfl, hg1⟩
  obtain ⟨n0, n1, n2, n3, n4⟩ := gra_cells (g := ⟨nam', ⟨ma0, cs.length, mc0⟩, ⟨ja, jN, jc⟩, ⟨qa, qN, qc⟩, ⟨ua, its.length, uc⟩⟩) (B1.out w1 hg1)
  obtain ⟨m0, m1, m2, m3, m4⟩ := gra_cells (g := ⟨nam', ⟨na0, cs.length, nc0⟩, ⟨ia, iN, ic⟩, ⟨oa, oN, oc⟩, ⟨ta, its.length, tc⟩⟩) (B2.out w1 hg1)
  go_wp2_with fail
  clear n0 n1 n2 n3 n4 m0 m1 m2 m3 m4
  refine (SO.out w1 hg1).mono ?_
  rintro e w2 ⟨rfl, hg2⟩
  have g2 := grown_trans hg1 hg2
  obtain ⟨n0, n1, n2, n3, n4⟩ := gra_cells (g := ⟨nam', ⟨ma0, cs.length, mc0⟩, ⟨ja, jN, jc⟩, ⟨qa, qN, qc⟩, ⟨ua, its.length, uc⟩⟩) (B1.out w2 g2)
  obtain ⟨m0, m1, m2, m3, m4⟩ := gra_cells (g := ⟨nam', ⟨na0, cs.length, nc0⟩, ⟨ia, iN, ic⟩, ⟨oa, oN, oc⟩, ⟨ta, its.length, tc⟩⟩) (B2.out w2 g2)
  go_wp2_with fail
  clear n0 n1 n2 n3 n4 m0 m1 m2 m3 m4
  go_loopw [5] (fun i wr => w0.grownBy wr none ∧ ∃ k : Nat, k ≤ cs.length ∧ i = .int .i64 k) (fun i _ => cs.length - (intOf i).toNat)
  case atStart => exact ⟨g2, 0, Nat.zero_le _, rfl⟩
  case round =>
    obtain ⟨hg, k, hk, rfl⟩ := hrel
    obtain ⟨n0, n1, n2, n3, n4⟩ := gra_cells (g := ⟨nam', ⟨ma0, cs.length, mc0⟩, ⟨ja, jN, jc⟩, ⟨qa, qN, qc⟩, ⟨ua, its.length, uc⟩⟩) (B1.out wr hg)
    obtain ⟨m0, m1, m2, m3, m4⟩ := gra_cells (g := ⟨nam', ⟨na0, cs.length, nc0⟩, ⟨ia, iN, ic⟩, ⟨oa, oN, oc⟩, ⟨ta, its.length, tc⟩⟩) (B2.out wr hg)
    simp only at n1 n4 m1 m4
    clear n0 n2 n3 m0 m2 m3
    by_cases hlt : k < cs.length
    · have hlp : k < cs'.length := by have := L1.out; omega
      have hl1 : k < (cs'.map (·.n)).length := by rw [List.length_map]; exact hlp
      have hl2 : k < (cs.map (·.n)).length := by rw [List.length_map]; exact hlt
      have gg := grown_trans g0 hg
      have I1 := HH.out.nodes.more gg
      have I2 := HG.out.nodes.more gg
      obtain ⟨ub, uo, rfl⟩ := I1.addr hl1
      obtain ⟨vb, vo, rfl⟩ := I2.addr hl2
      obtain ⟨a0, a1, a2, a3, a4⟩ := I1.nod k hl1
      obtain ⟨b0, b1, b2, b3, b4⟩ := I2.nod k hl2
      rw [List.getElem_map] at a0 a1 a2 a3 a4 b0 b1 b2 b3 b4
      have hkk := key_at HS.out.nodes hlp hlt
      have hna := (HH.out.node cs'[k] (List.getElem_mem hlp)).more (grown_trans g0 (grown_drew hg))
      have hnb := (HG.out.node cs[k] (List.getElem_mem hlt)).more (grown_trans g0 (grown_drew hg))
      obtain ⟨⟨op, nm, iv, ot, av⟩, ins, xs, ks, hA⟩ : ∃ n ins xs ks, cs'[k] = ⟨n, ins, xs, ks⟩ := ⟨_, _, _, _, rfl⟩
      obtain ⟨⟨op', nm', iv', ot', av'⟩, ins', xs', ks', hB⟩ : ∃ n ins xs ks, cs[k] = ⟨n, ins, xs, ks⟩ := ⟨_, _, _, _, rfl⟩
      rw [hA] at a0 a1 a2 a3 a4 hkk hna
      rw [hB] at b0 b1 b2 b3 b4 hkk hnb
      simp only [nkey, Prod.mk.injEq] at hkk
      obtain ⟨rfl, rfl, rfl, rfl, hst, rfl⟩ := hkk
      simp only at a0 a1 a2 a3 a4 b0 b1 b2 b3 b4 hna hnb
      have SN := hide (samenode_eq op nm ot iv av iv' av' ins xs' xs ks wr.drew hna hnb hst)
      unfold nval at SN
      have CX := hide (fun (wx : World) (hx : wr.grownBy wx none) => And.intro (And.intro (cell_still n1 hx) (cell_still m1 hx)) (And.intro (And.intro (cell_still a0 hx) (And.intro (cell_still a1 hx) (And.intro (cell_still a2 hx) (And.intro (cell_still a3 hx) (cell_still a4 hx))))) (And.intro (cell_still b0 hx) (And.intro (cell_still b1 hx) (And.intro (cell_still b2 hx) (And.intro (cell_still b3 hx) (cell_still b4 hx)))))))
      have gd := grown_drew (grown_refl wr)
      clear I1 I2 hA hB hst hna hnb
      go_wp2_with fail
      go_region_held3 (fun w' => w'.cell? ⟨w.heap.size, 1, none⟩ = some (.slice (some ⟨ub, uo, none⟩) cs.length mc0) ∧ w'.cell? ⟨w.heap.size + 1, 1, none⟩ = some (.slice (some ⟨vb, vo, none⟩) cs.length nc0) ∧ w'.cell? ⟨ub, uo + k * 5, none⟩ = some (.string op) ∧ w'.cell? ⟨ub, uo + k * 5 + 1, none⟩ = some (.string nm) ∧ w'.cell? ⟨ub, uo + k * 5 + 2, none⟩ = some (.slice iv.a iv.n iv.c) ∧ w'.cell? ⟨ub, uo + k * 5 + 3, none⟩ = some (.string ot) ∧ w'.cell? ⟨ub, uo + k * 5 + 4, none⟩ = some (.slice av.a av.n av.c) ∧ w'.cell? ⟨vb, vo + k * 5, none⟩ = some (.string op) ∧ w'.cell? ⟨vb, vo + k * 5 + 1, none⟩ = some (.string nm) ∧ w'.cell? ⟨vb, vo + k * 5 + 2, none⟩ = some (.slice iv'.a iv'.n iv'.c) ∧ w'.cell? ⟨vb, vo + k * 5 + 3, none⟩ = some (.string ot) ∧ w'.cell? ⟨vb, vo + k * 5 + 4, none⟩ = some (.slice av'.a av'.n av'.c)) (go_keep) (first | (go_at_call 27; refine SN.out.mono ?_; rintro e w3 ⟨rfl, hg3⟩; have g3 : wr.grownBy w3 none := grown_trans gd hg3; obtain ⟨⟨n1, m1⟩, ⟨a0, a1, a2, a3, a4⟩, b0, b1, b2, b3, b4⟩ := CX.out w3 g3) | fail)
      all_goals
        go_wp2
        go_roundw
        case rel => exact ⟨grown_trans hg g3, k + 1, by omega, by go_num⟩
        case measure => simp [intOf]; omega
    · obtain ⟨wo, rfl⟩ : ∃ wo, wo = wr := ⟨_, rfl⟩
      go_wp2_with fail
      clear n1 n4 m1 m4
      go_loopw [7] (fun i wr => w0.grownBy wr none ∧ ∃ k : Nat, k ≤ its.length ∧ i = .int .i64 k) (fun i _ => its.length - (intOf i).toNat)
      case atStart => exact ⟨hg, 0, Nat.zero_le _, rfl⟩
      case round =>
        obtain ⟨hg, k, hk, rfl⟩ := hrel
        obtain ⟨n0, n1, n2, n3, n4⟩ := gra_cells (g := ⟨nam', ⟨ma0, cs.length, mc0⟩, ⟨ja, jN, jc⟩, ⟨qa, qN, qc⟩, ⟨ua, its.length, uc⟩⟩) (B1.out wr hg)
        obtain ⟨m0, m1, m2, m3, m4⟩ := gra_cells (g := ⟨nam', ⟨na0, cs.length, nc0⟩, ⟨ia, iN, ic⟩, ⟨oa, oN, oc⟩, ⟨ta, its.length, tc⟩⟩) (B2.out wr hg)
        simp only at n1 n4 m1 m4
        clear n0 n1 n2 n3 m0 m1 m2 m3
        by_cases hlt : k < its.length
        · have hlp : k < its'.length := by have := L4.out; omega
          have hl1 : k < (its'.map (·.1)).length := by rw [List.length_map]; exact hlp
          have hl2 : k < (its.map (·.1)).length := by rw [List.length_map]; exact hlt
          have gg := grown_trans g0 hg
          have I1 := HH.out.inits.more gg
          have I2 := HG.out.inits.more gg
          obtain ⟨ub, uo, rfl⟩ := I1.addr hl1
          obtain ⟨vb, vo, rfl⟩ := I2.addr hl2
          obtain ⟨a0, a1, a2, a3⟩ := I1.nam k hl1
          obtain ⟨b0, b1, b2, b3⟩ := I2.nam k hl2
          rw [List.getElem_map] at a0 a1 a2 a3 b0 b1 b2 b3
          have hkk := key_at HS.out.inits hlp hlt
          have hda := HH.out.dinit its'[k] (List.getElem_mem hlp)
          have hdb := HG.out.dinit its[k] (List.getElem_mem hlt)
          obtain ⟨⟨nm, ty, dv, tv⟩, ds, es, hA⟩ : ∃ A ds es, its'[k] = (A, ds, es) := ⟨_, _, _, rfl⟩
          obtain ⟨⟨nm', ty', dv', tv'⟩, ds', es', hB⟩ : ∃ A ds es, its[k] = (A, ds, es) := ⟨_, _, _, rfl⟩
          rw [hA] at a0 a1 a2 a3 hkk hda
          rw [hB] at b0 b1 b2 b3 hkk hdb
          simp only [mkey, Prod.mk.injEq] at hkk
          obtain ⟨rfl, rfl, rfl, rfl⟩ := hkk
          simp only at a0 a1 a2 a3 b0 b1 b2 b3 hda hdb
          have gdd := grown_trans g0 (grown_drew hg)
          have SN := hide (sameten_eq ty dv.v tv.v dv'.v tv'.v ds es wr.drew (hda.1.more gdd) (hda.2.more gdd) (hdb.1.more gdd) (hdb.2.more gdd))
          have CX := hide (fun (wx : World) (hx : wr.grownBy wx none) => And.intro (And.intro (cell_still n4 hx) (cell_still m4 hx)) (And.intro (And.intro (cell_still a0 hx) (And.intro (cell_still a1 hx) (And.intro (cell_still a2 hx) (cell_still a3 hx)))) (And.intro (cell_still b0 hx) (And.intro (cell_still b1 hx) (And.intro (cell_still b2 hx) (cell_still b3 hx))))))
          have gd := grown_drew (grown_refl wr)
          clear I1 I2 hA hB hda hdb
          go_wp2_with fail
          go_region_held3 (fun w' => w'.cell? ⟨w.heap.size, 4, none⟩ = some (.slice (some ⟨ub, uo, none⟩) its.length uc) ∧ w'.cell? ⟨w.heap.size + 1, 4, none⟩ = some (.slice (some ⟨vb, vo, none⟩) its.length tc) ∧ w'.cell? ⟨ub, uo + k * 4, none⟩ = some (.string nm) ∧ w'.cell? ⟨ub, uo + k * 4 + 1, none⟩ = some (.int .i64 ty) ∧ w'.cell? ⟨ub, uo + k * 4 + 1 + 1, none⟩ = some (.slice dv.a dv.n dv.c) ∧ w'.cell? ⟨ub, uo + k * 4 + 1 + 2, none⟩ = some (.slice tv.a tv.n tv.c) ∧ w'.cell? ⟨vb, vo + k * 4, none⟩ = some (.string nm) ∧ w'.cell? ⟨vb, vo + k * 4 + 1, none⟩ = some (.int .i64 ty) ∧ w'.cell? ⟨vb, vo + k * 4 + 1 + 1, none⟩ = some (.slice dv'.a dv'.n dv'.c) ∧ w'.cell? ⟨vb, vo + k * 4 + 1 + 2, none⟩ = some (.slice tv'.a tv'.n tv'.c)) (go_keep) (first | (go_at_call 28; refine SN.out.mono ?_; rintro e w3 ⟨rfl, hg3⟩; have g3 : wr.grownBy w3 none := grown_trans gd hg3; obtain ⟨⟨n4, m4⟩, ⟨a0, a1, a2, a3⟩, b0, b1, b2, b3⟩ := CX.out w3 g3) | fail)
          all_goals
            go_wp2
            go_roundw
            case rel => exact ⟨grown_trans hg g3, k + 1, by omega, by go_num⟩
            case measure => simp [intOf]; omega
        · go_wp2
          go_ret
          exact ⟨rfl, grown_trans g0 hg⟩
end Go.Proofs.YtmdpeckeliplkaaDoor
