/- Joined texts: IValue, IOut, IValueOf, IVal. -/
import Derived.Test.YtdcbjikjeicgbaaGreatDoorPartH
import Derived.Test.YtdcbjikjeicgbaaGreatDoorITyJ
import Derived.Defers
import Derived.Recover
import Derived.Test.YtdcbjikjeicgbaaGreatDoorPartG
/- What a node makes of values: newValue and valueOf, by the walk. -/
namespace Go.Proofs.YtdcbjikjeicgbaaGreatDoor
open Go.RowKit

/-- Values whose types and dims may be. -/
def vinP : List (Val × List Int) → R Unit
  | [] => .ok ()
  | p :: l => (typP p.1.ty).bind (fun _ => (countP p.2).bind (fun _ => vinP l))

/-- What follows in a node must have the type. -/
def thenP (t : Int) : List ByteArray → R Unit
  | [] => .ok ()
  | o :: l => (mustP (oneOK o.toList t)).bind (fun _ => thenP t l)

theorem vinP_step {vs : List (Val × List Int)} {k : Nat} (hk : k < vs.length) : vinP (vs.drop k) = (typP vs[k].1.ty).bind (fun _ => (countP vs[k].2).bind (fun _ => vinP (vs.drop (k + 1)))) := by
  rw [List.drop_eq_getElem_cons hk]
  rfl

theorem thenP_step {t : Int} {os : List ByteArray} {k : Nat} (hk : k < os.length) : thenP t (os.drop k) = (mustP (oneOK os[k].toList t)).bind (fun _ => thenP t (os.drop (k + 1))) := by
  rw [List.drop_eq_getElem_cons hk]
  rfl

theorem valInfo : (Tryz.prog.info? 31).map (·.size) = some 3 := by kernel_rfl

theorem ret_val {fn : Func} {p : Tmp} (h : fn.results = #[.cell p 31]) (tmps : Array Value) (w : World) (B : Nat) (hp : tmps.getD p undef = .pointer (some ⟨B, 0, none⟩)) {a0 a1 a2 : Value}
    (hb : w.heap[B]? = some (.cells #[a0, a1, a2] 31 (0, 0))) : (results fn tmps).run Tryz.prog w = .ok (.agg #[a0, a1, a2]) w :=
  results_cell_row h tmps w B 31 #[a0, a1, a2] (0, 0) _ hp hb Tryz.underlying31 rfl (by rw [valInfo]; rfl)

set_option maxRecDepth 100000 in
set_option maxHeartbeats 2000000 in
theorem newvalue_any (nm : ByteArray) (t : Int) (u : Sl) (ds : List Int) (w : World) (hd : IsInts w u.v ds) (hs : nm.size ≤ 281474976710656) : Calls Tryz.prog 52 #[.string nm, .int .i64 t, .slice u.a u.n u.c] w fun e w' => ∃ s : Sl, e = .returned (.agg #[.string nm, .int .i64 t, .slice s.a s.n s.c]) ∧ Owns w' w.heap.size s.v ds ∧ w.grownBy w' none := by
  obtain ⟨w0, hw0⟩ : ∃ w0, w0 = w.alloc (.cells #[.string ⟨#[]⟩, .int .i64 0, .slice none 0 0] 31) := ⟨_, rfl⟩
  have g0 : Hid (w.grownBy w0 none) := by show w.grownBy w0 none; rw [hw0]; exact grown_new _ _
  have hb0 := heap_alloc_new w (.cells #[.string ⟨#[]⟩, .int .i64 0, .slice none 0 0] 31)
  rw [← hw0] at hb0
  have BX : Hid (∀ wx, w0.grownBy wx none → wx.heap[w.heap.size]? = some (.cells #[.string ⟨#[]⟩, .int .i64 0, .slice none 0 0] 31 (0, 0))) := fun wx hg => box_kept hb0 hg
  have SC := hide (strclone_any nm w0 hs)
  have HD := hide hd
  clear hb0 hd
  go_enter Tryz.func52, Tryz.ntmps52
  go_wp2_with fail
  rw [← hw0]
  clear hw0
  refine SC.out.mono ?_
  rintro e w1 ⟨rfl, hg1⟩
  have CL := hide (cloneI_any u ds w1 (HD.out.more (grown_trans g0.out hg1)))
  go_wp2_with (first | (go_at_call 121; refine CL.out.mono ?_; rintro e w2 ⟨⟨s1, s2, s3⟩, rfl, ho, hg2⟩; simp only; have g2 := grown_trans hg1 hg2; have B2 := BX.out w2 g2; obtain ⟨f0, f1, f2⟩ := ten_frozen B2; have c0 := (cell_of_row _ _ 0 _ _ (0, 0) B2).trans rfl; have c1 := (cell_of_row _ _ 1 _ _ (0, 0) B2).trans rfl; have c2 := (cell_of_row _ _ 2 _ _ (0, 0) B2).trans rfl) | fail)
  obtain ⟨hX, gX⟩ := store3t (.string nm) (.int .i64 t) (.slice s1 s2 s3) B2
  have gf : w.grownBy _ none := grown_drop (grown_trans g0.out g2) gX (Nat.le_refl _)
  refine bodyPost_ret (ret_val rfl _ _ w.heap.size rfl hX) rfl ?_
  refine ⟨⟨s1, s2, s3⟩, rfl, ?_, gf⟩
  have hb : w.heap.size < w1.heap.size := by have := (BX.out w1 hg1); exact (Array.getElem?_eq_some_iff.1 this).1
  have h := (ho.base_le (b' := w.heap.size + 1) (by omega)).more gX (by
    rcases ho.1.2 with ⟨e, -⟩ | ⟨gg, cap, cur, e, hgg, -⟩
    · exact .inl (by rw [e]; rfl)
    · exact .inr (by rw [e]; simp [Value.ownBlock]; omega))
  exact h.base_le (by omega)
end Go.Proofs.YtdcbjikjeicgbaaGreatDoor

/- Out: a closure that may give up, and what recovers it, by the walk. -/
namespace Go.Proofs.YtdcbjikjeicgbaaGreatDoor
open Go.RowKit

/-- What valueOf answers: a value under the node's name. -/
def ValQ (out : ByteArray) (base : Nat) (r : Int × List Int) (v : Value) (w' : World) : Prop := ∃ s : Sl, v = .agg #[.string out, .int .i64 r.1, .slice s.a s.n s.c] ∧ Owns w' base s.v r.2

set_option maxRecDepth 100000 in
set_option maxHeartbeats 2000000 in
theorem out1_any (n : Nod) (u : Sl) (r : R (Int × List Int)) (w : World) (pn pi : Nat) (hn : w.heap[pn]? = some (.cells #[.string n.op, .string n.name, .slice n.iv.a n.iv.n n.iv.c, .string n.out, .slice n.av.a n.av.n n.av.c] 25 (0, 0))) (hi : w.heap[pi]? = some (.cells #[.slice u.a u.n u.c] 26 (0, 0)))
    (VO : ∀ wx, w.grownBy wx none → Calls Tryz.prog 27 #[nval n, .slice u.a u.n u.c] wx (Ended wx r (ValQ n.out wx.heap.size))) :
    Calls Tryz.prog 26 #[.pointer (some ⟨pn, 0, none⟩), .pointer (some ⟨pi, 0, none⟩)] w (Ended w r (ValQ n.out w.heap.size)) := by
  have HVO := hide VO
  obtain ⟨op, nam, ⟨ia, il, ic⟩, out, ⟨ao, al, cap⟩⟩ := n
  obtain ⟨ua, un, uc⟩ := u
  unfold nval at HVO
  simp only at HVO hn hi ⊢
  clear VO
  have V0 : (.cells #[.string ⟨#[]⟩, .int .i64 0, .slice none 0 0] 31 : Obj) = .cells #[.string ⟨#[]⟩, .int .i64 0, .slice none 0 0] 31 := rfl
  obtain ⟨w0, hw0⟩ : ∃ w0, w0 = w.alloc (.cells #[.string ⟨#[]⟩, .int .i64 0, .slice none 0 0] 31) := ⟨_, rfl⟩
  have g0 : Hid (w.grownBy w0 none) := by show w.grownBy w0 none; rw [hw0]; exact grown_new _ _
  have hb0 := heap_alloc_new w (.cells #[.string ⟨#[]⟩, .int .i64 0, .slice none 0 0] 31)
  rw [← hw0] at hb0
  have BX : Hid (∀ wx, w0.grownBy wx none → wx.heap[w.heap.size]? = some (.cells #[.string ⟨#[]⟩, .int .i64 0, .slice none 0 0] 31 (0, 0))) := fun wx hg => box_kept hb0 hg
  have hn1 := box_kept hn g0.out
  have hi1 := box_kept hi g0.out
  rw [hw0] at hn1 hi1
  obtain ⟨n0, n1, n2, n3, n4⟩ := nod_cells (n := ⟨op, nam, ⟨ia, il, ic⟩, out, ⟨ao, al, cap⟩⟩) hn1
  have i0 := one_cell hi1
  simp only at n0 n1 n2 n3 n4
  clear hb0 hn hi hn1 hi1 V0
  go_enter Tryz.func26, Tryz.ntmps26
  go_wp2_with fail
  rw [← hw0]
  clear hw0 n0 n1 n2 n3 n4 i0
  have V1 := hide (HVO.out w0 g0.out)
  cases r with
  | error c =>
    refine V1.out.mono ?_
    rintro e w1 ⟨hg, rfl⟩
    exact ⟨rfl, ended_err rfl (grown_trans g0.out hg)⟩
  | ok rr =>
    refine V1.out.mono ?_
    rintro e w1 ⟨hg, v, rfl, ⟨s1, s2, s3⟩, rfl, ho⟩
    simp only
    have B1 := BX.out w1 hg
    obtain ⟨f0, f1, f2⟩ := ten_frozen B1
    have c0 := (cell_of_row _ _ 0 _ _ (0, 0) B1).trans rfl
    have c1 := (cell_of_row _ _ 1 _ _ (0, 0) B1).trans rfl
    have c2 := (cell_of_row _ _ 2 _ _ (0, 0) B1).trans rfl
    obtain ⟨hX, gX⟩ := store3t (.string out) (.int .i64 rr.1) (.slice s1 s2 s3) B1
    have gf := hide (grown_drop (grown_trans g0.out hg) gX (Nat.le_refl _))
    have HX := hide hX
    have hb : w.heap.size + 1 ≤ w0.heap.size := (Array.getElem?_eq_some_iff.1 (BX.out w0 (grown_refl _))).1
    have HO := hide (((ho.base_le (b' := w.heap.size + 1) hb).more gX (by
      rcases ho.1.2 with ⟨e, -⟩ | ⟨gg, cap', cur, e, hgg, -⟩
      · exact .inl (by rw [e]; rfl)
      · exact .inr (by rw [e]; simp [Value.ownBlock]; omega))).base_le (b' := w.heap.size) (by omega))
    clear hX gX ho
    go_wp2
    refine bodyPost_ret (ret_val rfl _ _ w.heap.size rfl HX.out) rfl ?_
    exact ended_ok rfl gf.out ⟨⟨s1, s2, s3⟩, rfl, HO.out⟩

/-- How Out ends: a value and no error, or the zero value and the error's number. -/
def AttQ (out : ByteArray) (w : World) (r : R (Int × List Int)) (e : Ending) (w' : World) : Prop := w.grownBy w' none ∧ match r with
  | .ok rr => ∃ s : Sl, e = .returned (.tuple #[.agg #[.string out, .int .i64 rr.1, .slice s.a s.n s.c], .int .i64 0]) ∧ Owns w' w.heap.size s.v rr.2
  | .error c => e = .returned (.tuple #[.agg #[.string ⟨#[]⟩, .int .i64 0, .slice none 0 0], .int .i64 c])

theorem assert_errno (c : Int) (w : World) : (Instr.typeAssert (.iface 32 (.int .i64 c)) 20 32 false).run Tryz.prog w = .ok (.int .i64 c) w := by kernel_rfl

/-- The closure that recovers, in a frame that returns: it turns nothing. -/
theorem catch_idle (p : Addr) (w : World) :
    CallsD Tryz.prog 42 #[.pointer (some p)] .returning w fun e u' w' => e = .returned (.tuple #[]) ∧ u' = .returning ∧ w' = w := by
  refine callsD_of_wpS Tryz.func42 rfl fun c₀ cs hu => ?_
  apply wpS_seq
  apply wpS_region
  simp [wpOpsS, go_sem, recoverD, hu, Tryz.ntmps42, Exit.thenS]
  apply wpS_seq
  apply wpS_region
  simp [wpOpsS, go_sem, Exit.thenS]
  refine wpS_cond (t := false) (by simp [Act.eval, Array.replicate]) ?_
  simp only [Bool.false_eq_true, if_false]
  refine wpS_of_wp (wp_skip ?_)
  cases c₀
  simp_all [bodyPostS, results, Tryz.results42]

set_option maxRecDepth 100000 in
/-- In a frame that panics with an error's number: the number is laid down. -/
theorem catch_panicking (p : Addr) (x c : Int) (older : List PanicEntry) (w : World) (hc : w.cell? p = some (.int .i64 x)) (hz : w.frozen? p = false) :
    CallsD Tryz.prog 42 #[.pointer (some p)] (.panicking ({ v := .iface 32 (.int .i64 c), recovered := false } :: older)) w fun e u' w' => e = .returned (.tuple #[]) ∧ u' = .panicking ({ v := .iface 32 (.int .i64 c), recovered := true } :: older) ∧ w' = w.setCell p (.int .i64 c) := by
  refine callsD_of_wpS Tryz.func42 rfl fun c₀ cs hu => ?_
  apply wpS_seq
  apply wpS_region
  simp [wpOpsS, go_sem, recoverD, hu, Tryz.ntmps42, Exit.thenS]
  apply wpS_seq
  apply wpS_region
  simp [wpOpsS, go_sem, Exit.thenS]
  refine wpS_cond (t := true) (by simp [Act.eval, Array.replicate]) ?_
  simp only [if_true]
  apply wpS_region
  have ha := assert_errno c w
  simp [wpOpsS, go_sem, hc, hz, ha, bodyPostS, results, Tryz.results42]

set_option maxRecDepth 100000 in
set_option maxHeartbeats 2000000 in
theorem attempt_any (out : ByteArray) (r : R (Int × List Int)) (w : World) (pn pi : Nat) (HC : ∀ wx, w.grownBy wx none → Calls Tryz.prog 26 #[.pointer (some ⟨pn, 0, none⟩), .pointer (some ⟨pi, 0, none⟩)] wx (Ended wx r (ValQ out wx.heap.size))) :
    Calls Tryz.prog 25 #[.func (.func 26) #[] #[.pointer (some ⟨pn, 0, none⟩), .pointer (some ⟨pi, 0, none⟩)]] w (AttQ out w r) := by
  have hmf : ∀ (fn : Fn) (first cap : Array Value) (w : World), (Instr.makeFunc fn first cap).run Tryz.prog w = .ok (.func fn first cap) w := fun _ _ _ _ => rfl
  have H := hide HC
  clear HC
  go_enter_defers Tryz.func25, Tryz.ntmps25
  obtain ⟨w0, hw0⟩ : ∃ w0, w0 = (w.alloc (.cells #[.string ⟨#[]⟩, .int .i64 0, .slice none 0 0] 31)).alloc (.cells #[.int .i64 0] 32) := ⟨_, rfl⟩
  have g0 : Hid (w.grownBy w0 none) := by show w.grownBy w0 none; rw [hw0]; exact grown_trans (grown_new _ _) (grown_new _ _)
  have hbx := two_boxes w (.cells #[.string ⟨#[]⟩, .int .i64 0, .slice none 0 0] 31) (.cells #[.int .i64 0] 32)
  rw [← hw0] at hbx
  have BX : Hid (∀ wx, w0.grownBy wx none → wx.heap[w.heap.size]? = some (.cells #[.string ⟨#[]⟩, .int .i64 0, .slice none 0 0] 31 (0, 0)) ∧ wx.heap[w.heap.size + 1]? = some (.cells #[.int .i64 0] 32 (0, 0))) := fun wx hg => ⟨box_kept hbx.1 hg, box_kept hbx.2 hg⟩
  clear hbx
  go_wp2_with fail
  rw [← hw0]
  clear hw0
  have H1 := hide (H.out w0 g0.out)
  clear H
  cases r with
  | error c =>
    refine H1.out.mono ?_
    rintro e w1 ⟨hg, rfl⟩
    obtain ⟨B1, B2⟩ := BX.out w1 hg
    refine leaves_cons (f := 42) (args := #[.pointer (some ⟨w.heap.size + 1, 0, none⟩)]) (by simp) (by simp [go_sem]) ?_
    refine (catch_panicking ⟨w.heap.size + 1, 0, none⟩ 0 c [] w1 (one_cell B2) (frozen_of_row w1 _ 0 _ _ B2)).mono ?_
    rintro e u' w'' ⟨rfl, rfl, rfl⟩
    have h2 := heap_setCell_same w1 (w.heap.size + 1) 0 _ _ (.int .i64 c) B2
    have h1 : (w1.setCell ⟨w.heap.size + 1, 0, none⟩ (.int .i64 c)).heap[w.heap.size]? = some (.cells #[.string ⟨#[]⟩, .int .i64 0, .slice none 0 0] 31 (0, 0)) := by
      rw [← B1]
      exact Below.heap_setCell _ _ _ _ (by simp)
    have k0 := (cell_of_row _ _ 0 _ _ (0, 0) h1).trans rfl
    have k1 := (cell_of_row _ _ 1 _ _ (0, 0) h1).trans rfl
    have k2 := (cell_of_row _ _ 2 _ _ (0, 0) h1).trans rfl
    have k3 := (cell_of_row _ _ 0 _ _ (0, 0) h2).trans rfl
    have gf : w.grownBy (w1.setCell ⟨w.heap.size + 1, 0, none⟩ (.int .i64 c)) none := grown_drop (B := w.heap.size + 1) (grown_trans g0.out hg) ⟨rfl, rfl, rfl, by simp [World.setCell], fun k _ hk => Below.heap_setCell _ _ _ _ (fun e => hk (by rw [e]))⟩ (by omega)
    obtain ⟨wf, hwf⟩ : ∃ wf, wf = w1.setCell ⟨w.heap.size + 1, 0, none⟩ (.int .i64 c) := ⟨_, rfl⟩
    rw [← hwf] at k0 k1 k2 k3 gf ⊢
    clear hwf h1 h2 B1 B2
    simp [Leaves, settle, results, Tryz.results25, go_sem, k0, k1, k2, k3]
    exact ⟨gf, rfl⟩
  | ok rr =>
    refine H1.out.mono ?_
    rintro e w1 ⟨hg, v, rfl, ⟨s1, s2, s3⟩, rfl, ho⟩
    simp only
    obtain ⟨B1, B2⟩ := BX.out w1 hg
    obtain ⟨f0, f1, f2⟩ := ten_frozen B1
    have c0 := (cell_of_row _ _ 0 _ _ (0, 0) B1).trans rfl
    have c1 := (cell_of_row _ _ 1 _ _ (0, 0) B1).trans rfl
    have c2 := (cell_of_row _ _ 2 _ _ (0, 0) B1).trans rfl
    have e0 := one_cell B2
    have e1 := frozen_of_row w1 (w.heap.size + 1) 0 _ _ B2
    obtain ⟨hX, gX⟩ := store3t (.string out) (.int .i64 rr.1) (.slice s1 s2 s3) B1
    have B3 := (gX.block (w.heap.size + 1) (Array.getElem?_eq_some_iff.1 B2).1 (by simp)).trans B2
    have e0x := one_cell B3
    have e1x := frozen_of_row _ (w.heap.size + 1) 0 _ _ B3
    have h2 := heap_setCell_same _ (w.heap.size + 1) 0 _ _ (.int .i64 0) B3
    have gs : ∀ x : World, x.grownBy (x.setCell ⟨w.heap.size + 1, 0, none⟩ (.int .i64 0)) (some (w.heap.size + 1)) := fun x => ⟨rfl, rfl, rfl, by simp [World.setCell], fun k _ hk => Below.heap_setCell _ _ _ _ (fun e => hk (by rw [e]))⟩
    have gy := gs (((w1.setCell ⟨w.heap.size, 0, none⟩ (.string out)).setCell ⟨w.heap.size, 1, none⟩ (.int .i64 rr.1)).setCell ⟨w.heap.size, 2, none⟩ (.slice s1 s2 s3))
    have h1 := (gy.block w.heap.size (Array.getElem?_eq_some_iff.1 hX).1 (by simp)).trans hX
    have gf := grown_drop (grown_drop (grown_trans g0.out hg) gX (Nat.le_refl _)) gy (by omega)
    have hb : w.heap.size + 2 ≤ w0.heap.size := by have := (Array.getElem?_eq_some_iff.1 (BX.out w0 (grown_refl _)).2).1; omega
    have hne : ∀ B, B < w.heap.size + 2 → (Sl.v ⟨s1, s2, s3⟩).ownBlock = none ∨ (Sl.v ⟨s1, s2, s3⟩).ownBlock ≠ some B := fun B hB => by
      rcases ho.1.2 with ⟨e, -⟩ | ⟨gg, cap', cur, e, hgg, -⟩
      · exact .inl (by rw [e]; rfl)
      · exact .inr (by rw [e]; simp [Value.ownBlock]; omega)
    have HO := hide ((((ho.base_le (b' := w.heap.size) (by omega)).more gX (hne _ (by omega))).more gy (hne _ (by omega))))
    have GF := hide gf
    have H1x := hide h1
    have H2x := hide h2
    clear gs gy h1 h2 gf hX gX hne
    go_wp2
    refine leaves_cons (f := 42) (args := #[.pointer (some ⟨w.heap.size + 1, 0, none⟩)]) (by simp) (by simp [go_sem]) ?_
    refine (catch_idle ⟨w.heap.size + 1, 0, none⟩ _).mono ?_
    rintro e u' w'' ⟨rfl, rfl, rfl⟩
    have k0 := (cell_of_row _ _ 0 _ _ (0, 0) H1x.out).trans rfl
    have k1 := (cell_of_row _ _ 1 _ _ (0, 0) H1x.out).trans rfl
    have k2 := (cell_of_row _ _ 2 _ _ (0, 0) H1x.out).trans rfl
    have k3 := (cell_of_row _ _ 0 _ _ (0, 0) H2x.out).trans rfl
    obtain ⟨wf, hwf⟩ : ∃ wf, wf = ((((w1.setCell ⟨w.heap.size, 0, none⟩ (.string out)).setCell ⟨w.heap.size, 1, none⟩ (.int .i64 rr.1)).setCell ⟨w.heap.size, 2, none⟩ (.slice s1 s2 s3)).setCell ⟨w.heap.size + 1, 0, none⟩ (.int .i64 0)) := ⟨_, rfl⟩
    have hO := HO.out
    have hG := GF.out
    rw [← hwf] at k0 k1 k2 k3 hO hG ⊢
    clear hwf H1x H2x B1 B2 B3 HO GF c0 c1 c2 f0 f1 f2 e0 e1 e0x e1x
    simp [Leaves, settle, results, Tryz.results25, go_sem, k0, k1, k2, k3]
    exact ⟨hG, ⟨s1, s2, s3⟩, rfl, hO⟩

theorem three_boxes (w : World) (o o' o2 : Obj) : (((w.alloc o).alloc o').alloc o2).heap[w.heap.size]? = some o ∧ (((w.alloc o).alloc o').alloc o2).heap[w.heap.size + 1]? = some o' ∧ (((w.alloc o).alloc o').alloc o2).heap[w.heap.size + 2]? = some o2 := by
  obtain ⟨h1, h2⟩ := two_boxes w o o'
  have g := grown_new ((w.alloc o).alloc o') o2
  refine ⟨box_kept h1 g, box_kept h2 g, ?_⟩
  have h3 := heap_alloc_new ((w.alloc o).alloc o') o2
  simpa using h3

theorem ret_valt {fn : Func} {p u : Tmp} (h : fn.results = #[.cell p 31, .tmp u]) (tmps : Array Value) (w : World) (B : Nat) (hp : tmps.getD p undef = .pointer (some ⟨B, 0, none⟩)) {a0 a1 a2 : Value}
    (hb : w.heap[B]? = some (.cells #[a0, a1, a2] 31 (0, 0))) : (results fn tmps).run Tryz.prog w = .ok (.tuple #[.agg #[a0, a1, a2], tmps.getD u undef]) w := by
  have hl := run_loadVar_row (P := Tryz.prog) w B _ 31 #[a0, a1, a2] (0, 0) _ hb Tryz.underlying31 rfl (by rw [valInfo]; rfl)
  rw [results_cell_tmp h, hp]
  simp [asAddr, hl, Result.andThen]

set_option maxRecDepth 100000 in
set_option maxHeartbeats 2000000 in
theorem out_any (n : Nod) (u : Sl) (r : R (Int × List Int)) (w : World) (VO : ∀ wx, w.grownBy wx none → Calls Tryz.prog 27 #[nval n, .slice u.a u.n u.c] wx (Ended wx r (ValQ n.out wx.heap.size))) :
    Calls Tryz.prog 10 #[nval n, .slice u.a u.n u.c] w (AttQ n.out w r) := by
  have hmf : ∀ (fn : Fn) (first cap : Array Value) (w : World), (Instr.makeFunc fn first cap).run Tryz.prog w = .ok (.func fn first cap) w := fun _ _ _ _ => rfl
  have HVO := hide VO
  obtain ⟨w0, hw0⟩ : ∃ w0, w0 = ((w.alloc (.cells #[.string n.op, .string n.name, .slice n.iv.a n.iv.n n.iv.c, .string n.out, .slice n.av.a n.av.n n.av.c] 25)).alloc (.cells #[.slice u.a u.n u.c] 26)).alloc (.cells #[.string ⟨#[]⟩, .int .i64 0, .slice none 0 0] 31) := ⟨_, rfl⟩
  have g0 : Hid (w.grownBy w0 none) := by show w.grownBy w0 none; rw [hw0]; exact grown_trans (grown_trans (grown_new _ _) (grown_new _ _)) (grown_new _ _)
  have hbx := three_boxes w (.cells #[.string n.op, .string n.name, .slice n.iv.a n.iv.n n.iv.c, .string n.out, .slice n.av.a n.av.n n.av.c] 25) (.cells #[.slice u.a u.n u.c] 26) (.cells #[.string ⟨#[]⟩, .int .i64 0, .slice none 0 0] 31)
  rw [← hw0] at hbx
  have AT := hide (attempt_any n.out r w0 w.heap.size (w.heap.size + 1) (fun wx hx => out1_any n u r wx w.heap.size (w.heap.size + 1) (box_kept hbx.1 hx) (box_kept hbx.2.1 hx) (fun wy hy => HVO.out wy (grown_trans g0.out (grown_trans hx hy)))))
  have BX : Hid (∀ wx, w0.grownBy wx none → wx.heap[w.heap.size + 2]? = some (.cells #[.string ⟨#[]⟩, .int .i64 0, .slice none 0 0] 31 (0, 0))) := fun wx hg => box_kept hbx.2.2 hg
  clear VO HVO hbx
  obtain ⟨op, nam, ⟨ia, il, ic⟩, out, ⟨ao, al, cap⟩⟩ := n
  obtain ⟨ua, un, uc⟩ := u
  unfold nval
  simp only at AT hw0 ⊢
  go_enter Tryz.func10, Tryz.ntmps10
  go_wp2_with fail
  rw [← hw0]
  clear hw0
  refine AT.out.mono ?_
  have fin : ∀ (w1 : World) (a0 a1 a2 : Value), w0.grownBy w1 none → (((w1.setCell ⟨w.heap.size + 2, 0, none⟩ a0).setCell ⟨w.heap.size + 2, 1, none⟩ a1).setCell ⟨w.heap.size + 2, 2, none⟩ a2).heap[w.heap.size + 2]? = some (.cells #[a0, a1, a2] 31 (0, 0)) ∧ w1.grownBy (((w1.setCell ⟨w.heap.size + 2, 0, none⟩ a0).setCell ⟨w.heap.size + 2, 1, none⟩ a1).setCell ⟨w.heap.size + 2, 2, none⟩ a2) (some (w.heap.size + 2)) := fun w1 a0 a1 a2 hg => store3t a0 a1 a2 (BX.out w1 hg)
  have FIN := hide fin
  clear fin
  rintro e w1 ⟨hg, hq⟩
  have B1 := BX.out w1 hg
  obtain ⟨f0, f1, f2⟩ := ten_frozen B1
  have c0 := (cell_of_row _ _ 0 _ _ (0, 0) B1).trans rfl
  have c1 := (cell_of_row _ _ 1 _ _ (0, 0) B1).trans rfl
  have c2 := (cell_of_row _ _ 2 _ _ (0, 0) B1).trans rfl
  have HG := hide hg
  clear B1 hg
  cases r with
  | error c =>
    obtain rfl := hq
    obtain ⟨hX, gX⟩ := FIN.out w1 (.string ⟨#[]⟩) (.int .i64 0) (.slice none 0 0) HG.out
    have HX := hide hX
    have GX := hide (grown_drop (grown_trans g0.out HG.out) gX (by omega))
    clear hX gX
    go_wp2
    refine bodyPost_ret (ret_valt rfl _ _ (w.heap.size + 2) rfl HX.out) rfl ?_
    exact ⟨GX.out, rfl⟩
  | ok rr =>
    obtain ⟨⟨s1, s2, s3⟩, rfl, ho⟩ := hq
    obtain ⟨hX, gX⟩ := FIN.out w1 (.string out) (.int .i64 rr.1) (.slice s1 s2 s3) HG.out
    have hb : w.heap.size + 3 ≤ w0.heap.size := by have := (Array.getElem?_eq_some_iff.1 (BX.out w0 (grown_refl _))).1; omega
    have HO := hide ((ho.base_le (b' := w.heap.size) (by omega)).more gX (by
      rcases ho.1.2 with ⟨e, -⟩ | ⟨gg, cap', cur, e, hgg, -⟩
      · exact .inl (by rw [e]; rfl)
      · exact .inr (by rw [e]; simp [Value.ownBlock]; omega)))
    have HX := hide hX
    have GX := hide (grown_drop (grown_trans g0.out HG.out) gX (by omega))
    clear hX gX ho
    simp only
    go_wp2
    refine bodyPost_ret (ret_valt rfl _ _ (w.heap.size + 2) rfl HX.out) rfl ?_
    exact ⟨GX.out, ⟨s1, s2, s3⟩, rfl, HO.out⟩
end Go.Proofs.YtdcbjikjeicgbaaGreatDoor

/- valueOf, by the walk: over whatever contracts of typeMade and dimsMade. -/
namespace Go.Proofs.YtdcbjikjeicgbaaGreatDoor
open Go.RowKit

/-- The type and the dims of what a node makes, or why not. -/
def valueP (ck : Int) (lens : Bool) (vs : List (Val × List Int)) (tS : R Int) (dS : R (List Int)) (os : List ByteArray) : R (Int × List Int) :=
  (stopP ck).bind (fun _ => (mustP lens).bind (fun _ => (vinP vs).bind (fun _ => tS.bind (fun t => dS.bind (fun d => (countP d).bind (fun _ => (thenP t os).bind (fun _ => .ok (t, d))))))))

theorem isOne_names {s : ByteArray} (h : isOne s = true) : s.toList ∈ names1 := by
  unfold isOne at h
  rw [List.any_eq_true] at h
  obtain ⟨n, hn, he⟩ := h
  have e : n = s.toList := by simpa using he
  rw [← e]
  revert n
  unfold ones names1
  intro n hn _ _
  exact hn

theorem thenL_ones (o : Option Atr) : ∀ s ∈ thenL o, isOne s = true := by
  intro s hs
  unfold thenL at hs
  cases o with
  | none => simp at hs
  | some a =>
    simp only at hs
    split at hs
    · rename_i hall
      obtain ⟨p, hp, rfl⟩ := List.mem_map.1 hs
      exact List.all_eq_true.1 hall p hp
    · simp at hs

theorem thenL_len {xs : List Atr} (h : ∀ a ∈ xs, a.s.size ≤ 1048576) (P : Atr → Bool) : (thenL (xs.find? P)).length ≤ 1048577 := by
  unfold thenL
  cases hf : xs.find? P with
  | none => simp
  | some a =>
    have h1 := h a (List.mem_of_find?_eq_some hf)
    have h2 := pcs_len a.s.data.toList
    simp only
    split
    · rw [List.length_map]
      have h3 : a.s.data.toList.length = a.s.size := by rw [Array.length_toList]; rfl
      omega
    · simp

set_option maxRecDepth 100000 in
set_option maxHeartbeats 4000000 in
theorem valueof_any (n : Nod) (A : At) (ins : List ByteArray) (u : Sl) (vs : List (Val × List Int)) (w : World) (hl : Laid w) (hni : NodeIn w n ins A.xs A.cs) (hv : ValsIn w u.v vs) (ho : n.out.size ≤ 281474976710656) (tS : R Int) (dS : R (List Int))
    (TM : checkF (ruleF n.op) n.op ins n.out A.xs A.cs = 0 → vs.length = ins.length → vinP vs = .ok () → ∀ wx, w.grownBy wx none → Calls Tryz.prog 48 #[nval n, .slice u.a u.n u.c] wx (Ended wx tS fun t v _ => v = .int .i64 t ∧ isTypeP t = true))
    (DM : checkF (ruleF n.op) n.op ins n.out A.xs A.cs = 0 → vs.length = ins.length → vinP vs = .ok () → ∀ wx, w.grownBy wx none → Calls Tryz.prog 49 #[nval n, .slice u.a u.n u.c] wx (Ended wx dS DimsQ)) :
    Calls Tryz.prog 27 #[nval n, .slice u.a u.n u.c] w (Ended w (valueP (checkF (ruleF n.op) n.op ins n.out A.xs A.cs) (decide (vs.length = ins.length)) vs tS dS (thenL (A.xs.find? (isA ⟨#[116, 104, 101, 110]⟩ 3)))) fun r v w' => ∃ s : Sl, v = .agg #[.string n.out, .int .i64 r.1, .slice s.a s.n s.c] ∧ Owns w' w.heap.size s.v r.2) := by
  obtain ⟨xa, xc, e1, q1, q2, q3⟩ := hv.vals.form
  rw [List.length_map] at e1 q1 q3
  obtain ⟨ua, un, uc⟩ := u
  simp only [Sl.v, Value.slice.injEq] at e1
  obtain ⟨rfl, rfl, rfl⟩ := e1
  have CK := hide (fun (wx : World) (hg : w.grownBy wx none) => check_in n ins A.xs A.cs wx (hl.more hg) (hni.more hg))
  have TH := hide (fun (wx : World) (hg : w.grownBy wx none) => then_any n A.xs wx (hl.more hg) (hni.more hg).av (fun a ha => by have := hni.short a ha; omega))
  have IL := hide hni.ins
  obtain ⟨ck, hck⟩ : ∃ c, c = checkF (ruleF n.op) n.op ins n.out A.xs A.cs := ⟨_, rfl⟩
  obtain ⟨os, hos⟩ : ∃ os, os = thenL (A.xs.find? (isA ⟨#[116, 104, 101, 110]⟩ 3)) := ⟨_, rfl⟩
  have OS : Hid (∀ s ∈ os, isOne s = true) := by show ∀ s ∈ os, _; rw [hos]; exact thenL_ones _
  have OsB : Hid (os.length ≤ 1048577) := by show os.length ≤ _; rw [hos]; exact thenL_len hni.short _
  rw [← hck] at CK TM DM ⊢
  rw [← hos] at TH ⊢
  have HV := hide hv
  have HTM := hide TM
  have HDM := hide DM
  clear hck hos hl hni hv TM DM
  obtain ⟨op, nam, ⟨ia, il, ic⟩, out, ⟨ao, al, cap⟩⟩ := n
  unfold nval at CK TH HTM HDM ⊢
  simp only at CK TH HTM HDM IL ho ⊢
  obtain ⟨ix, icc, ei, i1, i2, i3⟩ := IL.out.form
  simp only [Sl.v, Value.slice.injEq] at ei
  obtain ⟨rfl, rfl, rfl⟩ := ei
  obtain ⟨w0, hw0⟩ : ∃ w0, w0 = (w.alloc (.cells #[.string op, .string nam, .slice ia ins.length ic, .string out, .slice ao al cap] 25)).alloc (.cells #[.string ⟨#[]⟩, .int .i64 0, .slice none 0 0] 31) := ⟨_, rfl⟩
  have g0 : Hid (w.grownBy w0 none) := by show w.grownBy w0 none; rw [hw0]; exact grown_trans (grown_new _ _) (grown_new _ _)
  have hbx := two_boxes w (.cells #[.string op, .string nam, .slice ia ins.length ic, .string out, .slice ao al cap] 25) (.cells #[.string ⟨#[]⟩, .int .i64 0, .slice none 0 0] 31)
  rw [← hw0] at hbx
  have BX : Hid (∀ wx, w0.grownBy wx none → wx.heap[w.heap.size]? = some (.cells #[.string op, .string nam, .slice ia ins.length ic, .string out, .slice ao al cap] 25 (0, 0)) ∧ wx.heap[w.heap.size + 1]? = some (.cells #[.string ⟨#[]⟩, .int .i64 0, .slice none 0 0] 31 (0, 0))) := fun wx hg => ⟨box_kept hbx.1 hg, box_kept hbx.2 hg⟩
  clear hbx
  go_enter Tryz.func27, Tryz.ntmps27
  go_wp2_with fail
  rw [← hw0]
  clear hw0
  refine (CK.out w0 g0.out).mono ?_
  rintro e w1 ⟨rfl, hg1⟩
  have G1 := hide hg1
  clear hg1 CK
  by_cases hc0 : ck = 0
  · subst hc0
    obtain ⟨n0, n1, n2, n3, n4⟩ := nod_cells (n := ⟨op, nam, ⟨ia, ins.length, ic⟩, out, ⟨ao, al, cap⟩⟩) (BX.out w1 G1.out).1
    by_cases hlen : vs.length = ins.length
    · have bl : ((vs.length : Int) == (ins.length : Int)) = true := by simp [hlen]
      have TM2 := hide (HTM.out rfl hlen)
      have DM2 := hide (HDM.out rfl hlen)
      have E0 : Hid (valueP 0 (decide (vs.length = ins.length)) vs tS dS os = (vinP vs).bind (fun _ => tS.bind (fun t => dS.bind (fun d => (countP d).bind (fun _ => (thenP t os).bind (fun _ => .ok (t, d))))))) := by show _ = _; unfold valueP; simp [stopP, mustP, hlen]; rfl
      clear hlen HTM HDM
      go_wp2_with (first | (go_at_call 43; refine (stop_ok _).mono ?_; rintro e w' ⟨rfl, rfl⟩) | (go_at_call 45; refine (must_yes _).mono ?_; rintro e w' ⟨rfl, rfl⟩) | fail)
      clear n0 n1 n2 n3 n4 bl
      go_loopw [25] (fun i wr => ∃ k : Nat, k ≤ vs.length ∧ i = .int .i64 k ∧ vinP (vs.drop k) = vinP vs ∧ w0.grownBy wr none) (fun i _ => vs.length - (intOf i).toNat)
      case atStart => exact ⟨0, Nat.zero_le _, rfl, by rw [List.drop_zero], G1.out⟩
      case round =>
        obtain ⟨k, hk, rfl, hst, hg⟩ := hrel
        have HG := hide hg
        by_cases hkl : k < vs.length
        · obtain ⟨b, off, rfl⟩ := HV.out.vals.addr (k := k) (by rw [List.length_map]; exact hkl)
          obtain ⟨y0, y1, y2⟩ := (HV.out.more (grown_trans g0.out hg)).vals.val k (by rw [List.length_map]; exact hkl)
          have HY := hide (HV.out.dims vs[k] (List.getElem_mem hkl))
          rw [List.getElem_map] at y0 y1 y2
          rw [vinP_step hkl] at hst
          obtain ⟨p, hp⟩ : ∃ p, p = vs[k] := ⟨_, rfl⟩
          rw [← hp] at y0 y1 y2 HY hst
          obtain ⟨⟨vn, vt, ⟨da, dn, dc⟩⟩, y⟩ := p
          simp only at y0 y1 y2 HY hst
          obtain ⟨w3, hw3⟩ : ∃ w3, w3 = wr.alloc (.cells #[.string vn, .int .i64 vt, .slice da dn dc] 31) := ⟨_, rfl⟩
          have g3 : Hid (w0.grownBy w3 none) := by show w0.grownBy w3 none; rw [hw3]; exact grown_trans hg (grown_new _ _)
          have hb3 := heap_alloc_new wr (.cells #[.string vn, .int .i64 vt, .slice da dn dc] 31)
          rw [← hw3] at hb3
          have v1 : w3.cell? ⟨wr.heap.size, 1, none⟩ = some (.int .i64 vt) := (cell_of_row _ _ 1 _ _ (0, 0) hb3).trans rfl
          have v2 : w3.cell? ⟨wr.heap.size, 2, none⟩ = some (.slice da dn dc) := (cell_of_row _ _ 2 _ _ (0, 0) hb3).trans rfl
          have TY := hide (typ_any vt w3)
          have CO := hide (countof_any _ y w3 (HY.out.more (grown_trans g0.out g3.out)))
          simp only [Sl.v] at CO
          have HST := hide hst
          clear hb3 hp hg hst
          go_wp2_with fail
          rw [← hw3]
          clear hw3 y0 y1 y2
          cases ht : typP vt with
          | error c =>
            rw [ht] at TY
            have E : Hid (valueP 0 (decide (vs.length = ins.length)) vs tS dS os = .error c) := by show _ = _; rw [E0.out, ← HST.out, ht]; rfl
            clear ht
            refine TY.out.mono ?_
            rintro e w' ⟨hg, rfl⟩
            exact ⟨rfl, ended_err E.out (grown_trans (grown_trans g0.out g3.out) hg)⟩
          | ok tu =>
            rw [ht] at TY
            have HST2 : Hid ((countP y).bind (fun _ => vinP (vs.drop (k + 1))) = vinP vs) := by show _ = _; rw [← HST.out, ht]; rfl
            clear ht HST
            cases hc : countP y with
            | error c =>
              rw [hc] at CO
              have E : Hid (valueP 0 (decide (vs.length = ins.length)) vs tS dS os = .error c) := by show _ = _; rw [E0.out, ← HST2.out, hc]; rfl
              clear hc
              refine TY.out.mono ?_
              rintro e w' ⟨-, v, rfl, rfl, rfl⟩
              go_wp2_with (first | (go_at_call 47; refine CO.out.mono ?_; rintro e w' ⟨hg, rfl⟩) | fail)
              exact ⟨rfl, ended_err E.out (grown_trans (grown_trans g0.out g3.out) hg)⟩
            | ok cn =>
              rw [hc] at CO
              have HST3 : Hid (vinP (vs.drop (k + 1)) = vinP vs) := by show _ = _; rw [← HST2.out, hc]; rfl
              clear hc HST2
              refine TY.out.mono ?_
              rintro e w' ⟨-, v, rfl, rfl, rfl⟩
              go_wp2_with (first | (go_at_call 47; refine CO.out.mono ?_; rintro e w' ⟨-, v, rfl, rfl, rfl⟩) | fail)
              go_roundw
              case rel => exact ⟨k + 1, by omega, by go_num, HST3.out, g3.out⟩
              case measure => simp [intOf]; omega
        · have hvin : vinP vs = .ok () := by rw [← hst, List.drop_of_length_le (by omega)]; rfl
          have E1 : Hid (valueP 0 (decide (vs.length = ins.length)) vs tS dS os = tS.bind (fun t => dS.bind (fun d => (countP d).bind (fun _ => (thenP t os).bind (fun _ => .ok (t, d)))))) := by show _ = _; rw [E0.out, hvin]; rfl
          have TM3 := hide (TM2.out hvin wr (grown_trans g0.out hg))
          have DM3 := hide (fun wx hx => DM2.out hvin wx hx)
          obtain ⟨n0, n1, n2, n3, n4⟩ := nod_cells (n := ⟨op, nam, ⟨ia, ins.length, ic⟩, out, ⟨ao, al, cap⟩⟩) (BX.out wr hg).1
          clear hst hg hvin TM2 DM2 E0
          go_wp2_with fail
          cases ht : tS with
          | error c =>
            rw [ht] at TM3
            have E : Hid (valueP 0 (decide (vs.length = ins.length)) vs tS dS os = .error c) := by show _ = _; rw [E1.out, ht]; rfl
            refine TM3.out.mono ?_
            rintro e w' ⟨hg, rfl⟩
            exact ⟨rfl, ended_err E.out (grown_trans (grown_trans g0.out HG.out) hg)⟩
          | ok tt =>
            rw [ht] at TM3
            have E2 : Hid (valueP 0 (decide (vs.length = ins.length)) vs tS dS os = dS.bind (fun d => (countP d).bind (fun _ => (thenP tt os).bind (fun _ => .ok (tt, d))))) := by show _ = _; rw [E1.out, ht]; rfl
            refine TM3.out.mono ?_
            rintro e w4 ⟨hg4, v, rfl, rfl, htt⟩
            have G4 := hide (grown_trans HG.out hg4)
            have D4 := hide (DM3.out w4 (grown_trans g0.out G4.out))
            obtain ⟨n0, n1, n2, n3, n4⟩ := nod_cells (n := ⟨op, nam, ⟨ia, ins.length, ic⟩, out, ⟨ao, al, cap⟩⟩) (BX.out w4 G4.out).1
            clear hg4 TM3 ht
            go_wp2_with fail
            cases hd : dS with
            | error c =>
              rw [hd] at D4
              have E : Hid (valueP 0 (decide (vs.length = ins.length)) vs tS dS os = .error c) := by show _ = _; rw [E2.out, hd]; rfl
              refine D4.out.mono ?_
              rintro e w' ⟨hg, rfl⟩
              exact ⟨rfl, ended_err E.out (grown_trans (grown_trans g0.out G4.out) hg)⟩
            | ok dd =>
              rw [hd] at D4
              have E3 : Hid (valueP 0 (decide (vs.length = ins.length)) vs tS dS os = (countP dd).bind (fun _ => (thenP tt os).bind (fun _ => .ok (tt, dd)))) := by show _ = _; rw [E2.out, hd]; rfl
              refine D4.out.mono ?_
              rintro e w5 ⟨hg5, v, rfl, ⟨s1, s2, s3⟩, rfl, hs⟩
              have G5 := hide (grown_trans G4.out hg5)
              have CO := hide (countof_any _ dd w5 hs)
              have HS := hide hs
              simp only [Sl.v] at CO ⊢
              obtain ⟨n0, n1, n2, n3, n4⟩ := nod_cells (n := ⟨op, nam, ⟨ia, ins.length, ic⟩, out, ⟨ao, al, cap⟩⟩) (BX.out w5 G5.out).1
              clear hg5 D4 hd hs DM3
              have T6 := hide (TH.out w5 (grown_trans g0.out G5.out))
              cases hc : countP dd with
              | error c =>
                rw [hc] at CO
                have E : Hid (valueP 0 (decide (vs.length = ins.length)) vs tS dS os = .error c) := by show _ = _; rw [E3.out, hc]; rfl
                clear hc
                go_wp2_with (first | (go_at_call 47; refine CO.out.mono ?_; rintro e w' ⟨hg, rfl⟩) | fail)
                exact ⟨rfl, ended_err E.out (grown_trans (grown_trans g0.out G5.out) hg)⟩
              | ok cn =>
                rw [hc] at CO
                have E4 : Hid (valueP 0 (decide (vs.length = ins.length)) vs tS dS os = (thenP tt os).bind (fun _ => .ok (tt, dd))) := by show _ = _; rw [E3.out, hc]; rfl
                clear hc
                go_wp2_with (first | (go_at_call 47; refine CO.out.mono ?_; rintro e w' ⟨-, v, rfl, rfl, rfl⟩) | (go_at_call 50; refine T6.out.mono ?_; rintro e w6 ⟨tv, rfl, hown, hg6⟩; obtain ⟨oa, oc, rfl⟩ := OwnsL.form hown) | fail)
                have G6 := hide (grown_trans G5.out hg6)
                have HG56 := hide hg6
                have osb := OsB.out
                have LO := hide (OwnsL.isL (bytes := 16) scell_len hown (by omega))
                clear hown hg6 T6 CO n0 n1 n2 n3 n4
                go_loopw [51] (fun i wr => ∃ k : Nat, k ≤ os.length ∧ i = .int .i64 k ∧ thenP tt (os.drop k) = thenP tt os ∧ w6.grownBy wr none) (fun i _ => os.length - (intOf i).toNat)
                case atStart => exact ⟨0, Nat.zero_le _, rfl, by rw [List.drop_zero], grown_refl _⟩
                case round =>
                  obtain ⟨k, hk, rfl, hst, hg⟩ := hrel
                  have HG2 := hide hg
                  by_cases hkl : k < os.length
                  · obtain ⟨ob, of, rfl⟩ := LO.out.addr hkl
                    have hc := (LO.out.more hg).at k hkl 0 (by omega)
                    rw [Nat.mul_one, Nat.add_zero] at hc
                    rw [thenP_step hkl] at hst
                    have hone := OS.out os[k] (List.getElem_mem hkl)
                    obtain ⟨o, hoo⟩ : ∃ o, o = os[k] := ⟨_, rfl⟩
                    rw [← hoo] at hc hst hone
                    have hc' : wr.cell? ⟨ob, of + k, none⟩ = some (.string o) := hc
                    have MU := hide (mustone_any o tt (isOne_names hone) htt wr)
                    have HST := hide hst
                    clear hc hoo hst hg hone
                    cases h1 : oneOK o.toList tt with
                    | true =>
                      rw [h1] at MU
                      have HST2 : Hid (thenP tt (os.drop (k + 1)) = thenP tt os) := by show _ = _; rw [← HST.out, h1]; rfl
                      clear h1
                      go_wp2_with (first | (go_at_call 51; refine MU.out.mono ?_; rintro e w7 ⟨hg7, v, rfl, rfl⟩) | fail)
                      go_roundw
                      case rel => exact ⟨k + 1, by omega, by go_num, HST2.out, grown_trans HG2.out hg7⟩
                      case measure => simp [intOf]; omega
                    | false =>
                      rw [h1] at MU
                      have E : Hid (valueP 0 (decide (vs.length = ins.length)) vs tS dS os = .error 4) := by show _ = _; rw [E4.out, ← HST.out, h1]; rfl
                      clear h1
                      go_wp2_with (first | (go_at_call 51; refine MU.out.mono ?_; rintro e w7 ⟨hg7, rfl⟩) | fail)
                      exact ⟨rfl, ended_err E.out (grown_trans (grown_trans g0.out G6.out) (grown_trans HG2.out hg7))⟩
                  · have E5 : Hid (valueP 0 (decide (vs.length = ins.length)) vs tS dS os = .ok (tt, dd)) := by show _ = _; rw [E4.out, ← hst, List.drop_of_length_le (by omega)]; rfl
                    have G7 := hide (grown_trans G6.out hg)
                    obtain ⟨n0, n1, n2, n3, n4⟩ := nod_cells (n := ⟨op, nam, ⟨ia, ins.length, ic⟩, out, ⟨ao, al, cap⟩⟩) (BX.out wr G7.out).1
                    have NV := hide (newvalue_any out tt ⟨s1, s2, s3⟩ dd wr (HS.out.more (grown_trans HG56.out hg)) ho)
                    simp only at NV
                    clear hst hg
                    go_wp2_with (first | (go_at_call 52; refine NV.out.mono ?_; rintro e w8 ⟨⟨r1, r2, r3⟩, rfl, hr, hg8⟩; simp only; have G8 := grown_trans G7.out hg8; have B8 := (BX.out w8 G8).2; obtain ⟨f0, f1, f2⟩ := ten_frozen B8; have c0 := (cell_of_row _ _ 0 _ _ (0, 0) B8).trans rfl; have c1 := (cell_of_row _ _ 1 _ _ (0, 0) B8).trans rfl; have c2 := (cell_of_row _ _ 2 _ _ (0, 0) B8).trans rfl) | fail)
                    obtain ⟨hX, gX⟩ := store3t (.string out) (.int .i64 tt) (.slice r1 r2 r3) B8
                    have gf : w.grownBy _ none := grown_drop (grown_trans g0.out G8) gX (by omega)
                    refine bodyPost_ret (ret_val rfl _ _ (w.heap.size + 1) rfl hX) rfl ?_
                    refine ended_ok E5.out gf ⟨⟨r1, r2, r3⟩, rfl, ?_⟩
                    have hb : w.heap.size + 1 < wr.heap.size := (Array.getElem?_eq_some_iff.1 (BX.out wr G7.out).2).1
                    have h := (hr.base_le (b' := w.heap.size + 2) (by omega)).more gX (by
                      rcases hr.1.2 with ⟨e, -⟩ | ⟨gg, cap', cur, e, hgg, -⟩
                      · exact .inl (by rw [e]; rfl)
                      · exact .inr (by rw [e]; simp [Value.ownBlock]; omega))
                    exact h.base_le (by omega)
    · have bl : ((vs.length : Int) == (ins.length : Int)) = false := by simpa using (fun h => hlen (by omega) : ¬ (vs.length : Int) = ins.length)
      have E0 : Hid (valueP 0 (decide (vs.length = ins.length)) vs tS dS os = .error 4) := by show _ = _; unfold valueP; simp [stopP, mustP, hlen]; rfl
      clear hlen
      go_wp2_with (first | (go_at_call 43; refine (stop_ok _).mono ?_; rintro e w' ⟨rfl, rfl⟩) | (go_at_call 45; refine (must_no _).mono ?_; rintro e w' ⟨rfl, rfl⟩) | fail)
      exact ⟨rfl, ended_err E0.out (grown_trans g0.out G1.out)⟩
  · have E0 : Hid (valueP ck (decide (vs.length = ins.length)) vs tS dS os = .error ck) := by show _ = _; unfold valueP; simp [stopP, hc0]; rfl
    have HC := hide hc0
    clear hc0
    go_wp2_with (first | (go_at_call 43; refine (stop_err _ HC.out _).mono ?_; rintro e w' ⟨rfl, rfl⟩) | fail)
    exact ⟨rfl, ended_err E0.out (grown_trans g0.out G1.out)⟩
end Go.Proofs.YtdcbjikjeicgbaaGreatDoor

/- The tensor of a Constant, by the walk. -/
namespace Go.Proofs.YtdcbjikjeicgbaaGreatDoor
open Go.RowKit

/-- The attribute that holds a node's tensor, or one without. -/
def valA (A : At) : Atr := (A.xs.find? (isA ⟨#[118, 97, 108, 117, 101]⟩ 4)).getD noAtr

theorem find_none_of {xs : List Atr} {P : Atr → Bool} (h : ∀ j (hj : j < xs.length), P xs[j] = false) : xs.find? P = none := by
  rw [List.find?_eq_none]
  intro a ha
  obtain ⟨j, hj, rfl⟩ := List.mem_iff_getElem.1 ha
  simpa using h j hj

theorem find_first_of {P : Atr → Bool} : ∀ {xs : List Atr} {k : Nat} (hk : k < xs.length), (∀ j (hj : j < xs.length), j < k → P xs[j] = false) → P xs[k] = true → xs.find? P = some xs[k]
  | a :: l, 0, _, _, h => by simp only [List.getElem_cons_zero] at h ⊢; rw [List.find?_cons_of_pos h]
  | a :: l, k + 1, hk, h0, h => by
    have ha := h0 0 (by simp) (by omega)
    simp only [List.getElem_cons_zero] at ha
    rw [List.find?_cons_of_neg (by simpa using ha)]
    simp only [List.getElem_cons_succ] at h ⊢
    exact find_first_of (by simpa using hk) (fun j hj hjk => by have := h0 (j + 1) (by simpa using hj) (by omega); simpa using this) h

theorem ten_field0 (t : Int) (b c : Value) (W : World) : (Instr.field 55 (.agg #[.int .i64 t, b, c]) 0).run Tryz.prog W = .ok (.int .i64 t) W := by kernel_rfl

theorem ten_field1 (t : Int) (a : Option Addr) (n m : Nat) (c : Value) (W : World) : (Instr.field 55 (.agg #[.int .i64 t, .slice a n m, c]) 1).run Tryz.prog W = .ok (.slice a n m) W := by kernel_rfl

theorem grown_drop2 {a b c : World} {B : Nat} (h : a.grownBy b none) (k : b.grownBy c (some B)) (hb : a.heap.size ≤ B) : a.grownBy c none := grown_trans_row h k (fun r e => by cases e; exact hb)

set_option maxRecDepth 100000 in
set_option maxHeartbeats 2000000 in
theorem attrvalue_any (n : Nod) (A : At) (w : World) (hn : NodeOk w n A) : Calls Tryz.prog 91 #[nval n] w fun e w' => e = .returned (.agg #[.int .i64 (valA A).ty, .slice (valA A).dv.a (valA A).dv.n (valA A).dv.c, .slice (valA A).tv.a (valA A).tv.n (valA A).tv.c]) ∧ w.grownBy w' none := by
  have HA := hide hn.attrs
  obtain ⟨op, nam, ⟨ia, il, ic⟩, out, ⟨ao, al, cap⟩⟩ := n
  unfold nval
  simp only at HA ⊢
  obtain ⟨ao', cap', hav, h1, h2, h3⟩ := HA.out.form
  obtain ⟨rfl, rfl, rfl⟩ : ao = ao' ∧ al = A.xs.length ∧ cap = cap' := by simpa [Sl.v] using hav
  clear hav hn
  obtain ⟨w0, hw0⟩ : ∃ w0, w0 = (w.alloc (.cells #[.string op, .string nam, .slice ia il ic, .string out, .slice ao A.xs.length cap] 25)).alloc (.cells #[.int .i64 0, .slice none 0 0, .slice none 0 0] 55) := ⟨_, rfl⟩
  have g0 : w.grownBy w0 none := by rw [hw0]; exact grown_trans (grown_new _ _) (grown_new _ _)
  have hbx := two_boxes w (.cells #[.string op, .string nam, .slice ia il ic, .string out, .slice ao A.xs.length cap] 25) (.cells #[.int .i64 0, .slice none 0 0, .slice none 0 0] 55)
  rw [← hw0] at hbx
  have BX := hide hbx
  obtain ⟨xs, hxs⟩ : ∃ xs, xs = A.xs := ⟨_, rfl⟩
  have EV : Hid (valA A = (xs.find? (isA ⟨#[118, 97, 108, 117, 101]⟩ 4)).getD noAtr) := by show _ = _; rw [hxs]; rfl
  rw [← hxs] at HA h1 h3 BX hw0 ⊢
  clear hxs hbx
  go_enter Tryz.func91, Tryz.ntmps91
  go_wp2
  rw [← hw0]
  clear hw0
  go_loopw [8] (fun i wr => ∃ k : Nat, k ≤ xs.length ∧ i = .int .i64 k ∧ (∀ j (hj : j < xs.length), j < k → isA ⟨#[118, 97, 108, 117, 101]⟩ 4 xs[j] = false) ∧ w0.grownBy wr none) (fun i _ => xs.length - (intOf i).toNat)
  case atStart => exact ⟨0, Nat.zero_le _, rfl, fun j hj h => absurd h (by omega), grown_refl _⟩
  case round =>
    obtain ⟨k, hk, rfl, hall, hg⟩ := hrel
    have HL := hide hall
    have HG := hide hg
    have BW := hide (And.intro (box_kept BX.out.1 hg) (box_kept BX.out.2 hg))
    by_cases hkl : k < xs.length
    · have HV1 := HA.out.more (grown_trans g0 hg)
      obtain ⟨b, off, rfl⟩ := HV1.addr hkl
      obtain ⟨a0, a1, a2, a3, a4, a5, a6, a7, a8⟩ := HV1.attr k hkl
      obtain ⟨a, ha⟩ : ∃ a, a = xs[k] := ⟨_, rfl⟩
      rw [← ha] at a0 a1 a2 a3 a4 a5 a6 a7 a8
      have HAA := hide ha
      obtain ⟨an, ak, af, ai, as', aty, ⟨d1, d2, d3⟩, ⟨t1, t2, t3⟩, ⟨i1, i2, i3⟩⟩ := a
      simp only at a0 a1 a2 a3 a4 a5 a6 a7 a8
      clear hall hg HV1 ha
      cases hnm : (an.toList == [118, 97, 108, 117, 101]) with
      | false =>
        have HN : Hid (∀ j (hj : j < xs.length), j < k + 1 → isA ⟨#[118, 97, 108, 117, 101]⟩ 4 xs[j] = false) := fun j hj h => by
          rcases lt_succ_cases h with h | rfl
          · exact HL.out j hj h
          · rw [← HAA.out]; simp only [isA, bytes_toList] at hnm ⊢; rw [hnm]; rfl
        go_wp2
        go_roundw
        case rel => exact ⟨k + 1, by omega, by go_num, HN.out, grown_trans HG.out (grown_new _ _)⟩
        case measure => simp [intOf]; omega
      | true =>
        cases hkd : (ak == 4) with
        | false =>
          have HN : Hid (∀ j (hj : j < xs.length), j < k + 1 → isA ⟨#[118, 97, 108, 117, 101]⟩ 4 xs[j] = false) := fun j hj h => by
            rcases lt_succ_cases h with h | rfl
            · exact HL.out j hj h
            · rw [← HAA.out]; simp only [isA]; rw [hkd]; simp
          go_wp2
          go_roundw
          case rel => exact ⟨k + 1, by omega, by go_num, HN.out, grown_trans HG.out (grown_new _ _)⟩
          case measure => simp [intOf]; omega
        | true =>
          have E : Hid (valA A = xs[k]) := by
            show _ = _
            rw [EV.out, find_first_of hkl HL.out (by rw [← HAA.out]; simp only [isA, bytes_toList] at hnm ⊢; rw [hnm, hkd]; rfl)]
            rfl
          have B2 := box_kept BW.out.2 (grown_new wr (.cells #[.string an, .int .i64 ak, .int .i64 af, .int .i64 ai, .string as', .int .i64 aty, .slice d1 d2 d3, .slice t1 t2 t3, .slice i1 i2 i3] 57))
          have gw1 : w.grownBy (wr.alloc (.cells #[.string an, .int .i64 ak, .int .i64 af, .int .i64 ai, .string as', .int .i64 aty, .slice d1 d2 d3, .slice t1 t2 t3, .slice i1 i2 i3] 57)) none := grown_trans (grown_trans g0 HG.out) (grown_new _ _)
          obtain ⟨f0, f1, f2⟩ := ten_frozen B2
          obtain ⟨c0, c1, c2⟩ := ten_cells B2
          obtain ⟨hX, gX⟩ := store3t (.int .i64 aty) (.slice d1 d2 d3) (.slice t1 t2 t3) B2
          have HX := hide hX
          have GX := hide (grown_drop2 gw1 gX (by omega))
          clear hX gX gw1 B2
          go_wp2
          refine bodyPost_ret (ret_ten rfl _ _ (w.heap.size + 1) rfl HX.out) rfl ?_
          exact ⟨by rw [E.out, ← HAA.out], GX.out⟩
    · have E : Hid (valA A = noAtr) := by
        show _ = _
        rw [EV.out, find_none_of (fun j hj => HL.out j hj (by omega))]
        rfl
      obtain ⟨f0, f1, f2⟩ := ten_frozen BW.out.2
      obtain ⟨c0, c1, c2⟩ := ten_cells BW.out.2
      obtain ⟨hX, gX⟩ := store3t (.int .i64 0) (.slice none 0 0) (.slice none 0 0) BW.out.2
      have HX := hide hX
      have GX := hide (grown_drop2 (grown_trans g0 HG.out) gX (by omega))
      clear hX gX hall hg
      go_wp2
      refine bodyPost_ret (ret_ten rfl _ _ (w.heap.size + 1) rfl HX.out) rfl ?_
      exact ⟨by rw [E.out]; rfl, GX.out⟩
end Go.Proofs.YtdcbjikjeicgbaaGreatDoor
