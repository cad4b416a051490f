/- Read, by the walk. -/
import Derived.Test.YteigfipgmghgmaaGreatDoorVwInv
namespace Go.Proofs.YteigfipgmghgmaaGreatDoor.Vw
open Go.RowKit Go.Shelf

attribute [local go_sem] Oper.semAt_some

theorem info64 : (Tryz.prog.info? 2).map (fun i => (i.zero, i.size, i.bytes)) = some (some (.int .i64 0), 1, 8) := by kernel_rfl

/-- A list of numbers of 64 bits of the call's own. -/
def Owns64 (w : World) (base : Nat) (v : Value) (zs : List Int) : Prop :=
  w.ownsRow base 2 1 v zs.length (zs.map (Value.int .i64)) ∧ zs.length * 8 ≤ 140737488351232 ∧ (∀ z ∈ zs, -9223372036854775808 ≤ z ∧ z ≤ 9223372036854775807)

theorem owns64_nil (w : World) (base : Nat) : Owns64 w base (.slice none 0 0) [] := ⟨World.ownsRow_nil _ _ _ _, by simp, fun z hz => by simp at hz⟩

/-- What a view shows of some data. -/
def shows (off : Int) (ds ss data : List Int) : List Int := (plc ds ss off).map (fun x => data.getD x.toNat 0)
def rdOk (off : Int) (ds ss data : List Int) : Bool := mayB off ds ss && decide (off + lst ds ss < data.length)
def rdE (off : Int) (ds ss data : List Int) : Int := if rdOk off ds ss data = true then 0 else 1
def rdL (off : Int) (ds ss data : List Int) : List Int := if rdOk off ds ss data = true then shows off ds ss data else []

theorem shows_cl {off : Int} {ds ss data : List Int} (hm : MayV off ds ss) (hl : off + lst ds ss < data.length) :
    (plc ds ss off).map (fun x => data.getD (cl data.length x).toNat 0) = (plc ds ss off).map (fun x => data.getD x.toNat 0) := by
  refine List.map_congr_left fun x hx => ?_
  obtain ⟨h1, h2⟩ := plc_mem ds ss off (fun y hy => (hm.str y hy).1) hm.fine.pos x hx
  have := hm.lo
  rw [cl_same (by omega) (by omega)]

theorem getD_wf {data : List Int} (h : ∀ z ∈ data, -9223372036854775808 ≤ z ∧ z ≤ 9223372036854775807) (i : Nat) : -9223372036854775808 ≤ data.getD i 0 ∧ data.getD i 0 ≤ 9223372036854775807 := by
  by_cases hi : i < data.length
  · exact h _ (by rw [List.getD, List.getElem?_eq_getElem hi]; simp)
  · rw [List.getD, List.getElem?_eq_none (by omega)]
    simp

theorem shows_wf {off : Int} {ds ss data : List Int} (h : ∀ z ∈ data, -9223372036854775808 ≤ z ∧ z ≤ 9223372036854775807) : ∀ z ∈ shows off ds ss data, -9223372036854775808 ≤ z ∧ z ≤ 9223372036854775807 := by
  intro z hz
  obtain ⟨x, _, rfl⟩ := List.mem_map.1 hz
  exact getD_wf h _

theorem ret_read1 {off : Int} {ds ss data : List Int} {w w' : World} (h : rdOk off ds ss data = false) (hg : w.grownBy w' none) :
    ∃ u, Ending.returned (.tuple #[.slice none 0 0, .int .i64 1]) = .returned (.tuple #[u, .int .i64 (rdE off ds ss data)]) ∧ Owns64 w' w.heap.size u (rdL off ds ss data) ∧ w.grownBy w' none :=
  ⟨.slice none 0 0, by simp [rdE, h], by simp only [rdL, h]; exact owns64_nil _ _, hg⟩

/-- As Q, where nothing panics. -/
def noPanic (Q : Exit → Act → World → Prop) : Exit → Act → World → Prop
  | .normal, a, w => Q .normal a w
  | .ret, a, w => Q .ret a w
  | _, _, _ => False
theorem noPanic_le {Q : Exit → Act → World → Prop} : ∀ (e : Exit) (a : Act) (w : World), noPanic Q e a w → Q e a w
  | .normal, _, _, h => h
  | .ret, _, _, h => h
  | .exit _, _, _, h => h.elim
  | .goto _, _, _, h => h.elim
  | .panic _, _, _, h => h.elim
  | .outgrown, _, _, h => h.elim
theorem noPanic_ret {Q : Exit → Act → World → Prop} {a : Act} {w : World} (h : Q .ret a w) : noPanic Q .ret a w := h

theorem kpv_put {A B l : Nat} {W : World} {o o' : Obj} (ho : W.heap[l]? = some o) (hc : o.isCells = false) : Kpv A B W (W.putObj l o') := by
  have hg := grownBy_putObj' W l o'
  refine ⟨hg.size, fun k x hk hx _ _ => (hg.block k (Array.getElem?_eq_some_iff.1 hk).1 (fun e => ?_)).trans hk⟩
  injection e with e
  subst e
  rw [ho] at hk
  cases hk
  rw [hc] at hx
  cases hx

set_option maxRecDepth 100000 in
set_option maxHeartbeats 16000000 in
theorem read_any (off : Int) (ds ss data : List Int) (v xv : Value) (w : World) (h : IsView w v off ds ss) (hx : IsInts w xv data) :
    Calls Tryz.prog 38 #[v, xv] w fun e w' => ∃ u, e = .returned (.tuple #[u, .int .i64 (rdE off ds ss data)]) ∧ Owns64 w' w.heap.size u (rdL off ds ss data) ∧ w.grownBy w' none := by
  obtain ⟨i0, hi, hz0, hz1, hz2⟩ := info_parts info64
  have hv := h
  obtain ⟨dv, sv, rfl, hd, hs, ho1, ho2⟩ := h
  have hx0 := hx
  obtain ⟨xo, xcap, rfl, hx1, hx2, hx3, -, -, -⟩ := hx
  have g1 := grown_new w (.cells #[.int .i64 off, dv, sv] 76)
  have g2 := grown_trans g1 (grown_new _ (.cells #[.slice xo data.length xcap] 30))
  obtain ⟨w2, hw2⟩ : ∃ w2, w2 = (w.alloc (.cells #[.int .i64 off, dv, sv] 76)).alloc (.cells #[.slice xo data.length xcap] 30) := ⟨_, rfl⟩
  have b0 : w2.heap[w.heap.size]? = some (.cells #[.int .i64 off, dv, sv] 76 (0, 0)) := by
    rw [hw2, Below.heap_alloc _ _ _ (by simp)]
    exact heap_alloc_new w _
  have b1 : w2.heap[w.heap.size + 1]? = some (.cells #[.slice xo data.length xcap] 30 (0, 0)) := by
    rw [hw2]
    have := heap_alloc_new (w.alloc (.cells #[.int .i64 off, dv, sv] 76)) (.cells #[.slice xo data.length xcap] 30)
    simpa using this
  have hs2 : w.heap.size + 2 ≤ w2.heap.size := by rw [hw2]; simp
  rw [← hw2] at g2
  have MB : Hid (∀ wx, w2.grownBy wx none → Calls Tryz.prog 39 #[.agg #[.int .i64 off, dv, sv]] wx fun e w' => e = .returned (.bool (mayB off ds ss)) ∧ wx.grownBy w' none) :=
    fun wx hg => mayBe_any _ off ds ss wx (hv.more (grown_trans g2 hg))
  have VC : Hid (∀ wx, w2.grownBy wx none → wx.cell? ⟨w.heap.size, 0, none⟩ = some (.int .i64 off) ∧ wx.cell? ⟨w.heap.size, 1, none⟩ = some dv ∧ wx.cell? ⟨w.heap.size, 2, none⟩ = some sv ∧ wx.cell? ⟨w.heap.size + 1, 0, none⟩ = some (.slice xo data.length xcap)) := by
    intro wx hg
    have e0 := (hg.block w.heap.size (Array.getElem?_eq_some_iff.1 b0).1 (by simp)).trans b0
    have e1 := (hg.block (w.heap.size + 1) (Array.getElem?_eq_some_iff.1 b1).1 (by simp)).trans b1
    exact ⟨(cell_of_row _ _ 0 _ _ (0, 0) e0).trans rfl, (cell_of_row _ _ 1 _ _ (0, 0) e0).trans rfl, (cell_of_row _ _ 2 _ _ (0, 0) e0).trans rfl, (cell_of_row _ _ 0 _ _ (0, 0) e1).trans rfl⟩
  have HV := hide hv
  have HX := hide hx0
  obtain ⟨c0, c1, c2, cd⟩ := VC.out w2 (grown_refl _)
  have gd := grown_drew (grown_refl w2)
  clear hv hx0 b0 b1
  by_cases hM : mayB off ds ss = true
  · rw [hM] at MB
    have HMV := hide (mayB_iff.1 hM)
    have LA : Hid (∀ wx, w2.grownBy wx none → Calls Tryz.prog 65 #[.agg #[.int .i64 off, dv, sv]] wx fun e w' => e = .returned (.int .i64 (off + lst ds ss)) ∧ wx.grownBy w' none) :=
      fun wx hg => last_any _ off ds ss wx (HV.out.more (grown_trans g2 hg)) HMV.out
    have hln := lst_nonneg ds ss HMV.out.fine.pos (fun y hy => (HMV.out.str y hy).1)
    obtain ⟨T, hT⟩ : ∃ T, T = lst ds ss := ⟨_, rfl⟩
    rw [← hT] at LA hln
    have HT := hide hT
    have hlo := HMV.out.lo
    have hhi := HMV.out.hi
    clear hT
    by_cases hlt : off + T < data.length
    · have HOK : Hid (rdOk off ds ss data = true) := by simp only [Hid, rdOk, hM, ← HT.out]; simpa using hlt
      clear hM
      have CN : Hid (∀ wx, w2.grownBy wx none → Calls Tryz.prog 44 #[dv] wx fun e w' => e = .returned (.tuple #[.int .i64 (prod ds), .int .i64 0]) ∧ wx = w') := by
        intro wx hg
        have := count_any dv ds wx (hd.more (grown_trans g2 hg))
        rw [HMV.out.fine.cnt, HMV.out.fine.ok] at this
        exact this
      have hb2 : i0.bytes * (prod ds).toNat ≤ 281474976710656 := by have := HMV.out.fine.le; have := HMV.out.fine.prod_pos; rw [hz2]; omega
      have hb3 : (prod ds).toNat ≤ maxLen := by have := HMV.out.fine.le; simp only [maxLen]; omega
      have hpp := HMV.out.fine.prod_pos
      have hpn : prod ds = (((prod ds).toNat : Nat) : Int) := by omega
      have HPN := hide hpn
      clear hpn
      have PL : Hid (∀ wx, Calls Tryz.prog 66 #[.agg #[.int .i64 off, dv, sv]] wx fun e w' => e = .returned (.func (.func 96) #[] #[.pointer (some ⟨wx.heap.size, 0, none⟩)]) ∧ wx.alloc (.cells #[.int .i64 off, dv, sv] 76) = w') :=
        fun wx => (places_any off dv sv wx).mono (fun e w' h => ⟨h.1, h.2.symm⟩)
      have HLEN : Hid ((plc ds ss off).length = (prod ds).toNat) := plc_length ds ss off HMV.out.len HMV.out.fine.pos
      have ADD : Hid (∀ (Bs g : Nat) (u : Value) (zs : List Int), IsInts w u zs → w.heap.size ≤ Bs → w.heap.size ≤ g → Away Bs g u zs) := fun Bs g u zs hu h1 h2 hne b hb => by
        have := ints_lt hu hne b hb
        omega
      refine (callsIn_wide (n := 5)).1 ?_
      refine callsIn_of_wp_marks Tryz.func38 rfl trivial ?_ rfl
      simp only [Tryz.ntmps38, List.size_toArray, List.length_cons, List.length_nil, Nat.reduceAdd, Nat.reduceSub, Array.replicate_succ, Array.replicate_zero, List.push_toArray, List.append_toArray, List.nil_append, List.cons_append]
      refine wpIn_mono (wpIn_wide.2 ?_) noPanic_le
      go_wp2
      rw [← hw2]
      have HW2 := hide hw2
      clear hw2
      go_region_with (first | (go_at_call 39; refine (MB.out _ (by exact gd)).mono ?_; rintro e w4 ⟨rfl, hg4⟩; have g24 := grown_trans gd hg4; obtain ⟨d0, d1, d2, dd⟩ := VC.out w4 g24) | (go_at_call 65; refine (LA.out _ (by exact g24)).mono ?_; rintro e w5 ⟨rfl, hg5⟩; have g25 := grown_trans g24 hg5; obtain ⟨e0, e1, e2, ed⟩ := VC.out w5 g25))
      · skip
        have hz5 : w.heap.size ≤ w5.heap.size := (grown_trans g2 g25).size
        go_wp2_with (first | (go_at_call 44; refine (CN.out _ (by exact g25)).mono ?_; rintro e w' ⟨rfl, rfl⟩) | (refine wpList_make_own _ rfl (.const (.int .i64 0)) (.tmp 26) 30 rfl w.heap.size 2 i0 (.int .i64 0) 1 Tryz.underlying30 hi hz0 hz1 .i64 .i64 _ (prod ds).toNat rfl rfl HPN.out hb2 hb3 hz5 ?_; intro w6 hown6 hg6; have g26 := grown_trans g25 hg6; obtain ⟨f0, f1, f2, fd⟩ := VC.out w6 g26; have hs6 : w.heap.size + 2 ≤ w6.heap.size := Nat.le_trans hs2 g26.size; obtain ⟨k0, k1, k2, kd⟩ := VC.out (w6.alloc (.cells #[.slice (some ⟨w5.heap.size, 0, none⟩) 0 (prod ds).toNat] 30)) (grown_trans g26 (grown_new _ _))) | (go_at_call 66; refine (PL.out _).mono ?_; rintro e w' ⟨rfl, rfl⟩))
        have hs5 : w.heap.size ≤ w5.heap.size := hz5
        have h56 := hg6.size
        obtain ⟨W7, hW7⟩ : ∃ W7, W7 = (w6.alloc (.cells #[.slice (some ⟨w5.heap.size, 0, none⟩) 0 (prod ds).toNat] 30)).alloc (.cells #[.int .i64 off, dv, sv] 76) := ⟨_, rfl⟩
        have g67 : w6.grownBy W7 none := by rw [hW7]; exact grown_trans (grown_new _ _) (grown_new _ _)
        have g07 : w.grownBy W7 none := grown_trans g2 (grown_trans g26 g67)
        have hs7 : W7.heap.size = w6.heap.size + 2 := by rw [hW7]; simp
        have hg5lt : w5.heap.size < w6.heap.size := by
          obtain ⟨_, o, ho, _⟩ := row_cells hown6
          exact (Array.getElem?_eq_some_iff.1 ho).1
        have bS : Boxed W7 w6.heap.size 30 (.slice (some ⟨w5.heap.size, 0, none⟩) 0 (prod ds).toNat) := by
          rw [hW7]; exact (Boxed.new w6 _ _).alloc _
        have bP : W7.heap[w6.heap.size + 1]? = some (.cells #[.int .i64 off, dv, sv] 76 (0, 0)) := by
          rw [hW7]
          have := heap_alloc_new (w6.alloc (.cells #[.slice (some ⟨w5.heap.size, 0, none⟩) 0 (prod ds).toNat] 30)) (.cells #[.int .i64 off, dv, sv] 76)
          simpa using this
        rw [← hW7]
        have HS7 := hide hs7
        have hdat := (VC.out W7 (grown_trans g26 g67)).2.2.2
        have hrow7 := hown6.kept g67 (Or.inr (by simp [Value.ownBlock]))
        clear hW7 hs7 f0 f1 f2 fd k0 k1 k2 kd d0 d1 d2 dd e0 e1 e2 ed c0 c1 c2 cd
        have hxL : (0 : Int) < data.length := by omega
        obtain ⟨bx, ox, rfl⟩ := addr_of HX.out (by omega)
        refine (wpIn_wide (n := 5)).1 ?_
        refine wpIn_rangeFunc_ownG rfl (by decide) (gf := 96) (lb := #[.pointer (some ⟨w6.heap.size + 1, 0, none⟩)]) rfl trivial (enters_of Tryz.func96 (by kernel_rfl) rfl)
          (seq_stops 4 data.length (by omega) w6.heap.size w5.heap.size off dv sv ds ss HMV.out (ADD.out _ _ _ _ hd (by omega) (by omega)) (ADD.out _ _ _ _ hs (by omega) (by omega)) (w6.heap.size + 1) W7 (hd.more g07) (hs.more g07) (by have := HS7.out; omega) (by have := HS7.out; omega) (by have := HS7.out; omega) (by rw [← HT.out]; exact hlt)
            ((cell_of_row _ _ 0 _ _ (0, 0) bP).trans rfl) ((cell_of_row _ _ 1 _ _ (0, 0) bP).trans rfl) ((cell_of_row _ _ 2 _ _ (0, 0) bP).trans rfl))
          (fun h k => h.trans k) (fun W l o o' _ ho hc _ => kpv_put ho hc) (Below.refl _ _) (fun _ => rfl)
          (fun pre W => RInv w w6.heap.size w5.heap.size (prod ds).toNat (w.heap.size + 1) (.slice (some ⟨bx, ox, none⟩) data.length xcap) data (pre.map (fun x => data.getD (cl data.length x).toNat 0)) W)
          (fun _ _ _ => False) (fun s A B row hs hg hr => hs.turn hg hr (by have := HS7.out; omega)) (fun _ _ _ _ _ hs _ _ => hs)
          ⟨by simpa using bS, by simpa using hrow7, hdat, HX.out.more g07, g07⟩ ?a11 ?assign1 ?body1 ?done1 ?stop1
        case assign1 =>
          intro l x W K hK
          gi_wp2
          exact hK
        case body1 =>
          rintro l pre x W hinv hlt7
          obtain ⟨xi, hxi⟩ : ∃ xi : Nat, cl data.length x = xi := ⟨(cl data.length x).toNat, by have := cl_in hxL x; omega⟩
          have hxi2 : xi < data.length := by have := cl_in hxL x; omega
          have hk7 : (pre.map (fun x => data.getD (cl data.length x).toNat 0)).length + 1 ≤ (prod ds).toNat := by have := HLEN.out; simp; omega
          have hgr := hinv.gr.size
          have it := item_at hinv.ints hxi2
          obtain ⟨y, hy⟩ : ∃ y, y = data.getD xi 0 := ⟨_, rfl⟩
          rw [← hy] at it
          have HY : Hid ((pre ++ [x]).map (fun x => data.getD (cl data.length x).toNat 0) = pre.map (fun x => data.getD (cl data.length x).toNat 0) ++ [y]) := by
            show _ = _
            simp [hxi, hy]
          obtain ⟨ys, hys⟩ : ∃ ys, ys = pre.map (fun x => data.getD (cl data.length x).toNat 0) := ⟨_, rfl⟩
          rw [← hys] at hinv HY hk7
          have hs25 : w.heap.size + 2 ≤ w5.heap.size := Nat.le_trans hs2 g25.size
          have hc := hinv.box.cell
          have hf := hinv.box.frozen
          have hcA := (hinv.box.alloc (.cells #[.int .i64 y] 2)).cell
          have hltB := hinv.box.lt
          have hdd := hinv.dat
          have HI := hide hinv
          obtain ⟨⟨cc, hcc⟩, hff, hown1, hgrow1⟩ := row_push (hinv.row.alloc (.cells #[.int .i64 y] 2)) hk7 (.int .i64 y)
          obtain ⟨b1, i1, ko1, kp1⟩ := HI.out.push (y := y) (w1 := ((W.alloc (.cells #[.int .i64 y] 2)).setCell ⟨w5.heap.size, ys.length, none⟩ (.int .i64 y)).drew) (by omega) (by omega) (by omega) (ADD.out _ _ _ _ HX.out (by omega) (by omega)) (by simpa using hown1.drew) ⟨hgrow1.os, hgrow1.tape, hgrow1.output, hgrow1.size, hgrow1.block⟩
          have hc1 : ((W.alloc (.cells #[.int .i64 y] 2)).setCell ⟨w5.heap.size, ys.length, none⟩ (.int .i64 y)).cell? ⟨w6.heap.size, 0, none⟩ = some (.slice (some ⟨w5.heap.size, 0, none⟩) ys.length (prod ds).toNat) := b1.cell
          have hf1 : ((W.alloc (.cells #[.int .i64 y] 2)).setCell ⟨w5.heap.size, ys.length, none⟩ (.int .i64 y)).frozen? ⟨w6.heap.size, 0, none⟩ = false := b1.frozen
          have I1 := hide i1
          have KO1 := hide ko1
          have KP1 := hide kp1
          simp only [hxi]
          clear hinv hys hy hxi hlt7 hown1 hgrow1 b1 i1 ko1 kp1
          gi_wp2
          gi_region_with (fail)
          all_goals exact ⟨KO1.out.from _, KP1.out, by dsimp only; rw [HY.out]; exact I1.out⟩
        case done1 =>
          rintro D zs W hD rfl hinv hK
          have hc := hinv.box.cell
          have HI := hide hinv
          clear hinv
          go_wp2
          refine noPanic_ret ?_
          refine ⟨by simp, .inl ⟨_, _, rfl, run_takeDeferred hK, ?_⟩⟩
          refine ⟨_, results_tmp2 rfl _ _ _, ?_⟩
          refine ⟨.slice (some ⟨w5.heap.size, 0, none⟩) (plc ds ss off).length (prod ds).toNat, by simp only [rdE, HOK.out, if_true]; rfl, ⟨?_, ?_, ?_⟩, grown_trans_row HI.out.gr (grownBy_putObj' W D (.deferred none)) (fun r e => by cases e; have := HS7.out; omega)⟩
          · have h1 := ownsRow_putObj HI.out.row (.deferred none) hK rfl
            rw [shows_cl HMV.out (by rw [← HT.out]; exact hlt)] at h1
            rw [List.length_map] at h1
            simp only [rdL, HOK.out, if_true]
            simpa [shows] using h1
          · have h1 := HLEN.out
            have h2 := HMV.out.fine.le
            simp only [rdL, HOK.out, if_true, shows, List.length_map]
            omega
          · simp only [rdL, HOK.out, if_true]
            exact shows_wf HX.out.wf
        case stop1 =>
          rintro D c pre W _ _ h _
          exact h.elim
      · skip
        have hz5 : w.heap.size ≤ w5.heap.size := (grown_trans g2 g25).size
        go_wp2_with (first | (go_at_call 44; refine (CN.out _ (by exact g25)).mono ?_; rintro e w' ⟨rfl, rfl⟩) | (refine wpList_make_own _ rfl (.const (.int .i64 0)) (.tmp 26) 30 rfl w.heap.size 2 i0 (.int .i64 0) 1 Tryz.underlying30 hi hz0 hz1 .i64 .i64 _ (prod ds).toNat rfl rfl HPN.out hb2 hb3 hz5 ?_; intro w6 hown6 hg6; have g26 := grown_trans g25 hg6; obtain ⟨f0, f1, f2, fd⟩ := VC.out w6 g26; have hs6 : w.heap.size + 2 ≤ w6.heap.size := Nat.le_trans hs2 g26.size; obtain ⟨k0, k1, k2, kd⟩ := VC.out (w6.alloc (.cells #[.slice (some ⟨w5.heap.size, 0, none⟩) 0 (prod ds).toNat] 30)) (grown_trans g26 (grown_new _ _))) | (go_at_call 66; refine (PL.out _).mono ?_; rintro e w' ⟨rfl, rfl⟩))
        have hs5 : w.heap.size ≤ w5.heap.size := hz5
        have h56 := hg6.size
        obtain ⟨W7, hW7⟩ : ∃ W7, W7 = (w6.alloc (.cells #[.slice (some ⟨w5.heap.size, 0, none⟩) 0 (prod ds).toNat] 30)).alloc (.cells #[.int .i64 off, dv, sv] 76) := ⟨_, rfl⟩
        have g67 : w6.grownBy W7 none := by rw [hW7]; exact grown_trans (grown_new _ _) (grown_new _ _)
        have g07 : w.grownBy W7 none := grown_trans g2 (grown_trans g26 g67)
        have hs7 : W7.heap.size = w6.heap.size + 2 := by rw [hW7]; simp
        have hg5lt : w5.heap.size < w6.heap.size := by
          obtain ⟨_, o, ho, _⟩ := row_cells hown6
          exact (Array.getElem?_eq_some_iff.1 ho).1
        have bS : Boxed W7 w6.heap.size 30 (.slice (some ⟨w5.heap.size, 0, none⟩) 0 (prod ds).toNat) := by
          rw [hW7]; exact (Boxed.new w6 _ _).alloc _
        have bP : W7.heap[w6.heap.size + 1]? = some (.cells #[.int .i64 off, dv, sv] 76 (0, 0)) := by
          rw [hW7]
          have := heap_alloc_new (w6.alloc (.cells #[.slice (some ⟨w5.heap.size, 0, none⟩) 0 (prod ds).toNat] 30)) (.cells #[.int .i64 off, dv, sv] 76)
          simpa using this
        rw [← hW7]
        have HS7 := hide hs7
        have hdat := (VC.out W7 (grown_trans g26 g67)).2.2.2
        have hrow7 := hown6.kept g67 (Or.inr (by simp [Value.ownBlock]))
        clear hW7 hs7 f0 f1 f2 fd k0 k1 k2 kd d0 d1 d2 dd e0 e1 e2 ed c0 c1 c2 cd
        have hxL : (0 : Int) < data.length := by omega
        obtain ⟨bx, ox, rfl⟩ := addr_of HX.out (by omega)
        refine (wpIn_wide (n := 5)).1 ?_
        refine wpIn_rangeFunc_ownG rfl (by decide) (gf := 96) (lb := #[.pointer (some ⟨w6.heap.size + 1, 0, none⟩)]) rfl trivial (enters_of Tryz.func96 (by kernel_rfl) rfl)
          (seq_stops 4 data.length (by omega) w6.heap.size w5.heap.size off dv sv ds ss HMV.out (ADD.out _ _ _ _ hd (by omega) (by omega)) (ADD.out _ _ _ _ hs (by omega) (by omega)) (w6.heap.size + 1) W7 (hd.more g07) (hs.more g07) (by have := HS7.out; omega) (by have := HS7.out; omega) (by have := HS7.out; omega) (by rw [← HT.out]; exact hlt)
            ((cell_of_row _ _ 0 _ _ (0, 0) bP).trans rfl) ((cell_of_row _ _ 1 _ _ (0, 0) bP).trans rfl) ((cell_of_row _ _ 2 _ _ (0, 0) bP).trans rfl))
          (fun h k => h.trans k) (fun W l o o' _ ho hc _ => kpv_put ho hc) (Below.refl _ _) (fun _ => rfl)
          (fun pre W => RInv w w6.heap.size w5.heap.size (prod ds).toNat (w.heap.size + 1) (.slice (some ⟨bx, ox, none⟩) data.length xcap) data (pre.map (fun x => data.getD (cl data.length x).toNat 0)) W)
          (fun _ _ _ => False) (fun s A B row hs hg hr => hs.turn hg hr (by have := HS7.out; omega)) (fun _ _ _ _ _ hs _ _ => hs)
          ⟨by simpa using bS, by simpa using hrow7, hdat, HX.out.more g07, g07⟩ ?a12 ?assign2 ?body2 ?done2 ?stop2
        case assign2 =>
          intro l x W K hK
          gi_wp2
          exact hK
        case body2 =>
          rintro l pre x W hinv hlt7
          obtain ⟨xi, hxi⟩ : ∃ xi : Nat, cl data.length x = xi := ⟨(cl data.length x).toNat, by have := cl_in hxL x; omega⟩
          have hxi2 : xi < data.length := by have := cl_in hxL x; omega
          have hk7 : (pre.map (fun x => data.getD (cl data.length x).toNat 0)).length + 1 ≤ (prod ds).toNat := by have := HLEN.out; simp; omega
          have hgr := hinv.gr.size
          have it := item_at hinv.ints hxi2
          obtain ⟨y, hy⟩ : ∃ y, y = data.getD xi 0 := ⟨_, rfl⟩
          rw [← hy] at it
          have HY : Hid ((pre ++ [x]).map (fun x => data.getD (cl data.length x).toNat 0) = pre.map (fun x => data.getD (cl data.length x).toNat 0) ++ [y]) := by
            show _ = _
            simp [hxi, hy]
          obtain ⟨ys, hys⟩ : ∃ ys, ys = pre.map (fun x => data.getD (cl data.length x).toNat 0) := ⟨_, rfl⟩
          rw [← hys] at hinv HY hk7
          have hs25 : w.heap.size + 2 ≤ w5.heap.size := Nat.le_trans hs2 g25.size
          have hc := hinv.box.cell
          have hf := hinv.box.frozen
          have hcA := (hinv.box.alloc (.cells #[.int .i64 y] 2)).cell
          have hltB := hinv.box.lt
          have hdd := hinv.dat
          have HI := hide hinv
          obtain ⟨⟨cc, hcc⟩, hff, hown1, hgrow1⟩ := row_push (hinv.row.alloc (.cells #[.int .i64 y] 2)) hk7 (.int .i64 y)
          obtain ⟨b1, i1, ko1, kp1⟩ := HI.out.push (y := y) (w1 := ((W.alloc (.cells #[.int .i64 y] 2)).setCell ⟨w5.heap.size, ys.length, none⟩ (.int .i64 y)).drew) (by omega) (by omega) (by omega) (ADD.out _ _ _ _ HX.out (by omega) (by omega)) (by simpa using hown1.drew) ⟨hgrow1.os, hgrow1.tape, hgrow1.output, hgrow1.size, hgrow1.block⟩
          have hc1 : ((W.alloc (.cells #[.int .i64 y] 2)).setCell ⟨w5.heap.size, ys.length, none⟩ (.int .i64 y)).cell? ⟨w6.heap.size, 0, none⟩ = some (.slice (some ⟨w5.heap.size, 0, none⟩) ys.length (prod ds).toNat) := b1.cell
          have hf1 : ((W.alloc (.cells #[.int .i64 y] 2)).setCell ⟨w5.heap.size, ys.length, none⟩ (.int .i64 y)).frozen? ⟨w6.heap.size, 0, none⟩ = false := b1.frozen
          have I1 := hide i1
          have KO1 := hide ko1
          have KP1 := hide kp1
          simp only [hxi]
          clear hinv hys hy hxi hlt7 hown1 hgrow1 b1 i1 ko1 kp1
          gi_wp2
          gi_region_with (fail)
          all_goals exact ⟨KO1.out.from _, KP1.out, by dsimp only; rw [HY.out]; exact I1.out⟩
        case done2 =>
          rintro D zs W hD rfl hinv hK
          have hc := hinv.box.cell
          have HI := hide hinv
          clear hinv
          go_wp2
          refine noPanic_ret ?_
          refine ⟨by simp, .inl ⟨_, _, rfl, run_takeDeferred hK, ?_⟩⟩
          refine ⟨_, results_tmp2 rfl _ _ _, ?_⟩
          refine ⟨.slice (some ⟨w5.heap.size, 0, none⟩) (plc ds ss off).length (prod ds).toNat, by simp only [rdE, HOK.out, if_true]; rfl, ⟨?_, ?_, ?_⟩, grown_trans_row HI.out.gr (grownBy_putObj' W D (.deferred none)) (fun r e => by cases e; have := HS7.out; omega)⟩
          · have h1 := ownsRow_putObj HI.out.row (.deferred none) hK rfl
            rw [shows_cl HMV.out (by rw [← HT.out]; exact hlt)] at h1
            rw [List.length_map] at h1
            simp only [rdL, HOK.out, if_true]
            simpa [shows] using h1
          · have h1 := HLEN.out
            have h2 := HMV.out.fine.le
            simp only [rdL, HOK.out, if_true, shows, List.length_map]
            omega
          · simp only [rdL, HOK.out, if_true]
            exact shows_wf HX.out.wf
        case stop2 =>
          rintro D c pre W _ _ h _
          exact h.elim
      · skip
        have hz5 : w.heap.size ≤ w5.heap.size := (grown_trans g2 g25).size
        go_wp2_with (first | (go_at_call 44; refine (CN.out _ (by exact g25)).mono ?_; rintro e w' ⟨rfl, rfl⟩) | (refine wpList_make_own _ rfl (.const (.int .i64 0)) (.tmp 26) 30 rfl w.heap.size 2 i0 (.int .i64 0) 1 Tryz.underlying30 hi hz0 hz1 .i64 .i64 _ (prod ds).toNat rfl rfl HPN.out hb2 hb3 hz5 ?_; intro w6 hown6 hg6; have g26 := grown_trans g25 hg6; obtain ⟨f0, f1, f2, fd⟩ := VC.out w6 g26; have hs6 : w.heap.size + 2 ≤ w6.heap.size := Nat.le_trans hs2 g26.size; obtain ⟨k0, k1, k2, kd⟩ := VC.out (w6.alloc (.cells #[.slice (some ⟨w5.heap.size, 0, none⟩) 0 (prod ds).toNat] 30)) (grown_trans g26 (grown_new _ _))) | (go_at_call 66; refine (PL.out _).mono ?_; rintro e w' ⟨rfl, rfl⟩))
        have hs5 : w.heap.size ≤ w5.heap.size := hz5
        have h56 := hg6.size
        obtain ⟨W7, hW7⟩ : ∃ W7, W7 = (w6.alloc (.cells #[.slice (some ⟨w5.heap.size, 0, none⟩) 0 (prod ds).toNat] 30)).alloc (.cells #[.int .i64 off, dv, sv] 76) := ⟨_, rfl⟩
        have g67 : w6.grownBy W7 none := by rw [hW7]; exact grown_trans (grown_new _ _) (grown_new _ _)
        have g07 : w.grownBy W7 none := grown_trans g2 (grown_trans g26 g67)
        have hs7 : W7.heap.size = w6.heap.size + 2 := by rw [hW7]; simp
        have hg5lt : w5.heap.size < w6.heap.size := by
          obtain ⟨_, o, ho, _⟩ := row_cells hown6
          exact (Array.getElem?_eq_some_iff.1 ho).1
        have bS : Boxed W7 w6.heap.size 30 (.slice (some ⟨w5.heap.size, 0, none⟩) 0 (prod ds).toNat) := by
          rw [hW7]; exact (Boxed.new w6 _ _).alloc _
        have bP : W7.heap[w6.heap.size + 1]? = some (.cells #[.int .i64 off, dv, sv] 76 (0, 0)) := by
          rw [hW7]
          have := heap_alloc_new (w6.alloc (.cells #[.slice (some ⟨w5.heap.size, 0, none⟩) 0 (prod ds).toNat] 30)) (.cells #[.int .i64 off, dv, sv] 76)
          simpa using this
        rw [← hW7]
        have HS7 := hide hs7
        have hdat := (VC.out W7 (grown_trans g26 g67)).2.2.2
        have hrow7 := hown6.kept g67 (Or.inr (by simp [Value.ownBlock]))
        clear hW7 hs7 f0 f1 f2 fd k0 k1 k2 kd d0 d1 d2 dd e0 e1 e2 ed c0 c1 c2 cd
        have hxL : (0 : Int) < data.length := by omega
        obtain ⟨bx, ox, rfl⟩ := addr_of HX.out (by omega)
        refine (wpIn_wide (n := 5)).1 ?_
        refine wpIn_rangeFunc_ownG rfl (by decide) (gf := 96) (lb := #[.pointer (some ⟨w6.heap.size + 1, 0, none⟩)]) rfl trivial (enters_of Tryz.func96 (by kernel_rfl) rfl)
          (seq_stops 4 data.length (by omega) w6.heap.size w5.heap.size off dv sv ds ss HMV.out (ADD.out _ _ _ _ hd (by omega) (by omega)) (ADD.out _ _ _ _ hs (by omega) (by omega)) (w6.heap.size + 1) W7 (hd.more g07) (hs.more g07) (by have := HS7.out; omega) (by have := HS7.out; omega) (by have := HS7.out; omega) (by rw [← HT.out]; exact hlt)
            ((cell_of_row _ _ 0 _ _ (0, 0) bP).trans rfl) ((cell_of_row _ _ 1 _ _ (0, 0) bP).trans rfl) ((cell_of_row _ _ 2 _ _ (0, 0) bP).trans rfl))
          (fun h k => h.trans k) (fun W l o o' _ ho hc _ => kpv_put ho hc) (Below.refl _ _) (fun _ => rfl)
          (fun pre W => RInv w w6.heap.size w5.heap.size (prod ds).toNat (w.heap.size + 1) (.slice (some ⟨bx, ox, none⟩) data.length xcap) data (pre.map (fun x => data.getD (cl data.length x).toNat 0)) W)
          (fun _ _ _ => False) (fun s A B row hs hg hr => hs.turn hg hr (by have := HS7.out; omega)) (fun _ _ _ _ _ hs _ _ => hs)
          ⟨by simpa using bS, by simpa using hrow7, hdat, HX.out.more g07, g07⟩ ?a13 ?assign3 ?body3 ?done3 ?stop3
        case assign3 =>
          intro l x W K hK
          gi_wp2
          exact hK
        case body3 =>
          rintro l pre x W hinv hlt7
          obtain ⟨xi, hxi⟩ : ∃ xi : Nat, cl data.length x = xi := ⟨(cl data.length x).toNat, by have := cl_in hxL x; omega⟩
          have hxi2 : xi < data.length := by have := cl_in hxL x; omega
          have hk7 : (pre.map (fun x => data.getD (cl data.length x).toNat 0)).length + 1 ≤ (prod ds).toNat := by have := HLEN.out; simp; omega
          have hgr := hinv.gr.size
          have it := item_at hinv.ints hxi2
          obtain ⟨y, hy⟩ : ∃ y, y = data.getD xi 0 := ⟨_, rfl⟩
          rw [← hy] at it
          have HY : Hid ((pre ++ [x]).map (fun x => data.getD (cl data.length x).toNat 0) = pre.map (fun x => data.getD (cl data.length x).toNat 0) ++ [y]) := by
            show _ = _
            simp [hxi, hy]
          obtain ⟨ys, hys⟩ : ∃ ys, ys = pre.map (fun x => data.getD (cl data.length x).toNat 0) := ⟨_, rfl⟩
          rw [← hys] at hinv HY hk7
          have hs25 : w.heap.size + 2 ≤ w5.heap.size := Nat.le_trans hs2 g25.size
          have hc := hinv.box.cell
          have hf := hinv.box.frozen
          have hcA := (hinv.box.alloc (.cells #[.int .i64 y] 2)).cell
          have hltB := hinv.box.lt
          have hdd := hinv.dat
          have HI := hide hinv
          obtain ⟨⟨cc, hcc⟩, hff, hown1, hgrow1⟩ := row_push (hinv.row.alloc (.cells #[.int .i64 y] 2)) hk7 (.int .i64 y)
          obtain ⟨b1, i1, ko1, kp1⟩ := HI.out.push (y := y) (w1 := ((W.alloc (.cells #[.int .i64 y] 2)).setCell ⟨w5.heap.size, ys.length, none⟩ (.int .i64 y)).drew) (by omega) (by omega) (by omega) (ADD.out _ _ _ _ HX.out (by omega) (by omega)) (by simpa using hown1.drew) ⟨hgrow1.os, hgrow1.tape, hgrow1.output, hgrow1.size, hgrow1.block⟩
          have hc1 : ((W.alloc (.cells #[.int .i64 y] 2)).setCell ⟨w5.heap.size, ys.length, none⟩ (.int .i64 y)).cell? ⟨w6.heap.size, 0, none⟩ = some (.slice (some ⟨w5.heap.size, 0, none⟩) ys.length (prod ds).toNat) := b1.cell
          have hf1 : ((W.alloc (.cells #[.int .i64 y] 2)).setCell ⟨w5.heap.size, ys.length, none⟩ (.int .i64 y)).frozen? ⟨w6.heap.size, 0, none⟩ = false := b1.frozen
          have I1 := hide i1
          have KO1 := hide ko1
          have KP1 := hide kp1
          simp only [hxi]
          clear hinv hys hy hxi hlt7 hown1 hgrow1 b1 i1 ko1 kp1
          gi_wp2
          gi_region_with (fail)
          all_goals exact ⟨KO1.out.from _, KP1.out, by dsimp only; rw [HY.out]; exact I1.out⟩
        case done3 =>
          rintro D zs W hD rfl hinv hK
          have hc := hinv.box.cell
          have HI := hide hinv
          clear hinv
          go_wp2
          refine noPanic_ret ?_
          refine ⟨by simp, .inl ⟨_, _, rfl, run_takeDeferred hK, ?_⟩⟩
          refine ⟨_, results_tmp2 rfl _ _ _, ?_⟩
          refine ⟨.slice (some ⟨w5.heap.size, 0, none⟩) (plc ds ss off).length (prod ds).toNat, by simp only [rdE, HOK.out, if_true]; rfl, ⟨?_, ?_, ?_⟩, grown_trans_row HI.out.gr (grownBy_putObj' W D (.deferred none)) (fun r e => by cases e; have := HS7.out; omega)⟩
          · have h1 := ownsRow_putObj HI.out.row (.deferred none) hK rfl
            rw [shows_cl HMV.out (by rw [← HT.out]; exact hlt)] at h1
            rw [List.length_map] at h1
            simp only [rdL, HOK.out, if_true]
            simpa [shows] using h1
          · have h1 := HLEN.out
            have h2 := HMV.out.fine.le
            simp only [rdL, HOK.out, if_true, shows, List.length_map]
            omega
          · simp only [rdL, HOK.out, if_true]
            exact shows_wf HX.out.wf
        case stop3 =>
          rintro D c pre W _ _ h _
          exact h.elim
    · have HOK : Hid (rdOk off ds ss data = false) := by simp only [Hid, rdOk, hM, ← HT.out]; simpa using hlt
      clear hM
      refine (callsIn_wide (n := 5)).1 ?_
      refine callsIn_of_wp_marks Tryz.func38 rfl trivial ?_ rfl
      simp only [Tryz.ntmps38, List.size_toArray, List.length_cons, List.length_nil, Nat.reduceAdd, Nat.reduceSub, Array.replicate_succ, Array.replicate_zero, List.push_toArray, List.append_toArray, List.nil_append, List.cons_append]
      refine wpIn_mono (wpIn_wide.2 ?_) noPanic_le
      go_wp2
      rw [← hw2]
      clear hw2
      go_region_with (first | (go_at_call 39; refine (MB.out _ (by exact gd)).mono ?_; rintro e w4 ⟨rfl, hg4⟩; have g24 := grown_trans gd hg4; obtain ⟨d0, d1, d2, dd⟩ := VC.out w4 g24) | (go_at_call 65; refine (LA.out _ (by exact g24)).mono ?_; rintro e w5 ⟨rfl, hg5⟩; have g25 := grown_trans g24 hg5; obtain ⟨e0, e1, e2, ed⟩ := VC.out w5 g25))
      all_goals go_wp2
      all_goals (try simp only [Exit.inBlock, Exit.then])
      all_goals refine noPanic_ret ?_
      all_goals refine ⟨_, results_tmp2 rfl _ _ _, ?_⟩
      all_goals exact ret_read1 HOK.out (grown_trans g2 g25)
  · have hM' : mayB off ds ss = false := by simpa using hM
    rw [hM'] at MB
    have HOK : Hid (rdOk off ds ss data = false) := by simp [Hid, rdOk, hM']
    clear hM hM'
    refine (callsIn_wide (n := 5)).1 ?_
    refine callsIn_of_wp_marks Tryz.func38 rfl trivial ?_ rfl
    simp only [Tryz.ntmps38, List.size_toArray, List.length_cons, List.length_nil, Nat.reduceAdd, Nat.reduceSub, Array.replicate_succ, Array.replicate_zero, List.push_toArray, List.append_toArray, List.nil_append, List.cons_append]
    refine wpIn_mono (wpIn_wide.2 ?_) noPanic_le
    go_wp2
    rw [← hw2]
    clear hw2
    go_region_with (go_at_call 39; refine (MB.out _ (by exact gd)).mono ?_; rintro e w4 ⟨rfl, hg4⟩; have g24 := grown_trans gd hg4; obtain ⟨d0, d1, d2, dd⟩ := VC.out w4 g24)
    all_goals go_wp2
    all_goals (try simp only [Exit.inBlock, Exit.then])
    all_goals refine noPanic_ret ?_
    all_goals refine ⟨_, results_tmp2 rfl _ _ _, ?_⟩
    all_goals exact ret_read1 HOK.out (grown_trans g2 g24)
end Go.Proofs.YteigfipgmghgmaaGreatDoor.Vw
