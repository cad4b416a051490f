/- Joined texts: NFresh, NCopyT, NCopyN, NCheckC. -/
import Derived.Test.YtfladhogkhhlcaaGreatDoorNPbJ
import Derived.Test.YtfladhogkhhlcaaGreatDoorPartK
import Derived.Test.YtfladhogkhhlcaaGreatDoorSFrameJ
import Derived.Test.YtfladhogkhhlcaaGreatDoorPartL
/- A list copied to one of the call's own by append, and a tensor of its own, by the walk. -/
namespace Go.Proofs.YtfladhogkhhlcaaGreatDoor
open Go.RowKit

/-- One whole number, as a list's cells. -/
def icell (z : Int) : List Value := [.int .i64 z]

theorem icell_len (z : Int) : (icell z).length = 1 := rfl

theorem icells (zs : List Int) : zs.flatMap icell = zs.map (Value.int .i64) := by
  induction zs with
  | nil => rfl
  | cons z l ih => rw [List.flatMap_cons, ih]; rfl

/-- A value's block is a new one: it was made behind n, and ahead of m. -/
def New (n m : Nat) (v : Value) : Prop := ∀ k, v.ownBlock = some k → n ≤ k ∧ k < m

theorem New.mono {n m n' m' : Nat} {v : Value} (h : New n m v) (hn : n' ≤ n) (hm : m ≤ m') : New n' m' v := fun k hk => by have := h k hk; omega

theorem IsInts.past {w w' : World} {v : Value} {zs : List Int} (h : IsInts w v zs) {B n m : Nat} (hn : New n m v) (hB : B < n ∨ m ≤ B) (hg : w.grownBy w' (some B)) : IsInts w' v zs :=
  h.kept fun b hb hv => hg.block b hb (fun e => by have := hn b hv; cases e; omega)

theorem isL_ints {w : World} {v : Value} {zs : List Int} (h : IsInts w v zs) : IsL 8 1 icell w v zs := by
  obtain ⟨ao, cap, rfl, h1, h2, h3, h4, h5, h6⟩ := h
  refine ⟨ao, cap, rfl, h1, h2, h3, h4, fun hl => ?_⟩
  obtain ⟨b, off, rfl, hc⟩ := h5 hl
  refine ⟨b, off, rfl, fun k hk j hj => ?_⟩
  obtain rfl : j = 0 := by omega
  rw [Nat.mul_one, Nat.add_zero, hc k hk]
  exact ⟨by simp [icell, List.getD, hk], by simp [icell]⟩

theorem ints_isL {w : World} {v : Value} {zs : List Int} (h : IsL 8 1 icell w v zs) (hwf : ∀ z ∈ zs, -9223372036854775808 ≤ z ∧ z ≤ 9223372036854775807) : IsInts w v zs := by
  obtain ⟨ao, cap, rfl, h1, h2, h3, h4, h5⟩ := h
  refine ⟨ao, cap, rfl, h1, h2, h3, h4, fun hl => ?_, hwf⟩
  obtain ⟨b, off, rfl, hc⟩ := h5 hl
  refine ⟨b, off, rfl, fun k hk => ?_⟩
  obtain ⟨e, -⟩ := hc k hk 0 (by omega)
  rw [Nat.mul_one, Nat.add_zero] at e
  rw [e]
  simp [icell, List.getD, hk]

theorem infoI64 : (Tryz.prog.info? 2).map (fun i => (i.zero, i.size, i.bytes)) = some (some (.int .i64 0), 1, 8) := by kernel_rfl

/-- append(nil, x...), as one operation. -/
theorem wp_fresh {α : Type} {o : Oper} {a : Act} {w : World} {K : Act → World → Prop} {Q : Exit → Act → World → Prop} (s x : Operand) (t te : TypeId) (size bytes : Nat) (z : Value) (i0 : TypeInfo) (f : α → List Value)
    (ho : o.op = .call { callee := .builtin .append, args := #[s, x], argTypes := #[t, t] }) (ht : Tryz.prog.underlying t = some (.slice te)) (hi : Tryz.prog.info? te = some i0) (hz : i0.zero = some z)
    (hsize : i0.size = size) (hby : i0.bytes = bytes) (hzs : z.cells.size = size) (hsz : 0 < size) (hs : a.eval s = .slice none 0 0)
    (xv : Value) (ys : List α) (hx : a.eval x = xv) (hys : IsL bytes size f w xv ys) (hl : ∀ y, (f y).length = size) (h1 : ∀ y, ∀ u ∈ f y, u.oneCell' = true)
    (h : ∀ v' w', OwnsL te size f w' w.heap.size v' ys → w.grownBy w' none → K (a.put o.dst v') w') : o.wp Tryz.prog a w K Q := by
  obtain ⟨ao, cap, rfl, k1, k2, k3, k4, k5⟩ := hys
  cases ao with
  | none =>
    obtain ⟨rfl, rfl⟩ := k4 rfl
    have hrun := run_append_owned_none (P := Tryz.prog) (w := w) w.heap.size t o.type te i0 size ht hi (.slice none 0 0) 0 [] (World.ownsRow_nil _ _ _ _)
    unfold Oper.wp
    simp [execOp, ho, resolve, invoke, builtin, hs, hx, hrun, Result.andThen]
    exact h _ _ (OwnsL.nil ..) (grown_refl _)
  | some ad =>
    refine wp_append_own w s x t ho w.heap.size te i0 z size bytes ht hi hz hsize hby hzs hsz (.slice none 0 0) 0 [] hs (World.ownsRow_nil _ _ _ _) ad ys.length cap (ys.flatMap f) hx (flat_len hl ys) ?_ ?_ (by simp only [maxLen]; omega) (by rw [Nat.zero_add]; omega) (Nat.le_refl _) ?_
    · intro j u hu
      by_cases hy : 0 < ys.length
      · obtain ⟨b, off, hao, hc⟩ := k5 hy
        obtain rfl := Option.some.inj hao
        have hj : j < ys.length * size := by
          have := (List.getElem?_eq_some_iff.1 hu).1
          rwa [flat_len hl] at this
        have hjs : j % size < size := Nat.mod_lt _ hsz
        have hjd : j / size < ys.length := (Nat.div_lt_iff_lt_mul hsz).2 hj
        have e1 : j = j / size * size + j % size := by rw [Nat.mul_comm]; exact (Nat.div_add_mod j size).symm
        rw [e1, flat_at hl ys _ _ hjd hjs] at hu
        rw [Addr.add_lit]
        have := (hc (j / size) hjd (j % size) hjs).1
        rw [Nat.add_assoc, ← e1] at this
        rw [this, hu]
      · obtain rfl : ys = [] := List.length_eq_zero_iff.1 (by omega)
        simp at hu
    · intro u hu
      obtain ⟨y, -, hy⟩ := List.mem_flatMap.1 hu
      exact h1 y u hy
    · intro v' w' ho' hg _
      refine h v' w' ?_ hg
      unfold OwnsL
      simpa using ho'

theorem wpl_fresh {α : Type} {ops : Array Oper} {rest : List Oper} {o : Oper} {a : Act} {w : World} {Q : Exit → Act → World → Prop} (hgd : o.guard = none) (s x : Operand) (t te : TypeId) (size bytes : Nat) (z : Value) (i0 : TypeInfo) (f : α → List Value)
    (ho : o.op = .call { callee := .builtin .append, args := #[s, x], argTypes := #[t, t] }) (ht : Tryz.prog.underlying t = some (.slice te)) (hi : Tryz.prog.info? te = some i0) (hz : i0.zero = some z)
    (hsize : i0.size = size) (hby : i0.bytes = bytes) (hzs : z.cells.size = size) (hsz : 0 < size) (hs : a.eval s = .slice none 0 0)
    (xv : Value) (ys : List α) (hx : a.eval x = xv) (hys : IsL bytes size f w xv ys) (hl : ∀ y, (f y).length = size) (h1 : ∀ y, ∀ u ∈ f y, u.oneCell' = true)
    (h : ∀ v' w', OwnsL te size f w' w.heap.size v' ys → w.grownBy w' none → wpList Tryz.prog ops Q rest (a.put o.dst v') w') : wpList Tryz.prog ops Q (o :: rest) a w :=
  wpList_plain hgd fun _ hK => wp_fresh s x t te size bytes z i0 f ho ht hi hz hsize hby hzs hsz hs xv ys hx hys hl h1 fun v' w' h2 h3 => hK _ _ (h v' w' h2 h3)

theorem step_fresh {α : Type} {ops : Array Oper} {o : Oper} {a : Act} {w : World} {K : Act → World → Prop} {Q : Exit → Act → World → Prop} {E : Prop} (hgd : o.guard = none) (s x : Operand) (t te : TypeId) (size bytes : Nat) (z : Value) (i0 : TypeInfo) (f : α → List Value)
    (ho : o.op = .call { callee := .builtin .append, args := #[s, x], argTypes := #[t, t] }) (ht : Tryz.prog.underlying t = some (.slice te)) (hi : Tryz.prog.info? te = some i0) (hz : i0.zero = some z)
    (hsize : i0.size = size) (hby : i0.bytes = bytes) (hzs : z.cells.size = size) (hsz : 0 < size) (hs : a.eval s = .slice none 0 0)
    (xv : Value) (ys : List α) (hx : a.eval x = xv) (hys : IsL bytes size f w xv ys) (hl : ∀ y, (f y).length = size) (h1 : ∀ y, ∀ u ∈ f y, u.oneCell' = true)
    (h : ∀ v' w', OwnsL te size f w' w.heap.size v' ys → w.grownBy w' none → K (a.put o.dst v') w') : if Region.wanted o (yielded ops a.tmps) = true then Oper.wp Tryz.prog o a w K Q else E := by
  have hw : Region.wanted o (yielded ops a.tmps) = true := by simp [Region.wanted, hgd]
  rw [if_pos hw]
  exact wp_fresh s x t te size bytes z i0 f ho ht hi hz hsize hby hzs hsz hs xv ys hx hys hl h1 h

theorem icell_one (y : Int) : ∀ u ∈ icell y, u.oneCell' = true := by intro u hu; rw [icell, List.mem_singleton] at hu; subst hu; rfl

theorem ints_owns {te : TypeId} {w : World} {base : Nat} {v : Value} {zs : List Int} (h : OwnsL te 1 icell w base v zs) (hl : zs.length * 8 ≤ 140737488351232) (hwf : ∀ z ∈ zs, -9223372036854775808 ≤ z ∧ z ≤ 9223372036854775807) : IsInts w v zs := ints_isL (h.isL (bytes := 8) icell_len hl) hwf

theorem owns_new {α : Type} {te : TypeId} {size : Nat} {f : α → List Value} {w : World} {base : Nat} {v : Value} {xs : List α} (h : OwnsL te size f w base v xs) : New base w.heap.size v := fun k hk => World.ownsRow.lt h k hk

theorem copyints_any (v : Value) (zs : List Int) (w : World) (h : IsInts w v zs) :
    Calls Tryz.prog 14 #[v] w fun e w' => ∃ u : Sl, e = .returned u.v ∧ IsInts w' u.v zs ∧ New w.heap.size w'.heap.size u.v ∧ w.grownBy w' none := by
  obtain ⟨i0, hi, hz0, hz1, hz2⟩ := info_parts infoInt
  have h3 := h.le
  have hwf := hide h.wf
  have H := hide (isL_ints h)
  clear h
  go_enter Tryz.func14, Tryz.ntmps14
  go_wp2_with (at_builtin; refine wpl_fresh rfl (.tmp 4) (.tmp 5) 22 3 1 8 (.int .i64 0) i0 icell rfl Tryz.underlying22 hi hz0 hz1 hz2 rfl (by decide) rfl v zs rfl H.out icell_len icell_one ?_; intro v' w1 hown hgrow)
  have HO := hide hown
  obtain ⟨xa, xc, rfl⟩ := OwnsL.form hown
  clear hown
  go_ret
  exact ⟨⟨xa, zs.length, xc⟩, rfl, ints_owns HO.out h3 hwf.out, owns_new HO.out, hgrow⟩
end Go.Proofs.YtfladhogkhhlcaaGreatDoor

/- A tensor of its own, by the walk. -/
namespace Go.Proofs.YtfladhogkhhlcaaGreatDoor
open Go.RowKit

theorem tenInfo : (Tryz.prog.info? 25).map (·.size) = some 3 := by kernel_rfl

theorem ret_ten {fn : Func} {p : Tmp} (h : fn.results = #[.cell p 25]) (tmps : Array Value) (w : World) (B : Nat) (hp : tmps.getD p undef = .pointer (some ⟨B, 0, none⟩)) {a0 a1 a2 : Value}
    (hb : w.heap[B]? = some (.cells #[a0, a1, a2] 25 (0, 0))) : (results fn tmps).run Tryz.prog w = .ok (.agg #[a0, a1, a2]) w :=
  results_cell_row h tmps w B 25 #[a0, a1, a2] (0, 0) _ hp hb Tryz.underlying25 rfl (by rw [tenInfo]; rfl)

/-- The three cells of a block, written anew. -/
theorem store3t {w3 : World} {B : Nat} {z0 z1 z2 : Value} {t : TypeId} (a b c : Value) (hb : w3.heap[B]? = some (.cells #[z0, z1, z2] t (0, 0))) :
    (((w3.setCell ⟨B, 0, none⟩ a).setCell ⟨B, 1, none⟩ b).setCell ⟨B, 2, none⟩ c).heap[B]? = some (.cells #[a, b, c] t (0, 0)) ∧ w3.grownBy (((w3.setCell ⟨B, 0, none⟩ a).setCell ⟨B, 1, none⟩ b).setCell ⟨B, 2, none⟩ c) (some B) := by
  have h1 := heap_setCell_same w3 B 0 _ _ a hb
  have h2 := heap_setCell_same _ B 1 _ _ b h1
  have h3 := heap_setCell_same _ B 2 _ _ c h2
  have g : ∀ (x : World) (j : Nat) (v : Value), x.grownBy (x.setCell ⟨B, j, none⟩ v) (some B) := fun x j v =>
    ⟨rfl, rfl, rfl, by simp [World.setCell], fun k _ hk => Below.heap_setCell _ _ _ _ (fun e => hk (by rw [e]))⟩
  exact ⟨by simpa using h3, grown_same (grown_same (g w3 0 a) (g _ 1 b)) (g _ 2 c)⟩

theorem ten_frozen {w : World} {B : Nat} {z0 z1 z2 : Value} {t : TypeId} (hb : w.heap[B]? = some (.cells #[z0, z1, z2] t (0, 0))) :
    w.frozen? ⟨B, 0, none⟩ = false ∧ w.frozen? ⟨B, 1, none⟩ = false ∧ w.frozen? ⟨B, 2, none⟩ = false :=
  ⟨frozen_of_row w B 0 _ _ hb, frozen_of_row w B 1 _ _ hb, frozen_of_row w B 2 _ _ hb⟩

set_option maxRecDepth 100000 in
set_option maxHeartbeats 3200000 in
theorem copyten_any (ty : Int) (dv tv : Value) (ds ts : List Int) (w : World) (hd : IsInts w dv ds) (ht : IsInts w tv ts) :
    Calls Tryz.prog 10 #[.agg #[.int .i64 ty, dv, tv]] w fun e w' => ∃ d t : Sl, e = .returned (.agg #[.int .i64 ty, d.v, t.v]) ∧ IsInts w' d.v ds ∧ IsInts w' t.v ts ∧ New w.heap.size w'.heap.size d.v ∧ New w.heap.size w'.heap.size t.v ∧ w.grownBy w' none := by
  obtain ⟨i0, hi, hz0, hz1, hz2⟩ := info_parts infoI64
  have HD := hide hd
  have HT := hide ht
  obtain ⟨da, dc, rfl, -⟩ := hd
  obtain ⟨ta, tc, rfl, -⟩ := ht
  obtain ⟨w0, hw0⟩ : ∃ w0, w0 = (w.alloc (.cells #[.int .i64 ty, .slice da ds.length dc, .slice ta ts.length tc] 25)).alloc (.cells #[.int .i64 0, .slice none 0 0, .slice none 0 0] 25) := ⟨_, rfl⟩
  have g0 : w.grownBy w0 none := by rw [hw0]; exact grown_trans (grown_new _ _) (grown_new _ _)
  have hbx : w0.heap[w.heap.size]? = some (.cells #[.int .i64 ty, .slice da ds.length dc, .slice ta ts.length tc] 25 (0, 0)) ∧ w0.heap[w.heap.size + 1]? = some (.cells #[.int .i64 0, .slice none 0 0, .slice none 0 0] 25 (0, 0)) := by
    rw [hw0]
    refine ⟨box_kept (heap_alloc_new w _) (grown_new _ _), ?_⟩
    have := heap_alloc_new (w.alloc (.cells #[.int .i64 ty, .slice da ds.length dc, .slice ta ts.length tc] 25)) (.cells #[.int .i64 0, .slice none 0 0, .slice none 0 0] 25)
    simpa using this
  have hs0 : w0.heap.size = w.heap.size + 1 + 1 := by rw [hw0]; simp
  have BX := hide hbx
  have S0 := hide hs0
  obtain ⟨c0, c1, c2⟩ := ten_cells hbx.1
  clear hbx hs0
  go_enter Tryz.func10, Tryz.ntmps10
  go_wp2_with fail
  rw [← hw0]
  clear hw0
  go_cut [3] from 4 to 9 (fun p wx => ∃ (B : Nat) (d : Sl), p = .pointer (some ⟨B, 0, none⟩) ∧ wx.heap[B]? = some (.cells #[.int .i64 ty, .slice d.a d.n d.c, .slice none 0 0] 25 (0, 0)) ∧ IsInts wx d.v ds ∧ New w0.heap.size wx.heap.size d.v ∧ w0.heap.size ≤ B ∧ (∀ k, d.v.ownBlock = some k → k ≠ B) ∧ w0.grownBy wx none)
  case first =>
    have gd := grown_drew (grown_refl w0)
    have CI := hide (fun (wx : World) (hx : w0.grownBy wx none) => copyints_any _ ds wx (HD.out.more (grown_trans g0 hx)))
    have ga := grown_drew (grown_new w0 (.cells #[.int .i64 0, .slice none 0 0, .slice none 0 0] 25))
    have y1 : w.heap.size ≠ w0.heap.size := by have := S0.out; omega
    have y1' := y1.symm
    go_region_held3 (fun w' => w'.cell? ⟨w.heap.size, 0, none⟩ = some (.int .i64 ty) ∧ w'.cell? ⟨w.heap.size, 1, none⟩ = some (.slice da ds.length dc) ∧ w'.cell? ⟨w.heap.size, 2, none⟩ = some (.slice ta ts.length tc)) (go_keep) (first | (go_at_call 14; refine (CI.out _ (by first | exact gd | exact ga)).mono ?_; rintro e w3 ⟨u, rfl, hu, nu, hg3⟩; have g3 : w0.grownBy w3 none := (by first | exact grown_trans gd hg3 | exact grown_trans ga hg3); obtain ⟨c0, c1, c2⟩ := ten_cells (box_kept BX.out.1 g3); have y2 : w.heap.size ≠ w3.heap.size := (by have := g3.size; have := S0.out; omega); have y2' := y2.symm; try (have kz : w3.heap[w0.heap.size]? = some (.cells #[.int .i64 0, .slice none 0 0, .slice none 0 0] 25 (0, 0)) := box_kept (show ((w0.alloc (.cells #[.int .i64 0, .slice none 0 0, .slice none 0 0] 25)).drew).heap[w0.heap.size]? = _ from heap_alloc_new w0 _) hg3; obtain ⟨f0, f1, f2⟩ := ten_frozen kz; obtain ⟨k0, k1, k2⟩ := ten_cells kz)))
    all_goals (go_wp2_with fail; go_meet)
    · refine ⟨_, u, rfl, heap_alloc_new w3 _, hu.more (grown_new _ _), nu.mono (Nat.le_refl _) (by simp), g3.size, fun k hk => ?_, grown_trans g3 (grown_new _ _)⟩
      have := nu k hk
      omega
    · have nu' : New (w0.heap.size + 1) w3.heap.size u.v := by simpa using nu
      obtain ⟨hX, gX⟩ := store3t (.int .i64 ty) (.slice u.a u.n u.c) (.slice none 0 0) kz
      have gs := gX.size
      refine ⟨_, u, rfl, hX, hu.past nu' (Or.inl (by omega)) gX, nu'.mono (by omega) gs, Nat.le_refl _, fun k hk => ?_, grown_trans_row g3 gX (fun r e => by cases e; exact Nat.le_refl _)⟩
      have := nu' k hk
      omega
  case rest =>
    obtain ⟨B, d, rfl, hb, hu, nu, hB, hne, hg⟩ := hcut
    have HU := hide hu
    have HB := hide hb
    have NU := hide nu
    have NE := hide hne
    have gw := grown_trans g0 hg
    have BW := hide (And.intro (box_kept BX.out.1 hg) (box_kept BX.out.2 hg))
    clear c0 c1 c2 hu hb nu hne
    obtain ⟨c0, c1, c2⟩ := ten_cells BW.out.1
    obtain ⟨b0, b1, b2⟩ := ten_cells HB.out
    have HL := hide (isL_ints (HT.out.more gw))
    have hlt := HT.out.le
    have y1 : w.heap.size + 1 ≠ B := by have := S0.out; omega
    have y1' := y1.symm
    go_wp2_with (at_builtin; refine wpl_fresh rfl (.tmp 11) (.tmp 13) 23 2 1 8 (.int .i64 0) i0 icell rfl Tryz.underlying23 hi hz0 hz1 hz2 rfl (by decide) rfl _ ts rfl HL.out icell_len icell_one ?_; intro v' w1 hown hgrow; have HO := hide hown; obtain ⟨xa, xc, rfl⟩ := OwnsL.form hown; have HB1 := hide (box_kept HB.out hgrow); have BW1 := hide (box_kept BW.out.2 hgrow); clear c0 c1 c2 b0 b1 b2 hown; obtain ⟨b0, b1, b2⟩ := ten_cells HB1.out; obtain ⟨f0, f1, f2⟩ := ten_frozen HB1.out; obtain ⟨q0, q1, q2⟩ := ten_cells BW1.out; obtain ⟨p0, p1, p2⟩ := ten_frozen BW1.out)
    have h1 := heap_setCell_same w1 B 2 _ _ (.slice xa ts.length xc) HB1.out
    have gB : w1.grownBy (w1.setCell ⟨B, 2, none⟩ (.slice xa ts.length xc)) (some B) := ⟨rfl, rfl, rfl, by simp [World.setCell], fun k _ hk => Below.heap_setCell _ _ _ _ (fun e => hk (by rw [e]))⟩
    have h2 : (w1.setCell ⟨B, 2, none⟩ (.slice xa ts.length xc)).heap[w.heap.size + 1]? = some (.cells #[.int .i64 0, .slice none 0 0, .slice none 0 0] 25 (0, 0)) := (gB.block _ (Array.getElem?_eq_some_iff.1 BW1.out).1 (fun e => y1 (Option.some.inj e))).trans BW1.out
    obtain ⟨hX, gX⟩ := store3t (.int .i64 ty) (.slice d.a d.n d.c) (.slice xa ts.length xc) h2
    refine bodyPost_ret (ret_ten rfl _ _ (w.heap.size + 1) rfl hX) rfl ?_
    have n1 : New w0.heap.size w1.heap.size d.v := NU.out.mono (Nat.le_refl _) hgrow.size
    have n2 := owns_new HO.out
    have s0 := S0.out
    have s1 := hg.size
    have s2 := (Array.getElem?_eq_some_iff.1 HB.out).1
    have e1 : (w1.setCell ⟨B, 2, none⟩ (.slice xa ts.length xc)).heap.size = w1.heap.size := by simp [World.setCell]
    refine ⟨d, ⟨xa, ts.length, xc⟩, rfl, ?_, ?_, ?_, ?_, ?_⟩
    · have a1 := HU.out.more hgrow
      have a2 := a1.kept (w' := w1.setCell ⟨B, 2, none⟩ (.slice xa ts.length xc)) (fun b hb hv => gB.block b hb (fun e => NE.out b hv (Option.some.inj e)))
      exact a2.past (n1.mono (Nat.le_refl _) (Nat.le_of_eq e1.symm)) (Or.inl (by omega)) gX
    · have a1 := ints_owns HO.out hlt HT.out.wf
      exact (a1.past n2 (Or.inl s2) gB).past n2 (Or.inl (by omega)) gX
    · exact n1.mono (by omega) (by have := gX.size; omega)
    · exact n2.mono (by omega) (by have := gX.size; omega)
    · exact grown_trans_row (grown_trans_row (grown_trans gw hgrow) gB (fun r e => by cases e; omega)) gX (fun r e => by cases e; omega)
end Go.Proofs.YtfladhogkhhlcaaGreatDoor

/- A node of its own, by the walk. -/
namespace Go.Proofs.YtfladhogkhhlcaaGreatDoor
open Go.RowKit

/-- What an attribute's three lists hold. -/
structure Cont where
  d : List Int
  t : List Int
  i : List Int

/-- An attribute but for where its lists lie. -/
def strip (a : Atr) : Atr := ⟨a.name, a.kind, a.f, a.i, a.s, a.ty, ⟨none, 0, 0⟩, ⟨none, 0, 0⟩, ⟨none, 0, 0⟩⟩

structure Has (w : World) (a : Atr) (c : Cont) : Prop where
  d : IsInts w a.dv.v c.d
  t : IsInts w a.tv.v c.t
  i : IsInts w a.iv.v c.i

/-- Two values lie apart. -/
def Apt (u v : Value) : Prop := ∀ k, u.ownBlock = some k → v.ownBlock ≠ some k

structure NewA (n m : Nat) (a : Atr) : Prop where
  d : New n m a.dv.v
  t : New n m a.tv.v
  i : New n m a.iv.v

structure ApA (a : Atr) (v : Value) : Prop where
  d : Apt a.dv.v v
  t : Apt a.tv.v v
  i : Apt a.iv.v v

theorem Has.kept {w w' : World} {a : Atr} {c : Cont} (h : Has w a c) (hk : ∀ b, b < w.heap.size → (a.dv.v.ownBlock = some b ∨ a.tv.v.ownBlock = some b ∨ a.iv.v.ownBlock = some b) → w'.heap[b]? = w.heap[b]?) : Has w' a c :=
  ⟨h.d.kept fun b hb e => hk b hb (Or.inl e), h.t.kept fun b hb e => hk b hb (Or.inr (Or.inl e)), h.i.kept fun b hb e => hk b hb (Or.inr (Or.inr e))⟩

theorem Has.more {w w' : World} {a : Atr} {c : Cont} (h : Has w a c) (hg : w.grownBy w' none) : Has w' a c := ⟨h.d.more hg, h.t.more hg, h.i.more hg⟩

theorem NewA.mono {n m n' m' : Nat} {a : Atr} (h : NewA n m a) (hn : n' ≤ n) (hm : m ≤ m') : NewA n' m' a := ⟨h.d.mono hn hm, h.t.mono hn hm, h.i.mono hn hm⟩

theorem NewA.any {n m : Nat} {a : Atr} (h : NewA n m a) {b : Nat} (e : a.dv.v.ownBlock = some b ∨ a.tv.v.ownBlock = some b ∨ a.iv.v.ownBlock = some b) : n ≤ b ∧ b < m := by
  rcases e with e | e | e
  · exact h.d b e
  · exact h.t b e
  · exact h.i b e

theorem ApA.any {a : Atr} {v : Value} (h : ApA a v) {b : Nat} (e : a.dv.v.ownBlock = some b ∨ a.tv.v.ownBlock = some b ∨ a.iv.v.ownBlock = some b) : v.ownBlock ≠ some b := by
  rcases e with e | e | e
  · exact h.d b e
  · exact h.t b e
  · exact h.i b e

theorem ApA.of {a : Atr} {v : Value} (h : ∀ b, (a.dv.v.ownBlock = some b ∨ a.tv.v.ownBlock = some b ∨ a.iv.v.ownBlock = some b) → v.ownBlock ≠ some b) : ApA a v :=
  ⟨fun b e => h b (Or.inl e), fun b e => h b (Or.inr (Or.inl e)), fun b e => h b (Or.inr (Or.inr e))⟩

/-- What stands of the new node while attributes are copied. -/
structure CInv (W2 : World) (O b2 : Nat) (op nam out : ByteArray) (I : Sl) (xs : List Atr) (cs : List Cont) (k : Nat) (wr : World) (v : Sl) (ys : List Atr) : Prop where
  box : wr.heap[O]? = some (.cells #[.string op, .string nam, .slice I.a I.n I.c, .string out, .slice v.a v.n v.c] 36 (0, 0))
  own : OwnsL 41 9 acells wr b2 v.v ys
  len : ys.length = k
  eq : ys.map strip = (xs.take k).map strip
  has : ∀ (j : Nat) (a : Atr) (c : Cont), ys[j]? = some a → cs[j]? = some c → Has wr a c
  new : ∀ a ∈ ys, NewA b2 wr.heap.size a ∧ ApA a v.v
  grown : W2.grownBy wr (some O)

theorem acell_one (a : Atr) : ∀ u ∈ acells a, u.oneCell' = true := by
  intro u hu
  simp only [acells, List.mem_cons, List.not_mem_nil, or_false] at hu
  rcases hu with rfl | rfl | rfl | rfl | rfl | rfl | rfl | rfl | rfl <;> rfl

theorem infoAttr : (Tryz.prog.info? 41).map (fun i => (i.zero, i.size, i.bytes)) = some (some (.agg #[.string ⟨#[]⟩, .int .i64 0, .int .i64 0, .int .i64 0, .string ⟨#[]⟩, .int .i64 0, .slice none 0 0, .slice none 0 0, .slice none 0 0]), 9, 136) := by kernel_rfl

theorem take_strip {xs : List Atr} {k : Nat} (hk : k < xs.length) : (xs.take (k + 1)).map strip = (xs.take k).map strip ++ [strip xs[k]] := by
  rw [List.take_add_one, List.map_append, List.getElem?_eq_getElem hk]
  rfl

/-- One attribute more. -/
theorem CInv.step {W2 : World} {O b2 : Nat} {op nam out : ByteArray} {I : Sl} {xs : List Atr} {cs : List Cont} {k : Nat} {wr W9 : World} {v v' : Sl} {ys : List Atr} {y : Atr} {lo : Nat} (h : CInv W2 O b2 op nam out I xs cs k wr v ys) (hk : k < xs.length) (hO : O < b2) (hW2 : W2.heap.size ≤ b2) (hb2 : b2 ≤ wr.heap.size) (hlo0 : wr.heap.size ≤ lo)
    (kp : ∀ b, b < wr.heap.size → b ≠ O → v.v.ownBlock ≠ some b → W9.heap[b]? = wr.heap[b]?) (hsz : wr.heap.size ≤ W9.heap.size) (hos : W9.os = wr.os) (htp : W9.tape = wr.tape) (hout : W9.output = wr.output)
    (box : W9.heap[O]? = some (.cells #[.string op, .string nam, .slice I.a I.n I.c, .string out, .slice v'.a v'.n v'.c] 36 (0, 0)))
    (own : OwnsL 41 9 acells W9 b2 v'.v (ys ++ [y])) (hst : strip y = strip xs[k]) (hy : ∀ c, cs[k]? = some c → Has W9 y c) (hny : NewA wr.heap.size lo y) (hlo : lo ≤ W9.heap.size) (hay : ∀ b, v'.v.ownBlock = some b → v.v.ownBlock = some b ∨ lo ≤ b) : CInv W2 O b2 op nam out I xs cs (k + 1) W9 v' (ys ++ [y]) := by
  have vlt : ∀ b, v.v.ownBlock = some b → b2 ≤ b ∧ b < wr.heap.size := fun b e => World.ownsRow.lt h.own b e
  refine ⟨box, own, by rw [List.length_append, h.len]; rfl, by rw [List.map_append, h.eq, take_strip hk]; simp [hst], ?_, ?_, ?_⟩
  · intro j a c ha hc
    by_cases hj : j < ys.length
    · rw [List.getElem?_append_left hj] at ha
      have hm := h.new a (List.mem_of_getElem? ha)
      refine (h.has j a c ha hc).kept fun b hb e => kp b hb ?_ (hm.2.any e)
      have := hm.1.any e
      omega
    · obtain rfl : j = ys.length := by
        have := (List.getElem?_eq_some_iff.1 ha).1
        rw [List.length_append] at this
        simp at this
        omega
      rw [List.getElem?_append_right (Nat.le_refl _), Nat.sub_self] at ha
      obtain rfl : y = a := by simpa using ha
      exact hy c (by rw [← h.len]; exact hc)
  · intro a ha
    rcases List.mem_append.1 ha with ha | ha
    · have hm := h.new a ha
      refine ⟨hm.1.mono (Nat.le_refl _) hsz, ApA.of fun b e hv => ?_⟩
      have h1 := hm.1.any e
      rcases hay b hv with h2 | h2
      · exact hm.2.any e h2
      · omega
    · obtain rfl : a = y := by simpa using ha
      refine ⟨hny.mono hb2 hlo, ApA.of fun b e hv => ?_⟩
      have h1 := hny.any e
      rcases hay b hv with h2 | h2
      · have := vlt b h2; omega
      · omega
  · refine ⟨hos.trans h.grown.os, htp.trans h.grown.tape, hout.trans h.grown.output, Nat.le_trans h.grown.size hsz, fun b hb hne => ?_⟩
    refine (kp b (Nat.lt_of_lt_of_le hb h.grown.size) (fun e => hne (by rw [e])) (fun e => ?_)).trans (h.grown.block b hb hne)
    have := vlt b e
    omega

/-- What CopyNode answers. -/
structure Copied (w w' : World) (n : Nod) (ins : List ByteArray) (xs : List Atr) (cs : List Cont) (iv av : Sl) (ys : List Atr) : Prop where
  ins : OwnsL 9 1 scell w' w.heap.size iv.v ins
  own : OwnsL 41 9 acells w' w.heap.size av.v ys
  eq : ys.map strip = xs.map strip
  has : ∀ (j : Nat) (a : Atr) (c : Cont), ys[j]? = some a → cs[j]? = some c → Has w' a c
  new : ∀ a ∈ ys, NewA w.heap.size w'.heap.size a ∧ ApA a av.v ∧ ApA a iv.v
  apt : Apt iv.v av.v
  grown : w.grownBy w' none

theorem nodeInfo : (Tryz.prog.info? 36).map (·.size) = some 5 := by kernel_rfl

theorem ret_nod {fn : Func} {p : Tmp} (h : fn.results = #[.cell p 36]) (tmps : Array Value) (w : World) (B : Nat) (hp : tmps.getD p undef = .pointer (some ⟨B, 0, none⟩)) {a0 a1 a2 a3 a4 : Value}
    (hb : w.heap[B]? = some (.cells #[a0, a1, a2, a3, a4] 36 (0, 0))) : (results fn tmps).run Tryz.prog w = .ok (.agg #[a0, a1, a2, a3, a4]) w :=
  results_cell_row h tmps w B 36 #[a0, a1, a2, a3, a4] (0, 0) _ hp hb Tryz.underlying36 rfl (by rw [nodeInfo]; rfl)

theorem nod_frozen {w : World} {B : Nat} {z0 z1 z2 z3 z4 : Value} (hb : w.heap[B]? = some (.cells #[z0, z1, z2, z3, z4] 36 (0, 0))) :
    w.frozen? ⟨B, 0, none⟩ = false ∧ w.frozen? ⟨B, 1, none⟩ = false ∧ w.frozen? ⟨B, 2, none⟩ = false ∧ w.frozen? ⟨B, 3, none⟩ = false ∧ w.frozen? ⟨B, 4, none⟩ = false :=
  ⟨frozen_of_row w B 0 _ _ hb, frozen_of_row w B 1 _ _ hb, frozen_of_row w B 2 _ _ hb, frozen_of_row w B 3 _ _ hb, frozen_of_row w B 4 _ _ hb⟩

/-- A cell written: the block, and what else stays. -/
theorem put1 {w : World} {B j : Nat} {cs : Array Value} {t : TypeId} (x : Value) (hb : w.heap[B]? = some (.cells cs t (0, 0))) :
    (w.setCell ⟨B, j, none⟩ x).heap[B]? = some (.cells (cs.setIfInBounds j x) t (0, 0)) ∧ w.grownBy (w.setCell ⟨B, j, none⟩ x) (some B) ∧ (w.setCell ⟨B, j, none⟩ x).heap.size = w.heap.size :=
  ⟨heap_setCell_same w B j _ _ x hb, ⟨rfl, rfl, rfl, by simp [World.setCell], fun k _ hk => Below.heap_setCell _ _ _ _ (fun e => hk (by rw [e]))⟩, by simp [World.setCell]⟩

theorem owns_block {α : Type} {te : TypeId} {size : Nat} {f : α → List Value} {w w' : World} {base : Nat} {v : Value} {xs : List α} (h : OwnsL te size f w base v xs) (hk : ∀ b, v.ownBlock = some b → w'.heap[b]? = w.heap[b]?) : OwnsL te size f w' base v xs := by
  refine ⟨h.1, ?_⟩
  rcases h.2 with h0 | ⟨g, cap, cur, rfl, hg, hb, r⟩
  · exact .inl h0
  · exact .inr ⟨g, cap, cur, rfl, hg, (hk g rfl).trans hb, r⟩

/-- The last four cells of an attribute, written anew. -/
theorem store4a {w : World} {B : Nat} {z0 z1 z2 z3 z4 z5 z6 z7 z8 : Value} (a b c d : Value) (hb : w.heap[B]? = some (.cells #[z0, z1, z2, z3, z4, z5, z6, z7, z8] 41 (0, 0))) :
    ((((w.setCell ⟨B, 5, none⟩ a).setCell ⟨B, 6, none⟩ b).setCell ⟨B, 7, none⟩ c).setCell ⟨B, 8, none⟩ d).heap[B]? = some (.cells #[z0, z1, z2, z3, z4, a, b, c, d] 41 (0, 0)) ∧ w.grownBy ((((w.setCell ⟨B, 5, none⟩ a).setCell ⟨B, 6, none⟩ b).setCell ⟨B, 7, none⟩ c).setCell ⟨B, 8, none⟩ d) (some B) ∧ ((((w.setCell ⟨B, 5, none⟩ a).setCell ⟨B, 6, none⟩ b).setCell ⟨B, 7, none⟩ c).setCell ⟨B, 8, none⟩ d).heap.size = w.heap.size := by
  obtain ⟨h1, g1, s1⟩ := put1 (j := 5) a hb
  obtain ⟨h2, g2, s2⟩ := put1 (j := 6) b h1
  obtain ⟨h3, g3, s3⟩ := put1 (j := 7) c h2
  obtain ⟨h4, g4, s4⟩ := put1 (j := 8) d h3
  exact ⟨by simpa using h4, grown_same (grown_same (grown_same g1 g2) g3) g4, by rw [s4, s3, s2, s1]⟩

end Go.Proofs.YtfladhogkhhlcaaGreatDoor

/- Whether a node may be, of any operator, by the walk (mkCheckC.py). -/
namespace Go.Proofs.YtfladhogkhhlcaaGreatDoor
open Go.RowKit

/-- What Check answers of a Constant's value. -/
def constE (xs : List Atr) (cs : List Cont) : Int := match (xs.zip cs).find? (fun p => isA ⟨#[118, 97, 108, 117, 101]⟩ 4 p.1) with
  | some p => pbE p.1.ty p.2.d p.2.t
  | none => pbE 0 [] []

def checkF (r : Option (Int × Int × List Ra)) (op : ByteArray) (ins : List ByteArray) (out : ByteArray) (xs : List Atr) (cs : List Cont) : Int :=
  if checkE r ins out xs ≠ 0 then checkE r ins out xs else if (op.toList == [67, 111, 110, 115, 116, 97, 110, 116]) = true then constE xs cs else 0

theorem checkF_no {r : Option (Int × Int × List Ra)} {op : ByteArray} {ins : List ByteArray} {out : ByteArray} {xs : List Atr} {cs : List Cont} {e : Int} (h : checkE r ins out xs = e) (he : e ≠ 0) : checkF r op ins out xs cs = e := by
  unfold checkF
  rw [h, if_pos he]

theorem find_zip {R : Atr → Cont → Prop} {P : Atr → Bool} : ∀ {xs : List Atr} {cs : List Cont}, (∀ (j : Nat) (a : Atr), xs[j]? = some a → ∃ c, cs[j]? = some c ∧ R a c) →
    (xs.find? P = none ∧ (xs.zip cs).find? (fun p => P p.1) = none) ∨ ∃ a c, xs.find? P = some a ∧ (xs.zip cs).find? (fun p => P p.1) = some (a, c) ∧ R a c
  | [], _, _ => Or.inl ⟨rfl, by simp⟩
  | x :: l, [], h => by
    obtain ⟨c, hc, -⟩ := h 0 x rfl
    simp at hc
  | x :: l, c :: cs, h => by
    cases hx : P x with
    | true =>
      obtain ⟨c', hc, hr⟩ := h 0 x rfl
      obtain rfl : c = c' := by simpa using hc
      exact Or.inr ⟨x, c, by simp [hx], by simp [hx], hr⟩
    | false =>
      rcases find_zip (P := P) (xs := l) (cs := cs) (fun j a hj => h (j + 1) a hj) with ⟨e1, e2⟩ | ⟨a, c', e1, e2, e3⟩
      · exact Or.inl ⟨by simp [hx, e1], by rw [List.zip_cons_cons, List.find?_cons]; simp [hx, e2]⟩
      · exact Or.inr ⟨a, c', by simp [hx, e1], by rw [List.zip_cons_cons, List.find?_cons]; simp [hx, e2], e3⟩

theorem value_of {w : World} {xs : List Atr} {cs : List Cont} (hc : ∀ (j : Nat) (a : Atr), xs[j]? = some a → ∃ c, cs[j]? = some c ∧ Has w a c) :
    ∃ (A : Atr) (b : Bool) (d t : List Int), (xs.find? (isA ⟨#[118, 97, 108, 117, 101]⟩ 4)).getD noAtr = A ∧ (xs.find? (isA ⟨#[118, 97, 108, 117, 101]⟩ 4)).isSome = b ∧ IsInts w A.dv.v d ∧ IsInts w A.tv.v t ∧ constE xs cs = pbE A.ty d t := by
  have nil : IsInts w (.slice none 0 0) [] := ⟨none, 0, rfl, by simp, by simp, by simp, fun _ => ⟨rfl, rfl⟩, fun h => by simp at h, fun z hz => by simp at hz⟩
  rcases find_zip (P := isA ⟨#[118, 97, 108, 117, 101]⟩ 4) hc with ⟨e1, e2⟩ | ⟨a, c, e1, e2, e3⟩
  · exact ⟨noAtr, false, [], [], by rw [e1]; rfl, by rw [e1]; rfl, nil, nil, by unfold constE; rw [e2]; rfl⟩
  · exact ⟨a, true, c.d, c.t, by rw [e1]; rfl, by rw [e1]; rfl, e3.d, e3.t, by unfold constE; rw [e2]⟩

set_option maxRecDepth 100000 in
set_option maxHeartbeats 6400000 in
theorem checkc_any (n : Nod) (xs : List Atr) (cs : List Cont) (ins : List ByteArray) (r : Option (Int × Int × List Ra)) (w : World) (hl : Laid w) (hin : IsStrs w n.iv.v ins) (hv : IsAttrs w n.av.v xs) (hc : ∀ (j : Nat) (a : Atr), xs[j]? = some a → ∃ c, cs[j]? = some c ∧ Has w a c) (hsz : ∀ a ∈ xs, a.s.size ≤ 4294967296)
    (hrule : ∀ wx, Laid wx → Calls Tryz.prog 103 #[.string n.op] wx fun e w' => Ruled r w' e ∧ wx.grownBy w' none) (hrs : ∀ lo hi rs, r = some (lo, hi, rs) → rs.length ≤ 20) :
    Calls Tryz.prog 86 #[nval n] w fun e w' => e = .returned (.int .i64 (checkF r n.op ins n.out xs cs)) ∧ w.grownBy w' none := by
  have TH := hide (fun (wx : World) (hx : w.grownBy wx none) => then_any n xs wx (hl.more hx) (hv.more hx) hsz)
  have CA := hide (fun (rv : Value) (rs : List Ra) (wx : World) (hx : w.grownBy wx none) (hr : IsRas wx rv rs) => checkattrs_any n xs rv rs wx (hv.more hx) hr)
  have CS := hide (fun (wx : World) (hx : w.grownBy wx none) => contains_str n.iv.v ins ⟨#[]⟩ wx (hin.more hx))
  have FN := hide (fun (p q : Nat) (wx : World) (hg : w.grownBy wx none) (hp : wx.heap[p]? = some (.cells #[.string ⟨#[118, 97, 108, 117, 101]⟩] 9 (0, 0))) (hq : wx.heap[q]? = some (.cells #[.int .i64 4] 3 (0, 0))) => first_named n xs p q ⟨#[118, 97, 108, 117, 101]⟩ 4 wx (hv.more hg) hp hq)
  obtain ⟨A, bA, dA, tA, hA1, hA2, hA3, hA4, hA5⟩ := value_of hc
  rw [hA1, hA2] at FN
  have HA3 := hide hA3
  have HA4 := hide hA4
  have HA5 := hide hA5
  clear hA1 hA2 hA3 hA4 hA5 hc
  have RU := hide (fun (wx : World) (hx : w.grownBy wx none) => hrule wx (hl.more hx))
  obtain ⟨op, nam, ⟨ia, il, ic⟩, out, ⟨ao, al, cap⟩⟩ := n
  obtain ⟨ia', ic', hiv, i1, i2, i3⟩ := hin.form
  obtain ⟨rfl, rfl, rfl⟩ : ia = ia' ∧ il = ins.length ∧ ic = ic' := by simpa [Sl.v] using hiv
  unfold nval at TH CA FN ⊢
  unfold aval at FN
  simp only [Sl.v] at TH CA CS RU FN ⊢
  clear hl hin hv hsz hrule hiv
  obtain ⟨w0, hw0⟩ : ∃ w0, w0 = w.alloc (.cells #[.string op, .string nam, .slice ia ins.length ic, .string out, .slice ao al cap] 36) := ⟨_, rfl⟩
  have g0 : w.grownBy w0 none := by rw [hw0]; exact grown_new _ _
  have hb0 := heap_alloc_new w (.cells #[.string op, .string nam, .slice ia ins.length ic, .string out, .slice ao al cap] 36)
  obtain ⟨n0, -⟩ := nod_cells (n := ⟨op, nam, ⟨ia, ins.length, ic⟩, out, ⟨ao, al, cap⟩⟩) hb0
  rw [← hw0] at hb0
  have HZ0 : Hid (w0.heap.size = w.heap.size + 1) := by show _ = _; rw [hw0]; simp
  have BX : Hid (∀ wx, w0.grownBy wx none → wx.heap[w.heap.size]? = some (.cells #[.string op, .string nam, .slice ia ins.length ic, .string out, .slice ao al cap] 36 (0, 0))) := fun wx hg => box_kept hb0 hg
  clear hb0
  go_enter Tryz.func86, Tryz.ntmps86
  go_wp2_with fail
  rw [← hw0]
  clear hw0 n0
  refine (RU.out w0 g0).mono ?_
  rintro e w1 ⟨hru, hg1⟩
  have g1 := grown_trans g0 hg1
  rcases hr : r with _ | ⟨lo, hi, rs⟩
  · rw [hr] at hru
    have hru : e = .returned (.tuple #[.agg #[.int .i64 0, .int .i64 0, .slice none 0 0], .bool false]) := hru
    subst hru
    have E : Hid (checkE r ins out xs = 5) := by show _ = _; rw [hr]; rfl
    clear hr hrs
    go_wp2
    go_ret
    exact ⟨by rw [checkF_no E.out (by decide)]; rfl, grown_trans g1 (grown_new _ _)⟩
  · rw [hr] at hru
    obtain ⟨a, nn, c, rfl, ho⟩ := hru
    have hrl : rs.length ≤ 20 := hrs lo hi rs hr
    have HC0 : Hid (checkE r ins out xs = if (ins.length : Int) < lo then 4 else if hi < (ins.length : Int) then 4 else if (out.toList == []) || ins.any (isS ⟨#[]⟩) then 5 else if attrsE rs xs = 0 then thenE (xs.find? (isA ⟨#[116, 104, 101, 110]⟩ 3)) else attrsE rs xs) := by show _ = _; rw [hr]; rfl
    clear hr
    obtain ⟨W1, hW1⟩ : ∃ W1, W1 = w1.alloc (.cells #[.int .i64 lo, .int .i64 hi, .slice a nn c] 146) := ⟨_, rfl⟩
    have G1 : w1.grownBy W1 none := by rw [hW1]; exact grown_new _ _
    have B1 := heap_alloc_new w1 (.cells #[.int .i64 lo, .int .i64 hi, .slice a nn c] 146)
    obtain ⟨z0, z1, z2, -⟩ := rule_cells B1
    have IR := hide (ho.isL (bytes := 32) rcells_len (by omega))
    have g2 := grown_trans g1 G1
    have g02 := grown_trans hg1 G1
    obtain ⟨n0, n1, n2, n3, n4⟩ := nod_cells (n := ⟨op, nam, ⟨ia, ins.length, ic⟩, out, ⟨ao, al, cap⟩⟩) (BX.out W1 g02)
    have RB : Hid (∀ wx, W1.grownBy wx none → wx.heap[w1.heap.size]? = some (.cells #[.int .i64 lo, .int .i64 hi, .slice a nn c] 146 (0, 0))) := fun wx hg => box_kept (by rw [hW1]; exact B1) hg
    rw [hW1] at n0 n1 n2 n3 n4
    clear B1 hrs ho
    by_cases h4 : (ins.length : Int) < lo
    · have E : Hid (checkE r ins out xs = 4) := by show _ = _; rw [HC0.out, if_pos h4]
      go_wp2
      rw [← hW1]
      go_ret
      exact ⟨by rw [checkF_no E.out (by decide)]; rfl, g2⟩
    · by_cases h5 : hi < (ins.length : Int)
      · have E : Hid (checkE r ins out xs = 4) := by show _ = _; rw [HC0.out, if_neg h4, if_pos h5]
        go_wp2
        rw [← hW1]
        go_ret
        exact ⟨by rw [checkF_no E.out (by decide)]; rfl, g2⟩
      · have HC1 : Hid (checkE r ins out xs = if (out.toList == []) || ins.any (isS ⟨#[]⟩) then 5 else if attrsE rs xs = 0 then thenE (xs.find? (isA ⟨#[116, 104, 101, 110]⟩ 3)) else attrsE rs xs) := by show _ = _; rw [HC0.out, if_neg h4, if_neg h5]
        by_cases ho6 : (out.toList == []) = true
        · have E : Hid (checkE r ins out xs = 5) := by show _ = _; rw [HC1.out, ho6]; rfl
          go_wp2
          rw [← hW1]
          go_ret
          exact ⟨by rw [checkF_no E.out (by decide)]; rfl, g2⟩
        · have ho7 : (out.toList == []) = false := by simpa using ho6
          have HO7 := hide ho7
          clear ho6
          go_wp2_with fail
          rw [← hW1]
          clear hW1 z0 z1 z2 n0 n1 n2 n3 n4
          refine (CS.out W1 g2).mono ?_
          rintro e w3 ⟨rfl, hg3⟩
          have g3 := grown_trans g2 hg3
          obtain ⟨z0, z1, z2, -⟩ := rule_cells (RB.out w3 hg3)
          obtain ⟨n0, n1, n2, n3, n4⟩ := nod_cells (n := ⟨op, nam, ⟨ia, ins.length, ic⟩, out, ⟨ao, al, cap⟩⟩) (BX.out w3 (grown_trans g02 hg3))
          cases hany : ins.any (isS ⟨#[]⟩) with
          | true =>
            have E : Hid (checkE r ins out xs = 5) := by show _ = _; rw [HC1.out, hany, Bool.or_true]; rfl
            clear hany
            go_wp2
            go_ret
            exact ⟨by rw [checkF_no E.out (by decide)]; rfl, g3⟩
          | false =>
            have HC2 : Hid (checkE r ins out xs = if attrsE rs xs = 0 then thenE (xs.find? (isA ⟨#[116, 104, 101, 110]⟩ 3)) else attrsE rs xs) := by show _ = _; rw [HC1.out, hany, HO7.out]; rfl
            clear hany
            go_wp2_with fail
            refine (CA.out _ rs w3 g3 (IR.out.more (grown_trans G1 hg3))).mono ?_
            rintro e w4 ⟨rfl, hg4⟩
            have g4 := grown_trans g3 hg4
            clear z0 z1 z2 n0 n1 n2 n3 n4
            obtain ⟨n0, n1, n2, n3, n4⟩ := nod_cells (n := ⟨op, nam, ⟨ia, ins.length, ic⟩, out, ⟨ao, al, cap⟩⟩) (BX.out w4 (grown_trans (grown_trans g02 hg3) hg4))
            obtain ⟨X, hX⟩ : ∃ X, X = attrsE rs xs := ⟨_, rfl⟩
            rw [← hX] at HC2
            rw [← hX]
            clear hX
            by_cases h0 : X = 0
            · subst h0
              have HC3 : Hid (checkE r ins out xs = thenE (xs.find? (isA ⟨#[116, 104, 101, 110]⟩ 3))) := by show _ = _; rw [HC2.out]; rfl
              go_wp2_with fail
              refine (TH.out w4 g4).mono ?_
              rintro e w5 ⟨v, rfl, ho5, hg5⟩
              have g5 := grown_trans g4 hg5
              obtain ⟨va, vc, rfl⟩ := OwnsL.form ho5
              clear n0 n1 n2 n3 n4 ho5
              obtain ⟨n0, n1, n2, n3, n4⟩ := nod_cells (n := ⟨op, nam, ⟨ia, ins.length, ic⟩, out, ⟨ao, al, cap⟩⟩) (BX.out w5 (grown_trans (grown_trans (grown_trans g02 hg3) hg4) hg5))
              obtain ⟨Y, hY⟩ : ∃ Y, Y = thenE (xs.find? (isA ⟨#[116, 104, 101, 110]⟩ 3)) := ⟨_, rfl⟩
              rw [← hY] at HC3
              rw [← hY]
              clear hY
              by_cases h1 : Y = 0
              · subst h1
                by_cases hop : (op.toList == [67, 111, 110, 115, 116, 97, 110, 116]) = true
                · have EF : Hid (checkF r op ins out xs cs = pbE A.ty dA tA) := by
                    show _ = _
                    unfold checkF
                    rw [if_neg (by rw [HC3.out]; simp), if_pos hop, HA5.out]
                  have g05 := grown_trans (grown_trans (grown_trans g02 hg3) hg4) hg5
                  have HZ5 : Hid (w.heap.size < w5.heap.size) := by have := g05.size; have := HZ0.out; show _ < _; omega
                  go_wp2_with fail
                  go_cut [8, 9] from 58 to 66 (fun p b wx => ∃ N : Nat, p = .pointer (some ⟨N, 0, none⟩) ∧ wx.heap[N]? = some (.cells #[.string A.name, .int .i64 A.kind, .int .i64 A.f, .int .i64 A.i, .string A.s, .int .i64 A.ty, .slice A.dv.a A.dv.n A.dv.c, .slice A.tv.a A.tv.n A.tv.c, .slice A.iv.a A.iv.n A.iv.c] 41 (0, 0)) ∧ w.grownBy wx none)
                  case first =>
                    have gd := grown_drew (grown_refl w5)
                    go_region_held3 (fun w' => w'.cell? ⟨w.heap.size, 0, none⟩ = some (.string op) ∧ w'.cell? ⟨w.heap.size, 1, none⟩ = some (.string nam) ∧ w'.cell? ⟨w.heap.size, 2, none⟩ = some (.slice ia ins.length ic) ∧ w'.cell? ⟨w.heap.size, 3, none⟩ = some (.string out) ∧ w'.cell? ⟨w.heap.size, 4, none⟩ = some (.slice ao al cap)) (go_keep) (first | (go_at_call 73; refine (named_any _ _ _).mono ?_; rintro e w1 ⟨rfl, hp1, hq1, hg1⟩; have g51 : w5.grownBy w1 none := (by first | exact grown_trans gd hg1 | exact grown_trans (grown_trans gd (grown_new _ _)) hg1); obtain ⟨n0, n1, n2, n3, n4⟩ := nod_cells (n := ⟨op, nam, ⟨ia, ins.length, ic⟩, out, ⟨ao, al, cap⟩⟩) (BX.out w1 (grown_trans g05 g51)); have hz1 : w.heap.size ≠ w1.heap.size := (by have := g51.size; have := HZ5.out; omega); have hzz : w.heap.size ≠ w5.heap.size := (by have := HZ5.out; omega); have hz1' := hz1.symm; have hzz' := hzz.symm; try (have hp2 : w1.heap[w5.heap.size + 1]? = some (.cells #[.string ⟨#[118, 97, 108, 117, 101]⟩] 9 (0, 0)) := (by have h := hp1; rw [show ((w5.alloc (.cells #[.string ⟨#[]⟩, .int .i64 0, .int .i64 0, .int .i64 0, .string ⟨#[]⟩, .int .i64 0, .slice none 0 0, .slice none 0 0, .slice none 0 0] 41)).drew).heap.size = w5.heap.size + 1 by simp] at h; exact h)); try (have hq2 : w1.heap[w5.heap.size + 1 + 1]? = some (.cells #[.int .i64 4] 3 (0, 0)) := (by have h := hq1; rw [show ((w5.alloc (.cells #[.string ⟨#[]⟩, .int .i64 0, .int .i64 0, .int .i64 0, .string ⟨#[]⟩, .int .i64 0, .slice none 0 0, .slice none 0 0, .slice none 0 0] 41)).drew).heap.size = w5.heap.size + 1 by simp] at h; exact h)); try (have kz : w1.heap[w5.heap.size]? = some (.cells #[.string ⟨#[]⟩, .int .i64 0, .int .i64 0, .int .i64 0, .string ⟨#[]⟩, .int .i64 0, .slice none 0 0, .slice none 0 0, .slice none 0 0] 41 (0, 0)) := box_kept (show ((w5.alloc (.cells #[.string ⟨#[]⟩, .int .i64 0, .int .i64 0, .int .i64 0, .string ⟨#[]⟩, .int .i64 0, .slice none 0 0, .slice none 0 0, .slice none 0 0] 41)).drew).heap[w5.heap.size]? = _ from heap_alloc_new w5 _) hg1)) | (go_at_call 72; refine (FN.out _ _ _ (by first | exact grown_trans g5 g51 | exact grown_trans (grown_trans g5 g51) (grown_new _ _)) (by first | exact hp1 | exact hp2 | exact box_kept hp1 (grown_new _ _)) (by first | exact hq1 | exact hq2 | exact box_kept hq1 (grown_new _ _))).mono ?_; rintro e w2 ⟨rfl, hg2⟩; have g52 : w5.grownBy w2 none := (by first | exact grown_trans g51 hg2 | exact grown_trans (grown_trans g51 (grown_new _ _)) hg2); obtain ⟨n0, n1, n2, n3, n4⟩ := nod_cells (n := ⟨op, nam, ⟨ia, ins.length, ic⟩, out, ⟨ao, al, cap⟩⟩) (BX.out w2 (grown_trans g05 g52)); try (first | have kz2 := box_kept kz hg2 | have kz2 : w2.heap[w1.heap.size]? = some (.cells #[.string ⟨#[]⟩, .int .i64 0, .int .i64 0, .int .i64 0, .string ⟨#[]⟩, .int .i64 0, .slice none 0 0, .slice none 0 0, .slice none 0 0] 41 (0, 0)) := box_kept (heap_alloc_new w1 _) hg2); try (obtain ⟨f0, f1, f2, f3, f4, f5, f6, f7, f8⟩ := atr_frozen kz2); try (obtain ⟨k0, k1, k2, k3, k4, k5, k6, k7, k8⟩ := atr_cells (a := noAtr) kz2)))
                    · have GG := hide (grown_trans g5 g52)
                      go_wp2_with fail
                      go_meet
                      exact ⟨_, rfl, heap_alloc_new w2 _, grown_trans GG.out (grown_new w2 _)⟩
                    · obtain ⟨hX, gX⟩ := store9 (.string A.name) (.int .i64 A.kind) (.int .i64 A.f) (.int .i64 A.i) (.string A.s) (.int .i64 A.ty) (.slice A.dv.a A.dv.n A.dv.c) (.slice A.tv.a A.tv.n A.tv.c) (.slice A.iv.a A.iv.n A.iv.c) (grown_trans g5 g52) (show w.heap.size ≤ w1.heap.size by have := g51.size; have := HZ5.out; omega) kz2
                      have HX := hide hX
                      have GX := hide gX
                      clear hX gX
                      go_wp2_with fail
                      go_meet
                      exact ⟨_, rfl, HX.out, GX.out⟩
                    · obtain ⟨hX, gX⟩ := store9 (.string A.name) (.int .i64 A.kind) (.int .i64 A.f) (.int .i64 A.i) (.string A.s) (.int .i64 A.ty) (.slice A.dv.a A.dv.n A.dv.c) (.slice A.tv.a A.tv.n A.tv.c) (.slice A.iv.a A.iv.n A.iv.c) (grown_trans g5 g52) (show w.heap.size ≤ w5.heap.size by have := HZ5.out; omega) kz2
                      have HX := hide hX
                      have GX := hide gX
                      clear hX gX
                      go_wp2_with fail
                      go_meet
                      exact ⟨_, rfl, HX.out, GX.out⟩
                  case rest =>
                    obtain ⟨N, rfl, hN, hg⟩ := hcut
                    obtain ⟨-, -, -, -, -, c5, c6, c7, -⟩ := atr_cells hN
                    have HG := hide hg
                    have PB := hide (pbcheck_any A.ty A.dv.v A.tv.v dA tA wc (HA3.out.more hg) (HA4.out.more hg))
                    clear hN hg n0 n1 n2 n3 n4
                    go_wp2_with fail
                    refine PB.out.mono ?_
                    rintro e w6 ⟨rfl, hg6⟩
                    go_wp2
                    go_ret
                    exact ⟨by rw [EF.out]; rfl, grown_trans HG.out hg6⟩
                · have hop' : (op.toList == [67, 111, 110, 115, 116, 97, 110, 116]) = false := by simpa using hop
                  have EF : Hid (checkF r op ins out xs cs = 0) := by
                    show _ = _
                    unfold checkF
                    rw [if_neg (by rw [HC3.out]; simp), if_neg hop]
                  clear hop
                  go_wp2
                  go_ret
                  exact ⟨by rw [EF.out]; rfl, g5⟩
              · have h2 : (Y == 0) = false := by simpa using h1
                have h3' : (Y != 0) = true := by simp [bne, h2]
                have HY0 := hide h1
                clear h1
                go_wp2
                go_ret
                exact ⟨by rw [checkF_no HC3.out HY0.out]; rfl, g5⟩
            · have E : Hid (checkE r ins out xs = X) := by show _ = _; rw [HC2.out, if_neg h0]
              have h2 : (X == 0) = false := by simpa using h0
              have h3' : (X != 0) = true := by simp [bne, h2]
              have HX0 := hide h0
              clear h0
              go_wp2
              go_ret
              exact ⟨by rw [checkF_no E.out HX0.out]; rfl, g4⟩

theorem rules_few : ∀ r ∈ rules, r.2.2.2.length ≤ 20 := by decide

/-- schema.Check of any node. -/
theorem check_all (n : Nod) (xs : List Atr) (cs : List Cont) (ins : List ByteArray) (w : World) (hl : Laid w) (hin : IsStrs w n.iv.v ins) (hv : IsAttrs w n.av.v xs) (hc : ∀ (j : Nat) (a : Atr), xs[j]? = some a → ∃ c, cs[j]? = some c ∧ Has w a c) (hsz : ∀ a ∈ xs, a.s.size ≤ 4294967296) :
    Calls Tryz.prog 86 #[nval n] w fun e w' => e = .returned (.int .i64 (checkF (ruleF n.op) n.op ins n.out xs cs)) ∧ w.grownBy w' none := by
  refine checkc_any n xs cs ins (ruleF n.op) w hl hin hv hc hsz (fun wx h => ruleof_any n.op wx h) ?_
  intro lo hi rs h
  unfold ruleF at h
  cases hf : rules.find? (fun r => r.1 == n.op.toList) with
  | none => rw [hf] at h; cases h
  | some r =>
    rw [hf] at h
    have := rules_few r (List.mem_of_find?_eq_some hf)
    simp only [Option.map_some, Option.some.injEq] at h
    rw [h] at this
    exact this
end Go.Proofs.YtfladhogkhhlcaaGreatDoor
