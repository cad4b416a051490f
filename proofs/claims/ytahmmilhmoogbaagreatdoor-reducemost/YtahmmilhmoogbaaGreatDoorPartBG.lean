/- Joined texts: RdEach, RdRun, RdSoft. -/
import Derived.Test.YtahmmilhmoogbaaGreatDoorPartBF
import Derived.Deep.RegionHeld3
namespace Go.Proofs.YtahmmilhmoogbaaGreatDoor

open Go.RowKit

theorem furF_all {d m : Nat} {g : Bool} {ps : List Int} (hd : 1 ≤ d) (h : ∀ p : Nat, p < m → (p : Int) ∈ ps) : ∀ p : Nat, p < m * (if g = true then 1 else d) → (p : Int) ∈ furF d g ps := by
  intro p hp
  unfold furF
  refine List.mem_flatMap.2 ?_
  cases g with
  | true =>
    rw [if_pos rfl, Nat.mul_one] at hp
    exact ⟨p, h p hp, List.mem_map.2 ⟨0, List.mem_range.2 hd, by simp [furG]⟩⟩
  | false =>
    rw [if_neg (by decide)] at hp
    refine ⟨((p / d : Nat) : Int), h _ (Nat.div_lt_of_lt_mul (by rw [Nat.mul_comm]; exact hp)), List.mem_map.2 ⟨p % d, List.mem_range.2 (Nat.mod_lt _ hd), ?_⟩⟩
    simp only [furG, Bool.false_eq_true, if_false]
    rw [← Int.natCast_mul, ← Int.natCast_add, Nat.mul_comm]
    exact congrArg Int.ofNat (Nat.div_add_mod p d)

theorem plF_all : ∀ (n : Nat) (x : List Int) (gone : List Bool), x.length = n → gone.length = n → (∀ z ∈ x, 1 ≤ z) → ∀ p : Nat, p < cntF x gone → (p : Int) ∈ plF x gone [0]
  | 0, x, gone, h1, h2, _, p, hp => by
    rw [List.length_eq_zero_iff.1 h1, List.length_eq_zero_iff.1 h2] at hp ⊢
    simp [cntF] at hp
    subst hp
    simp [plF]
  | n + 1, x, gone, h1, h2, hx, p, hp => by
    obtain ⟨ds, d, rfl⟩ : ∃ ds d, x = ds ++ [d] := ⟨x.dropLast, x.getLast (by intro e; rw [e] at h1; simp at h1), (List.dropLast_concat_getLast _).symm⟩
    obtain ⟨gs, g, rfl⟩ : ∃ gs g, gone = gs ++ [g] := ⟨gone.dropLast, gone.getLast (by intro e; rw [e] at h2; simp at h2), (List.dropLast_concat_getLast _).symm⟩
    have e1 : ds.length = n := by simpa using h1
    have e2 : gs.length = n := by simpa using h2
    have hd : 1 ≤ d := hx d (by simp)
    rw [cntF_snoc d g ds gs (by omega)] at hp
    rw [plF_snoc d g ds gs _ (by omega)]
    exact furF_all (by omega) (plF_all n ds gs e1 e2 (fun z hz => hx z (List.mem_append_left _ hz))) p hp

theorem grpR_pos {pl : List Int} {p : Nat} (h : (p : Int) ∈ pl) : 0 < (grpR pl pl.length p).length := by
  obtain ⟨i, hi, e⟩ := List.mem_iff_getElem.1 h
  unfold grpR
  rw [List.length_map]
  refine List.length_pos_of_mem (a := i) (List.mem_filter.2 ⟨List.mem_range.2 hi, ?_⟩)
  simp [List.getD, hi, e]

theorem row_base_leR {w : World} {base b' : Nat} {e : TypeId} {size : Nat} {v : Value} {n : Nat} {xs : List Value} (h : w.ownsRow base e size v n xs) (hb : b' ≤ base) : w.ownsRow b' e size v n xs := by
  refine ⟨h.1, ?_⟩
  rcases h.2 with h0 | ⟨g, cap, cur, e, hg, r⟩
  · exact .inl h0
  · exact .inr ⟨g, cap, cur, e, by omega, r⟩

def eachL (f : List Int → Int) (xs pl : List Int) (c : Nat) : List Int := (List.range c).map fun p => f (pickL xs (grpR pl pl.length p))

def Rng (z : Int) : Prop := -9223372036854775808 ≤ z ∧ z ≤ 9223372036854775807

theorem each_step (f : List Int → Int) (xs pl : List Int) (k : Nat) : eachL f xs pl (k + 1) = eachL f xs pl k ++ [f (pickL xs (grpR pl pl.length k))] := by
  unfold eachL
  rw [List.range_succ, List.map_append]
  rfl

set_option maxRecDepth 100000 in
set_option maxHeartbeats 8000000 in
theorem each_sum (n : Nod) (A : At) (X : Ten) (x xs : List Int) (gone : List Bool) (f : List Int → Int) (b : Nat) (w : World) (hn : NodeOk w n A) (hx : IsInts w X.dv.v x) (hxs : IsInts w X.tv.v xs) (hf : Fine x) (hl : (xs.length : Int) = prod x) (hax : axesO x.length (alongP A x.length) (List.replicate x.length false) = some gone) (hgl : gone.length = x.length) (hF : ∀ ys : List Int, (∀ y ∈ ys, Rng y) → 0 < ys.length → ys.length ≤ 65536 → Rng (f ys))
    (W : ∀ (wx : World) (u : Sl) (ys : List Int), w.grownBy wx none → IsInts wx u.v ys → 0 < ys.length → ys.length ≤ 65536 → Calls Tryz.prog 40 #[.slice u.a u.n u.c, .pointer (some ⟨b, 0, none⟩)] wx fun e w' => e = .returned (.int .i64 (f ys)) ∧ wx.grownBy w' none) :
    Calls Tryz.prog 22 #[nval n, .agg #[.int .i64 X.ty, .slice X.dv.a X.dv.n X.dv.c, .slice X.tv.a X.tv.n X.tv.c], .func (.func 40) #[] #[.pointer (some ⟨b, 0, none⟩)]] w fun e w' => ∃ s : Sl, e = .returned (.slice s.a s.n s.c) ∧ OwnsE w' w.heap.size s.v (eachL f xs (plF x gone [0]) (cntF x gone)) ∧ w.grownBy w' none := by
  obtain ⟨i0, hi0, hz0, hz1, hz2⟩ := info_parts info64E
  obtain ⟨ty, ⟨da, dn, dc⟩, ⟨ta, tn, tc⟩⟩ := X
  simp only [Sl.v] at hx hxs ⊢
  have HX := hide hx
  have HXS := hide hxs
  have HW := hide W
  have HFR := hide hF
  have PL0 := pls_any x.length x gone rfl hgl hf.pos
  have ALL := hide (plF_all x.length x gone rfl hgl hf.pos)
  have hpl : ((plF x gone [0]).length : Int) = xs.length := by rw [PL0.len, hl]
  have hc1 : cntF x gone ≤ 65536 := by have := PL0.cnt; have := hf.le; omega
  have hl1 : xs.length ≤ 65536 := by have := hf.le; omega
  obtain ⟨_, _, exs, e1, e2, e3⟩ := hxs.sl
  simp only [Value.slice.injEq] at exs
  obtain ⟨rfl, rfl, rfl⟩ := exs
  have GRP : Hid (∀ wx, w.grownBy wx none → Calls Tryz.prog 37 #[nval n, .slice da dn dc] wx fun e w' => ∃ (base Bw : Nat) (rs : List Sl), wx.heap.size ≤ base ∧ e = .returned (.slice (some ⟨Bw, 0, none⟩) (cntF x gone) (cntF x gone)) ∧ Gr w' base Bw (cntF x gone) (grpL (plF x gone [0]) (cntF x gone) (plF x gone [0]).length) rs ∧ wx.grownBy w' none) := fun wx hg => groups_any n A ⟨da, dn, dc⟩ x gone wx (hn.more hg) (hx.more hg) hf hax hgl
  obtain ⟨PL, hPL⟩ : ∃ PL, PL = plF x gone [0] := ⟨_, rfl⟩
  obtain ⟨C, hC⟩ : ∃ C, C = cntF x gone := ⟨_, rfl⟩
  rw [← hPL] at GRP ALL hpl ⊢
  rw [← hC] at GRP ALL hc1 ⊢
  clear hx hxs W hF PL0 hPL hC hf hax hgl hl
  have NK := hide hn
  obtain ⟨op, nam, ⟨ia, il, ic⟩, out, ⟨ao, al, cap⟩⟩ := n
  unfold nval
  simp only
  obtain ⟨w0, hw0⟩ : ∃ w0, w0 = w.alloc (.cells #[.string op, .string nam, .slice ia il ic, .string out, .slice ao al cap] 35) := ⟨_, rfl⟩
  have g0 : Hid (w.grownBy w0 none) := by show w.grownBy w0 none; rw [hw0]; exact grown_new _ _
  have hb0 := heap_alloc_new w (.cells #[.string op, .string nam, .slice ia il ic, .string out, .slice ao al cap] 35)
  rw [← hw0] at hb0
  have BX : Hid (∀ wx, w0.grownBy wx none → wx.heap[w.heap.size]? = some (.cells #[.string op, .string nam, .slice ia il ic, .string out, .slice ao al cap] 35 (0, 0))) := fun wx hg => box_kept hb0 hg
  clear hb0 hn
  unfold nval at GRP
  simp only at GRP
  obtain ⟨w1, hw1⟩ : ∃ w1, w1 = w0.alloc (.cells #[.int .i64 ty, .slice da dn dc, .slice ta xs.length tc] 25) := ⟨_, rfl⟩
  have hb1 := heap_alloc_new w0 (.cells #[.int .i64 ty, .slice da dn dc, .slice ta xs.length tc] 25)
  rw [← hw1] at hb1
  have g1 : w0.grownBy w1 none := by rw [hw1]; exact grown_new _ _
  have hs0 : w0.heap.size = w.heap.size + 1 := by rw [hw0]; simp
  rw [hs0] at hb1
  have BT : Hid (∀ wx, w1.grownBy wx none → wx.heap[w.heap.size + 1]? = some (.cells #[.int .i64 ty, .slice da dn dc, .slice ta xs.length tc] 25 (0, 0))) := fun wx hg => box_kept hb1 hg
  have G1 := hide (grown_trans g0.out g1)
  obtain ⟨n0, n1, n2, n3, n4⟩ := nod_cells (n := ⟨op, nam, ⟨ia, il, ic⟩, out, ⟨ao, al, cap⟩⟩) (BX.out w1 g1)
  obtain ⟨t0, t1, t2⟩ := ten_cells hb1
  have GR := hide (GRP.out w1 G1.out)
  rw [hw1, hw0] at n0 n1 n2 n3 n4 t0 t1 t2
  clear hb1 g1 GRP hs0
  go_enter Tryz.func22, Tryz.ntmps22
  go_wp2_with fail
  rw [← hw0, ← hw1]
  clear hw0 hw1 n0 n1 n2 n3 n4 t0 t1 t2
  refine GR.out.mono ?_
  rintro e w2 ⟨base, Bw, rs, hbase, rfl, hgr, hg2⟩
  have HGR := hide hgr
  have G2 := hide hg2
  clear hgr hg2 hbase GR
  go_wp2
  go_loopw [7, 15] (fun s i wr => ∃ (k : Nat) (u : Sl), k ≤ C ∧ i = .int .i64 k ∧ s = .slice u.a u.n u.c ∧ OwnsE wr w2.heap.size u.v (eachL f xs PL k) ∧ w2.grownBy wr none) (fun _ i _ => C - (intOf i).toNat)
  case atStart => exact ⟨0, ⟨none, 0, 0⟩, Nat.zero_le _, rfl, rfl, ⟨⟨by simp [eachL], .inl ⟨rfl, by simp [eachL]⟩⟩, by simp [eachL], fun z hz => by simp [eachL] at hz⟩, grown_refl _⟩
  case round =>
    obtain ⟨k, ⟨sa, sn, sc⟩, hk, rfl, rfl, ho, hg⟩ := hrel
    simp only
    have HO := hide ho
    have HG := hide hg
    have hsz := hg.size
    by_cases hlt : k < C
    · have gx := grown_trans G1.out (grown_trans G2.out hg)
      obtain ⟨rc, -⟩ := (HGR.out.new hg).rd hlt
      have EA := (HGR.out.new hg).each k hlt
      rw [grpL_at PL C PL.length k hlt] at EA
      obtain ⟨⟨ra, rn, rcap⟩, hrv⟩ : ∃ s, s = rs.getD k nilG := ⟨_, rfl⟩
      rw [← hrv] at rc EA
      simp only at rc
      have hpos := grpR_pos (ALL.out k hlt)
      have hle := grpR_le PL PL.length k
      have PK := hide (picked_any ⟨ta, xs.length, tc⟩ ⟨ra, rn, rcap⟩ xs (grpR PL PL.length k) wr (HXS.out.more gx) EA.ints (by omega) (fun z hz => by have := grpR_mem PL PL.length k z hz; omega))
      simp only at PK
      have HST := hide (each_step f xs PL k)
      have hel : (eachL f xs PL k).length = k := by simp [eachL]
      have RG := HFR.out (pickL xs (grpR PL PL.length k)) (fun y hy => by
        unfold pickL at hy
        obtain ⟨z, hz, rfl⟩ := List.mem_map.1 hy
        have hzz := grpR_mem PL PL.length k z hz
        exact HXS.out.wf _ (by simp [List.getD, show z.toNat < xs.length by omega])) (by unfold pickL; rw [List.length_map]; exact hpos) (by unfold pickL; rw [List.length_map]; omega)
      have lp : 0 < (pickL xs (grpR PL PL.length k)).length ∧ (pickL xs (grpR PL PL.length k)).length ≤ 65536 := by unfold pickL; rw [List.length_map]; exact ⟨hpos, by omega⟩
      have CW : Hid (∀ (wx : World) (u : Sl), wr.grownBy wx none → IsInts wx u.v (pickL xs (grpR PL PL.length k)) → Calls Tryz.prog 40 #[.slice u.a u.n u.c, .pointer (some ⟨b, 0, none⟩)] wx fun e w' => e = .returned (.int .i64 (f (pickL xs (grpR PL PL.length k)))) ∧ wx.grownBy w' none) := fun wx u h1 h2 => HW.out wx u _ (grown_trans gx h1) h2 lp.1 lp.2
      obtain ⟨t0, t1, t2⟩ := ten_cells (BT.out wr (grown_trans G2.out hg))
      obtain ⟨y, hy⟩ : ∃ y, y = f (pickL xs (grpR PL PL.length k)) := ⟨_, rfl⟩
      rw [← hy] at CW HST RG
      unfold Rng at RG
      have l1 : (k : Int) < (C : Int) := by omega
      clear ho hg gx EA hrv hpos hle lp hy
      go_wp2_with (first | (go_at_call 38; refine PK.out.mono ?_; rintro e w3 ⟨⟨pa, pn, pc⟩, rfl, hp3, hg3⟩; simp only) | fail)
      refine (CW.out w3 ⟨pa, pn, pc⟩ hg3 hp3).mono ?_
      rintro e w4 ⟨rfl, hg4⟩
      have h34 := grown_trans hg3 hg4
      have HO4 := HO.out.more h34 (by cases (Sl.v ⟨sa, sn, sc⟩).ownBlock <;> simp)
      have HG4 := hide (grown_trans HG.out h34)
      have sz4 := h34.size
      have OW : Hid (∀ o, (w4.alloc o).ownsRow w2.heap.size 2 1 (.slice sa sn sc) k ((eachL f xs PL k).map (Value.int .i64))) := fun o => ownsE_at (HO4.more (grown_new _ o) (by cases (Sl.v ⟨sa, sn, sc⟩).ownBlock <;> simp)) hel
      have HLT := hide (fun r (e : (Value.slice sa sn sc).ownBlock = some r) => (World.ownsRow.lt HO4.1 r e).1)
      clear hp3 hg3 hg4 h34 HO4
      go_wp2_with (first | (at_builtin; refine wpList_append_lies _ rfl (.tmp 19) (.tmp 26) 23 rfl w2.heap.size 2 i0 (.int .i64 0) 1 8 Tryz.underlying23 hi0 hz0 hz1 hz2 rfl (by decide) (.slice sa sn sc) k ((eachL f xs PL k).map (Value.int .i64)) rfl (by exact OW.out _) ⟨w4.heap.size, 0, none⟩ 1 1 [.int .i64 y] rfl rfl (by exact World.news_of_block (by have h := heap_alloc_new w4 (.cells #[.int .i64 y] 2); simpa using h)) (int_one y) (by omega) (by simp only [maxLen]; omega) (by omega) (by simp; omega) (w4.heap.size + 1) (by simp) ?_; intro gg cap8 w8 hown8 hgrow hat hlt8) | fail)
      have N1 := hide (ownsE_snoc hel hown8 (by omega) HO.out.2.2 RG)
      have N2 := hide (grown_trans_row (grown_trans HG4.out (grown_new _ _)) hgrow (fun r e => HLT.out r e))
      clear hown8 hgrow hat hlt8 HLT OW
      go_roundw
      case rel => exact ⟨k + 1, ⟨some ⟨gg, 0, none⟩, k + 1, cap8⟩, by omega, by go_num, rfl, by rw [HST.out]; exact N1.out, N2.out⟩
      case measure => simp [intOf]; omega
    · have hke : k = C := by omega
      subst hke
      have gx := hide (grown_trans G1.out (grown_trans G2.out hg))
      have hz := hide (Nat.le_trans G1.out.size G2.out.size)
      clear ho hg
      go_wp2
      go_ret
      exact ⟨⟨sa, sn, sc⟩, rfl, ⟨row_base_leR HO.out.1 hz.out, HO.out.2⟩, gx.out⟩

set_option maxRecDepth 100000 in
set_option maxHeartbeats 8000000 in
theorem each_max (n : Nod) (A : At) (X : Ten) (x xs : List Int) (gone : List Bool) (f : List Int → Int) (b : Nat) (w : World) (hn : NodeOk w n A) (hx : IsInts w X.dv.v x) (hxs : IsInts w X.tv.v xs) (hf : Fine x) (hl : (xs.length : Int) = prod x) (hax : axesO x.length (alongP A x.length) (List.replicate x.length false) = some gone) (hgl : gone.length = x.length) (hF : ∀ ys : List Int, (∀ y ∈ ys, Rng y) → 0 < ys.length → ys.length ≤ 65536 → Rng (f ys))
    (W : ∀ (wx : World) (u : Sl) (ys : List Int), w.grownBy wx none → IsInts wx u.v ys → 0 < ys.length → ys.length ≤ 65536 → Calls Tryz.prog 43 #[.slice u.a u.n u.c, .pointer (some ⟨b, 0, none⟩)] wx fun e w' => e = .returned (.int .i64 (f ys)) ∧ wx.grownBy w' none) :
    Calls Tryz.prog 22 #[nval n, .agg #[.int .i64 X.ty, .slice X.dv.a X.dv.n X.dv.c, .slice X.tv.a X.tv.n X.tv.c], .func (.func 43) #[] #[.pointer (some ⟨b, 0, none⟩)]] w fun e w' => ∃ s : Sl, e = .returned (.slice s.a s.n s.c) ∧ OwnsE w' w.heap.size s.v (eachL f xs (plF x gone [0]) (cntF x gone)) ∧ w.grownBy w' none := by
  obtain ⟨i0, hi0, hz0, hz1, hz2⟩ := info_parts info64E
  obtain ⟨ty, ⟨da, dn, dc⟩, ⟨ta, tn, tc⟩⟩ := X
  simp only [Sl.v] at hx hxs ⊢
  have HX := hide hx
  have HXS := hide hxs
  have HW := hide W
  have HFR := hide hF
  have PL0 := pls_any x.length x gone rfl hgl hf.pos
  have ALL := hide (plF_all x.length x gone rfl hgl hf.pos)
  have hpl : ((plF x gone [0]).length : Int) = xs.length := by rw [PL0.len, hl]
  have hc1 : cntF x gone ≤ 65536 := by have := PL0.cnt; have := hf.le; omega
  have hl1 : xs.length ≤ 65536 := by have := hf.le; omega
  obtain ⟨_, _, exs, e1, e2, e3⟩ := hxs.sl
  simp only [Value.slice.injEq] at exs
  obtain ⟨rfl, rfl, rfl⟩ := exs
  have GRP : Hid (∀ wx, w.grownBy wx none → Calls Tryz.prog 37 #[nval n, .slice da dn dc] wx fun e w' => ∃ (base Bw : Nat) (rs : List Sl), wx.heap.size ≤ base ∧ e = .returned (.slice (some ⟨Bw, 0, none⟩) (cntF x gone) (cntF x gone)) ∧ Gr w' base Bw (cntF x gone) (grpL (plF x gone [0]) (cntF x gone) (plF x gone [0]).length) rs ∧ wx.grownBy w' none) := fun wx hg => groups_any n A ⟨da, dn, dc⟩ x gone wx (hn.more hg) (hx.more hg) hf hax hgl
  obtain ⟨PL, hPL⟩ : ∃ PL, PL = plF x gone [0] := ⟨_, rfl⟩
  obtain ⟨C, hC⟩ : ∃ C, C = cntF x gone := ⟨_, rfl⟩
  rw [← hPL] at GRP ALL hpl ⊢
  rw [← hC] at GRP ALL hc1 ⊢
  clear hx hxs W hF PL0 hPL hC hf hax hgl hl
  have NK := hide hn
  obtain ⟨op, nam, ⟨ia, il, ic⟩, out, ⟨ao, al, cap⟩⟩ := n
  unfold nval
  simp only
  obtain ⟨w0, hw0⟩ : ∃ w0, w0 = w.alloc (.cells #[.string op, .string nam, .slice ia il ic, .string out, .slice ao al cap] 35) := ⟨_, rfl⟩
  have g0 : Hid (w.grownBy w0 none) := by show w.grownBy w0 none; rw [hw0]; exact grown_new _ _
  have hb0 := heap_alloc_new w (.cells #[.string op, .string nam, .slice ia il ic, .string out, .slice ao al cap] 35)
  rw [← hw0] at hb0
  have BX : Hid (∀ wx, w0.grownBy wx none → wx.heap[w.heap.size]? = some (.cells #[.string op, .string nam, .slice ia il ic, .string out, .slice ao al cap] 35 (0, 0))) := fun wx hg => box_kept hb0 hg
  clear hb0 hn
  unfold nval at GRP
  simp only at GRP
  obtain ⟨w1, hw1⟩ : ∃ w1, w1 = w0.alloc (.cells #[.int .i64 ty, .slice da dn dc, .slice ta xs.length tc] 25) := ⟨_, rfl⟩
  have hb1 := heap_alloc_new w0 (.cells #[.int .i64 ty, .slice da dn dc, .slice ta xs.length tc] 25)
  rw [← hw1] at hb1
  have g1 : w0.grownBy w1 none := by rw [hw1]; exact grown_new _ _
  have hs0 : w0.heap.size = w.heap.size + 1 := by rw [hw0]; simp
  rw [hs0] at hb1
  have BT : Hid (∀ wx, w1.grownBy wx none → wx.heap[w.heap.size + 1]? = some (.cells #[.int .i64 ty, .slice da dn dc, .slice ta xs.length tc] 25 (0, 0))) := fun wx hg => box_kept hb1 hg
  have G1 := hide (grown_trans g0.out g1)
  obtain ⟨n0, n1, n2, n3, n4⟩ := nod_cells (n := ⟨op, nam, ⟨ia, il, ic⟩, out, ⟨ao, al, cap⟩⟩) (BX.out w1 g1)
  obtain ⟨t0, t1, t2⟩ := ten_cells hb1
  have GR := hide (GRP.out w1 G1.out)
  rw [hw1, hw0] at n0 n1 n2 n3 n4 t0 t1 t2
  clear hb1 g1 GRP hs0
  go_enter Tryz.func22, Tryz.ntmps22
  go_wp2_with fail
  rw [← hw0, ← hw1]
  clear hw0 hw1 n0 n1 n2 n3 n4 t0 t1 t2
  refine GR.out.mono ?_
  rintro e w2 ⟨base, Bw, rs, hbase, rfl, hgr, hg2⟩
  have HGR := hide hgr
  have G2 := hide hg2
  clear hgr hg2 hbase GR
  go_wp2
  go_loopw [7, 15] (fun s i wr => ∃ (k : Nat) (u : Sl), k ≤ C ∧ i = .int .i64 k ∧ s = .slice u.a u.n u.c ∧ OwnsE wr w2.heap.size u.v (eachL f xs PL k) ∧ w2.grownBy wr none) (fun _ i _ => C - (intOf i).toNat)
  case atStart => exact ⟨0, ⟨none, 0, 0⟩, Nat.zero_le _, rfl, rfl, ⟨⟨by simp [eachL], .inl ⟨rfl, by simp [eachL]⟩⟩, by simp [eachL], fun z hz => by simp [eachL] at hz⟩, grown_refl _⟩
  case round =>
    obtain ⟨k, ⟨sa, sn, sc⟩, hk, rfl, rfl, ho, hg⟩ := hrel
    simp only
    have HO := hide ho
    have HG := hide hg
    have hsz := hg.size
    by_cases hlt : k < C
    · have gx := grown_trans G1.out (grown_trans G2.out hg)
      obtain ⟨rc, -⟩ := (HGR.out.new hg).rd hlt
      have EA := (HGR.out.new hg).each k hlt
      rw [grpL_at PL C PL.length k hlt] at EA
      obtain ⟨⟨ra, rn, rcap⟩, hrv⟩ : ∃ s, s = rs.getD k nilG := ⟨_, rfl⟩
      rw [← hrv] at rc EA
      simp only at rc
      have hpos := grpR_pos (ALL.out k hlt)
      have hle := grpR_le PL PL.length k
      have PK := hide (picked_any ⟨ta, xs.length, tc⟩ ⟨ra, rn, rcap⟩ xs (grpR PL PL.length k) wr (HXS.out.more gx) EA.ints (by omega) (fun z hz => by have := grpR_mem PL PL.length k z hz; omega))
      simp only at PK
      have HST := hide (each_step f xs PL k)
      have hel : (eachL f xs PL k).length = k := by simp [eachL]
      have RG := HFR.out (pickL xs (grpR PL PL.length k)) (fun y hy => by
        unfold pickL at hy
        obtain ⟨z, hz, rfl⟩ := List.mem_map.1 hy
        have hzz := grpR_mem PL PL.length k z hz
        exact HXS.out.wf _ (by simp [List.getD, show z.toNat < xs.length by omega])) (by unfold pickL; rw [List.length_map]; exact hpos) (by unfold pickL; rw [List.length_map]; omega)
      have lp : 0 < (pickL xs (grpR PL PL.length k)).length ∧ (pickL xs (grpR PL PL.length k)).length ≤ 65536 := by unfold pickL; rw [List.length_map]; exact ⟨hpos, by omega⟩
      have CW : Hid (∀ (wx : World) (u : Sl), wr.grownBy wx none → IsInts wx u.v (pickL xs (grpR PL PL.length k)) → Calls Tryz.prog 43 #[.slice u.a u.n u.c, .pointer (some ⟨b, 0, none⟩)] wx fun e w' => e = .returned (.int .i64 (f (pickL xs (grpR PL PL.length k)))) ∧ wx.grownBy w' none) := fun wx u h1 h2 => HW.out wx u _ (grown_trans gx h1) h2 lp.1 lp.2
      obtain ⟨t0, t1, t2⟩ := ten_cells (BT.out wr (grown_trans G2.out hg))
      obtain ⟨y, hy⟩ : ∃ y, y = f (pickL xs (grpR PL PL.length k)) := ⟨_, rfl⟩
      rw [← hy] at CW HST RG
      unfold Rng at RG
      have l1 : (k : Int) < (C : Int) := by omega
      clear ho hg gx EA hrv hpos hle lp hy
      go_wp2_with (first | (go_at_call 38; refine PK.out.mono ?_; rintro e w3 ⟨⟨pa, pn, pc⟩, rfl, hp3, hg3⟩; simp only) | fail)
      refine (CW.out w3 ⟨pa, pn, pc⟩ hg3 hp3).mono ?_
      rintro e w4 ⟨rfl, hg4⟩
      have h34 := grown_trans hg3 hg4
      have HO4 := HO.out.more h34 (by cases (Sl.v ⟨sa, sn, sc⟩).ownBlock <;> simp)
      have HG4 := hide (grown_trans HG.out h34)
      have sz4 := h34.size
      have OW : Hid (∀ o, (w4.alloc o).ownsRow w2.heap.size 2 1 (.slice sa sn sc) k ((eachL f xs PL k).map (Value.int .i64))) := fun o => ownsE_at (HO4.more (grown_new _ o) (by cases (Sl.v ⟨sa, sn, sc⟩).ownBlock <;> simp)) hel
      have HLT := hide (fun r (e : (Value.slice sa sn sc).ownBlock = some r) => (World.ownsRow.lt HO4.1 r e).1)
      clear hp3 hg3 hg4 h34 HO4
      go_wp2_with (first | (at_builtin; refine wpList_append_lies _ rfl (.tmp 19) (.tmp 26) 23 rfl w2.heap.size 2 i0 (.int .i64 0) 1 8 Tryz.underlying23 hi0 hz0 hz1 hz2 rfl (by decide) (.slice sa sn sc) k ((eachL f xs PL k).map (Value.int .i64)) rfl (by exact OW.out _) ⟨w4.heap.size, 0, none⟩ 1 1 [.int .i64 y] rfl rfl (by exact World.news_of_block (by have h := heap_alloc_new w4 (.cells #[.int .i64 y] 2); simpa using h)) (int_one y) (by omega) (by simp only [maxLen]; omega) (by omega) (by simp; omega) (w4.heap.size + 1) (by simp) ?_; intro gg cap8 w8 hown8 hgrow hat hlt8) | fail)
      have N1 := hide (ownsE_snoc hel hown8 (by omega) HO.out.2.2 RG)
      have N2 := hide (grown_trans_row (grown_trans HG4.out (grown_new _ _)) hgrow (fun r e => HLT.out r e))
      clear hown8 hgrow hat hlt8 HLT OW
      go_roundw
      case rel => exact ⟨k + 1, ⟨some ⟨gg, 0, none⟩, k + 1, cap8⟩, by omega, by go_num, rfl, by rw [HST.out]; exact N1.out, N2.out⟩
      case measure => simp [intOf]; omega
    · have hke : k = C := by omega
      subst hke
      have gx := hide (grown_trans G1.out (grown_trans G2.out hg))
      have hz := hide (Nat.le_trans G1.out.size G2.out.size)
      clear ho hg
      go_wp2
      go_ret
      exact ⟨⟨sa, sn, sc⟩, rfl, ⟨row_base_leR HO.out.1 hz.out, HO.out.2⟩, gx.out⟩

end Go.Proofs.YtahmmilhmoogbaaGreatDoor

namespace Go.Proofs.YtahmmilhmoogbaaGreatDoor

open Go.RowKit

def topOf (s : Stepped) : Frame :=
  match s with
  | .next m => match m.gs.toList with
    | [g] => g.frame
    | _ => { fn := 0, tmps := #[], todo := [], defers := [], mode := .run, kind := .normal }
  | _ => { fn := 0, tmps := #[], todo := [], defers := [], mode := .run, kind := .normal }

theorem calls_of_run {P : Program} {f : FuncId} {fn : Func} {args : Array Value} {w : World} {v : Value} (N : Nat) (hf : P.funcs[f]? = some fn)
    (h1 : ∀ cs, runN P N (lone (Frame.enter P f args .normal) cs w) = .next (lone (topOf (runN P N (lone (Frame.enter P f args .normal) cs w))) cs w))
    (h2 : ∀ cs, (fun fr : Frame => (fr.fn, fr.mode, fr.defers, fr.kind, (results fn fr.tmps).run P w)) (topOf (runN P N (lone (Frame.enter P f args .normal) cs w))) = (f, .returning, [], .normal, .ok v w)) :
    Calls P f args w fun e w' => e = .returned v ∧ w' = w := by
  intro cs
  have a := h2 cs
  simp only [Prod.mk.injEq] at a
  obtain ⟨a1, a2, a3, a4, a5⟩ := a
  refine ⟨.returned v, w, topOf (runN P N (lone (Frame.enter P f args .normal) cs w)), ⟨rfl, rfl⟩, ⟨N, h1 cs⟩, a1, a2, a3, a4, fn, ?_, a5⟩
  rw [a1]; exact hf

end Go.Proofs.YtahmmilhmoogbaaGreatDoor

namespace Go.Proofs.YtahmmilhmoogbaaGreatDoor

open Go.RowKit

theorem exp0 (w : World) : Calls Tryz.prog 70 #[.string ⟨#[69, 120, 112]⟩, .int .i64 1, .int .i64 0] w fun e w' => e = .returned (.tuple #[.int .i64 1065353216, .int .i64 0]) ∧ w' = w :=
  calls_of_run (fn := Tryz.f70) 853 (by kernel_rfl) (fun cs => by kernel_rfl) (fun cs => by kernel_rfl)

set_option maxRecDepth 100000 in
theorem sone_any (op : ByteArray) (ty : Int) (w : World) : Calls Tryz.prog 48 #[.string op, .int .i64 ty] w fun e w' => e = .returned (.func (.func 69) #[] #[.pointer (some ⟨w.heap.size, 0, none⟩), .pointer (some ⟨w.heap.size + 1, 0, none⟩)]) ∧ w.grownBy w' none ∧ StepT op ty w' w.heap.size (w.heap.size + 1) := by
  have hmf : ∀ (fn : Fn) (first cap : Array Value) (w : World), (Instr.makeFunc fn first cap).run Tryz.prog w = .ok (.func fn first cap) w := fun _ _ _ _ => rfl
  have B2 := hide (two_boxes w (.cells #[.string op] 9) (.cells #[.int .i64 ty] 3))
  have G2 := hide (grown_trans (grown_new w (.cells #[.string op] 9)) (grown_new _ (.cells #[.int .i64 ty] 3)))
  go_enter Tryz.func48, Tryz.ntmps48
  go_wp2
  go_ret
  exact ⟨rfl, G2.out, B2.out.1, B2.out.2⟩

set_option maxRecDepth 100000 in
set_option maxHeartbeats 1000000 in
theorem step_exp0 (p1 p2 : Nat) (w : World) (h : StepT ⟨#[69, 120, 112]⟩ 1 w p1 p2) : Calls Tryz.prog 69 #[.int .i64 0, .pointer (some ⟨p1, 0, none⟩), .pointer (some ⟨p2, 0, none⟩)] w fun e w' => e = .returned (.int .i64 1065353216) ∧ w.grownBy w' none := by
  have c1 := one_cell h.1
  have c2 := one_cell h.2
  have BB := hide (fun (wx : World) => exp0 wx)
  clear h
  go_enter Tryz.func69, Tryz.ntmps69
  go_wp2_with (first | (go_at_call 70; refine (BB.out _).mono ?_; rintro e w' ⟨rfl, rfl⟩) | fail)
  go_ret
  exact ⟨rfl, grown_refl _⟩

theorem two_set (a c : Int) : ∀ k : Nat, k < 2 → (List.replicate k c ++ List.replicate (2 - k) a).set k c = List.replicate (k + 1) c ++ List.replicate (2 - (k + 1)) a
  | 0, _ => rfl
  | 1, _ => rfl
  | k + 2, h => by omega

theorem two_at (a c : Int) : ∀ k : Nat, k < 2 → (List.replicate k c ++ List.replicate (2 - k) a).getD k 0 = a
  | 0, _ => rfl
  | 1, _ => rfl
  | k + 2, h => by omega

theorem sub00 : (Nu.bin 1 1 0 0).1 = 0 := by kernel_rfl

theorem div12 : (Nu.bin 3 1 1065353216 1073741824).1 = 1056964608 := by kernel_rfl

theorem max00 : maxL (fun x y => (Nu.bin 4 1 x y).1) [0, 0] = 0 := by kernel_rfl

theorem sum11 : ([1065353216, 1065353216] : List Int).foldl (fun x y => (Nu.bin 0 1 x y).1) 0 = 1073741824 := by kernel_rfl

set_option maxRecDepth 100000 in
set_option maxHeartbeats 8000000 in
theorem shares0 (u : Sl) (w : World) (hx : IsInts w u.v [0, 0]) : Calls Tryz.prog 47 #[.slice u.a u.n u.c] w fun e w' => ∃ s : Sl, e = .returned (.slice s.a s.n s.c) ∧ OwnsE w' w.heap.size s.v [1056964608, 1056964608] ∧ w.grownBy w' none := by
  obtain ⟨i0, hi0, hz0, hz1, hz2⟩ := info_parts info64E
  obtain ⟨ua, un, uc⟩ := u
  obtain ⟨_, _, eu, c1, c2, c3⟩ := hx.sl
  simp only [Sl.v, Value.slice.injEq, List.length_cons, List.length_nil, Nat.zero_add] at eu
  obtain ⟨rfl, rfl, rfl⟩ := eu
  obtain ⟨xb, xo, rfl, hc⟩ := hx.get (k := 0) (by simp)
  have HX := hide hx
  have XC : Hid (∀ (wx : World) (k : Nat), w.grownBy wx none → k < 2 → wx.cell? ⟨xb, xo + k, none⟩ = some (.int .i64 0)) := fun wx k hg hk => by
    have := cell_still (hc k (by simpa using hk)) hg
    rw [this]
    match k, hk with
    | 0, _ => rfl
    | 1, _ => rfl
  have T2 := hide (fun op w => stwo_any op 1 w)
  have T1 := hide (fun w => sone_any ⟨#[69, 120, 112]⟩ 1 w)
  have GT := hide (fun w => greatest_any 1 w)
  have SM := hide (fun w => sum_any 1 w)
  have hb4 : i0.bytes * 2 ≤ 281474976710656 := by rw [hz2]; omega
  have hb5 : 2 ≤ maxLen := by simp only [maxLen]; omega
  clear hx hc
  go_enter Tryz.func47, Tryz.ntmps47
  go_wp2_with fail
  refine (T2.out ⟨#[83, 117, 98]⟩ w).mono ?_
  rintro e w1 ⟨rfl, hg1, a1, a2⟩
  go_wp2_with fail
  refine (T1.out w1).mono ?_
  rintro e w2 ⟨rfl, hg2, b12⟩
  go_wp2_with fail
  refine (T2.out ⟨#[68, 105, 118]⟩ w2).mono ?_
  rintro e w3 ⟨rfl, hg3, d1, d2⟩
  go_wp2_with fail
  refine (GT.out w3).mono ?_
  rintro e w4 ⟨b, rfl, ob, hg4⟩
  have g24 := grown_trans hg3 hg4
  have g14 := grown_trans hg2 g24
  have G4 := grown_trans hg1 g14
  have SS := hide (step_Sub (p1 := w.heap.size) (p2 := w.heap.size + 1) (w := w4) ⟨box_kept a1 g14, box_kept a2 g14⟩)
  have SE := hide (b12.more g24)
  have SD := hide (step_Div (p1 := w2.heap.size) (p2 := w2.heap.size + 1) (w := w4) ⟨box_kept d1 hg4, box_kept d2 hg4⟩)
  have GM := hide (greatest1_any _ b ⟨some ⟨xb, xo, none⟩, 2, uc⟩ [0, 0] w4 (HX.out.more G4) (by simp) ob)
  rw [max00] at GM
  have HG4 := hide G4
  simp only at GM
  clear hg1 a1 a2 hg2 b12 hg3 d1 d2 ob hg4 g24 g14 G4 T2 T1 GT
  go_wp2_with fail
  refine GM.out.mono ?_
  rintro e w5 ⟨rfl, hg5⟩
  have G5 := hide hg5
  clear GM hg5
  go_wp2_with (first | (refine wpList_make_full _ rfl (.tmp 20) (.tmp 20) 23 rfl w5.heap.size 2 i0 (.int .i64 0) 1 Tryz.underlying23 hi0 hz0 hz1 .i64 .i64 _ _ 2 rfl rfl (by omega) (by omega) hb4 hb5 (Nat.le_refl _) ?_; intro w6 hown6 hg6))
  rw [made_zeros] at hown6
  have O1 : Hid (OwnsE w6 w5.heap.size (.slice (some ⟨w5.heap.size, 0, none⟩) 2 2) (List.replicate 2 0)) := by
    refine ⟨by rw [List.length_replicate]; exact hown6, by rw [List.length_replicate]; omega, fun z hz => ?_⟩
    rw [(List.mem_replicate.1 hz).2]
    omega
  have G6 := hide hg6
  clear hown6 hg6 hb4 hb5
  go_wp2
  go_loopw [24] (fun i wr => w5.grownBy wr none ∧ ∃ k : Nat, k ≤ 2 ∧ i = .int .i64 k ∧ OwnsE wr w5.heap.size (.slice (some ⟨w5.heap.size, 0, none⟩) 2 2) (List.replicate k 1065353216 ++ List.replicate (2 - k) 0)) (fun i _ => 2 - (intOf i).toNat)
  case atStart => exact ⟨G6.out, 0, by omega, rfl, by simpa using O1.out⟩
  case round =>
    obtain ⟨hg, k, hk, rfl, o1⟩ := hrel
    have HG := hide hg
    have P1 := hide o1
    clear o1
    by_cases hlt : k < 2
    · have gx := grown_trans G5.out hg
      have hcell := XC.out wr k (grown_trans HG4.out gx) hlt
      have S1 := hide (SS.out 0 0 wr gx)
      simp only [sub00] at S1
      have E1 : Hid (∀ wx, wr.grownBy wx none → Calls Tryz.prog 69 #[.int .i64 0, .pointer (some ⟨w1.heap.size, 0, none⟩), .pointer (some ⟨w1.heap.size + 1, 0, none⟩)] wx fun e w' => e = .returned (.int .i64 1065353216) ∧ wx.grownBy w' none) := fun wx h => step_exp0 _ _ wx (SE.out.more (grown_trans gx h))
      have PT : Hid (∀ w8 : World, wr.grownBy w8 none → ∃ ov : Int, w8.cell? ⟨w5.heap.size, k, none⟩ = some (.int .i64 ov) ∧ w8.frozen? ⟨w5.heap.size, k, none⟩ = false ∧ OwnsE (w8.setCell ⟨w5.heap.size, k, none⟩ (.int .i64 1065353216)) w5.heap.size (.slice (some ⟨w5.heap.size, 0, none⟩) 2 2) (List.replicate (k + 1) 1065353216 ++ List.replicate (2 - (k + 1)) 0) ∧ w5.grownBy (w8.setCell ⟨w5.heap.size, k, none⟩ (.int .i64 1065353216)) none) := fun w8 h => by
        have q := P1.out.more h (.inr (by simp [Value.ownBlock]))
        obtain ⟨a1, a2, a3, a4⟩ := q.put (by simp; omega) hlt 1065353216 (by omega)
        rw [two_set 0 1065353216 k hlt] at a3
        exact ⟨_, a1, a2, a3, grown_drop (grown_trans HG.out h) a4 (Nat.le_refl _)⟩
      have l1 : (k : Int) < 2 := by omega
      clear hg gx
      go_wp2_with fail
      refine S1.out.mono ?_
      rintro e w7 ⟨rfl, hg7⟩
      go_wp2_with fail
      refine (E1.out w7 hg7).mono ?_
      rintro e w8 ⟨rfl, hg8⟩
      obtain ⟨ov, a1, a2, a3, a4⟩ := PT.out w8 (grown_trans hg7 hg8)
      have N1 := hide a3
      have N2 := hide a4
      clear hg7 hg8 a3 a4 PT S1 E1
      go_wp2_with fail
      go_roundw
      case rel => exact ⟨N2.out, k + 1, by omega, by go_num, N1.out⟩
      case measure => simp [intOf]; omega
    · have hke : k = 2 := by omega
      subst hke
      obtain ⟨wz, ewz⟩ : ∃ z, z = wr := ⟨_, rfl⟩
      subst ewz
      have P2 := P1.out
      rw [show List.replicate 2 (1065353216 : Int) ++ List.replicate (2 - 2) 0 = [1065353216, 1065353216] from rfl] at P2
      have HP2 := hide P2
      have SM1 := hide (SM.out wz)
      clear hg P2 P1
      go_wp2_with fail
      refine SM1.out.mono ?_
      rintro e w9 ⟨b9, rfl, ob9, hg9⟩
      have q9 := HP2.out.more hg9 (.inr (by simp [Value.ownBlock]))
      have S9 := hide (sum1_any _ b9 ⟨some ⟨w5.heap.size, 0, none⟩, 2, 2⟩ [1065353216, 1065353216] w9 q9.ints ob9)
      rw [sum11] at S9
      simp only at S9
      have Q9 := hide q9
      have G9 := hide (grown_trans HG.out hg9)
      clear ob9 hg9 q9 SM1 HP2 HG
      go_wp2_with fail
      refine S9.out.mono ?_
      rintro e wA ⟨rfl, hgA⟩
      have QA := hide (Q9.out.more hgA (.inr (by simp [Value.ownBlock])))
      have GA := hide (grown_trans G9.out hgA)
      clear hgA S9 Q9 G9
      go_wp2
      go_loopw [44] (fun i wr => w5.grownBy wr none ∧ ∃ k : Nat, k ≤ 2 ∧ i = .int .i64 k ∧ OwnsE wr w5.heap.size (.slice (some ⟨w5.heap.size, 0, none⟩) 2 2) (List.replicate k 1056964608 ++ List.replicate (2 - k) 1065353216)) (fun i _ => 2 - (intOf i).toNat)
      case atStart => exact ⟨GA.out, 0, by omega, rfl, QA.out⟩
      case round =>
        obtain ⟨hg, k, hk, rfl, o1⟩ := hrel
        have HG := hide hg
        have P1 := hide o1
        by_cases hlt : k < 2
        · have gx := grown_trans G5.out hg
          obtain ⟨b', off, eb, hcc⟩ := o1.ints.get (k := k) (by simp; omega)
          have hcell := hcc k (by simp; omega)
          rw [two_at _ _ k hlt] at hcell
          have eb1 : b' = w5.heap.size := by have := (Option.some.inj eb); injection this with h1 h2; exact h1.symm
          have eb2 : off = 0 := by have := (Option.some.inj eb); injection this with h1 h2; exact h2.symm
          rw [eb1, eb2, Nat.zero_add] at hcell
          have S1 := hide (SD.out 1065353216 1073741824 wr gx)
          simp only [div12] at S1
          have PT : Hid (∀ w8 : World, wr.grownBy w8 none → ∃ ov : Int, w8.cell? ⟨w5.heap.size, k, none⟩ = some (.int .i64 ov) ∧ w8.frozen? ⟨w5.heap.size, k, none⟩ = false ∧ OwnsE (w8.setCell ⟨w5.heap.size, k, none⟩ (.int .i64 1056964608)) w5.heap.size (.slice (some ⟨w5.heap.size, 0, none⟩) 2 2) (List.replicate (k + 1) 1056964608 ++ List.replicate (2 - (k + 1)) 1065353216) ∧ w5.grownBy (w8.setCell ⟨w5.heap.size, k, none⟩ (.int .i64 1056964608)) none) := fun w8 h => by
            have q := P1.out.more h (.inr (by simp [Value.ownBlock]))
            obtain ⟨a1, a2, a3, a4⟩ := q.put (by simp; omega) hlt 1056964608 (by omega)
            rw [two_set 1065353216 1056964608 k hlt] at a3
            exact ⟨_, a1, a2, a3, grown_drop (grown_trans HG.out h) a4 (Nat.le_refl _)⟩
          have l1 : (k : Int) < 2 := by omega
          clear hg gx o1 hcc eb eb1 eb2
          go_wp2_with fail
          refine S1.out.mono ?_
          rintro e w7 ⟨rfl, hg7⟩
          obtain ⟨ov, a1, a2, a3, a4⟩ := PT.out w7 hg7
          have N1 := hide a3
          have N2 := hide a4
          clear hg7 a3 a4 PT S1
          go_wp2_with fail
          go_roundw
          case rel => exact ⟨N2.out, k + 1, by omega, by go_num, N1.out⟩
          case measure => simp [intOf]; omega
        · have hke : k = 2 := by omega
          subst hke
          have hz := hide (Nat.le_trans HG4.out.size G5.out.size)
          clear hg o1
          go_wp2
          go_ret
          exact ⟨⟨some ⟨w5.heap.size, 0, none⟩, 2, 2⟩, rfl, ⟨row_base_leR P1.out.1 hz.out, P1.out.2⟩, grown_trans HG4.out (grown_trans G5.out HG.out)⟩

end Go.Proofs.YtahmmilhmoogbaaGreatDoor
