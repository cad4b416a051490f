/- Joined texts: RdEach, RdRun. -/
import Derived.Test.YtahmmilhmoogbaaGreatDoorPartBG
import Derived.Test.YtahmmilhmoogbaaGreatDoorPartBH
namespace Go.Proofs.YtahmmilhmoogbaaGreatDoor

open Go.RowKit

theorem furF_all {d m : Nat} {g : Bool} {ps : List Int} (hd : 1 ≤ d) (h : ∀ p : Nat, p < m → (p : Int) ∈ ps) : ∀ p : Nat, p < m * (if g = true then 1 else d) → (p : Int) ∈ furF d g ps := by
  intro p hp
  unfold furF
  refine List.mem_flatMap.2 ?_
  cases g with
  | true =>
    rw [if_pos rfl, Nat.mul_one] at hp
    exact ⟨p, h p hp, List.mem_map.2 ⟨0, List.mem_range.2 hd, by simp [furG]⟩⟩
  | false =>
    rw [if_neg (by decide)] at hp
    refine ⟨((p / d : Nat) : Int), h _ (Nat.div_lt_of_lt_mul (by rw [Nat.mul_comm]; exact hp)), List.mem_map.2 ⟨p % d, List.mem_range.2 (Nat.mod_lt _ hd), ?_⟩⟩
    simp only [furG, Bool.false_eq_true, if_false]
    rw [← Int.natCast_mul, ← Int.natCast_add, Nat.mul_comm]
    exact congrArg Int.ofNat (Nat.div_add_mod p d)

theorem plF_all : ∀ (n : Nat) (x : List Int) (gone : List Bool), x.length = n → gone.length = n → (∀ z ∈ x, 1 ≤ z) → ∀ p : Nat, p < cntF x gone → (p : Int) ∈ plF x gone [0]
  | 0, x, gone, h1, h2, _, p, hp => by
    rw [List.length_eq_zero_iff.1 h1, List.length_eq_zero_iff.1 h2] at hp ⊢
    simp [cntF] at hp
    subst hp
    simp [plF]
  | n + 1, x, gone, h1, h2, hx, p, hp => by
    obtain ⟨ds, d, rfl⟩ : ∃ ds d, x = ds ++ [d] := ⟨x.dropLast, x.getLast (by intro e; rw [e] at h1; simp at h1), (List.dropLast_concat_getLast _).symm⟩
    obtain ⟨gs, g, rfl⟩ : ∃ gs g, gone = gs ++ [g] := ⟨gone.dropLast, gone.getLast (by intro e; rw [e] at h2; simp at h2), (List.dropLast_concat_getLast _).symm⟩
    have e1 : ds.length = n := by simpa using h1
    have e2 : gs.length = n := by simpa using h2
    have hd : 1 ≤ d := hx d (by simp)
    rw [cntF_snoc d g ds gs (by omega)] at hp
    rw [plF_snoc d g ds gs _ (by omega)]
    exact furF_all (by omega) (plF_all n ds gs e1 e2 (fun z hz => hx z (List.mem_append_left _ hz))) p hp

theorem grpR_pos {pl : List Int} {p : Nat} (h : (p : Int) ∈ pl) : 0 < (grpR pl pl.length p).length := by
  obtain ⟨i, hi, e⟩ := List.mem_iff_getElem.1 h
  unfold grpR
  rw [List.length_map]
  refine List.length_pos_of_mem (a := i) (List.mem_filter.2 ⟨List.mem_range.2 hi, ?_⟩)
  simp [List.getD, hi, e]

theorem row_base_leR {w : World} {base b' : Nat} {e : TypeId} {size : Nat} {v : Value} {n : Nat} {xs : List Value} (h : w.ownsRow base e size v n xs) (hb : b' ≤ base) : w.ownsRow b' e size v n xs := by
  refine ⟨h.1, ?_⟩
  rcases h.2 with h0 | ⟨g, cap, cur, e, hg, r⟩
  · exact .inl h0
  · exact .inr ⟨g, cap, cur, e, by omega, r⟩

def eachL (f : List Int → Int) (xs pl : List Int) (c : Nat) : List Int := (List.range c).map fun p => f (pickL xs (grpR pl pl.length p))

def Rng (z : Int) : Prop := -9223372036854775808 ≤ z ∧ z ≤ 9223372036854775807

theorem each_step (f : List Int → Int) (xs pl : List Int) (k : Nat) : eachL f xs pl (k + 1) = eachL f xs pl k ++ [f (pickL xs (grpR pl pl.length k))] := by
  unfold eachL
  rw [List.range_succ, List.map_append]
  rfl

set_option maxRecDepth 100000 in
set_option maxHeartbeats 8000000 in
theorem each_sum (n : Nod) (A : At) (X : Ten) (x xs : List Int) (gone : List Bool) (f : List Int → Int) (b : Nat) (w : World) (hn : NodeOk w n A) (hx : IsInts w X.dv.v x) (hxs : IsInts w X.tv.v xs) (hf : Fine x) (hl : (xs.length : Int) = prod x) (hax : axesO x.length (alongP A x.length) (List.replicate x.length false) = some gone) (hgl : gone.length = x.length) (hF : ∀ ys : List Int, (∀ y ∈ ys, Rng y) → 0 < ys.length → ys.length ≤ 65536 → Rng (f ys))
    (W : ∀ (wx : World) (u : Sl) (ys : List Int), w.grownBy wx none → IsInts wx u.v ys → 0 < ys.length → ys.length ≤ 65536 → Calls Tryz.prog 40 #[.slice u.a u.n u.c, .pointer (some ⟨b, 0, none⟩)] wx fun e w' => e = .returned (.int .i64 (f ys)) ∧ wx.grownBy w' none) :
    Calls Tryz.prog 22 #[nval n, .agg #[.int .i64 X.ty, .slice X.dv.a X.dv.n X.dv.c, .slice X.tv.a X.tv.n X.tv.c], .func (.func 40) #[] #[.pointer (some ⟨b, 0, none⟩)]] w fun e w' => ∃ s : Sl, e = .returned (.slice s.a s.n s.c) ∧ OwnsE w' w.heap.size s.v (eachL f xs (plF x gone [0]) (cntF x gone)) ∧ w.grownBy w' none := by
  obtain ⟨i0, hi0, hz0, hz1, hz2⟩ := info_parts info64E
  obtain ⟨ty, ⟨da, dn, dc⟩, ⟨ta, tn, tc⟩⟩ := X
  simp only [Sl.v] at hx hxs ⊢
  have HX := hide hx
  have HXS := hide hxs
  have HW := hide W
  have HFR := hide hF
  have PL0 := pls_any x.length x gone rfl hgl hf.pos
  have ALL := hide (plF_all x.length x gone rfl hgl hf.pos)
  have hpl : ((plF x gone [0]).length : Int) = xs.length := by rw [PL0.len, hl]
  have hc1 : cntF x gone ≤ 65536 := by have := PL0.cnt; have := hf.le; omega
  have hl1 : xs.length ≤ 65536 := by have := hf.le; omega
  obtain ⟨_, _, exs, e1, e2, e3⟩ := hxs.sl
  simp only [Value.slice.injEq] at exs
  obtain ⟨rfl, rfl, rfl⟩ := exs
  have GRP : Hid (∀ wx, w.grownBy wx none → Calls Tryz.prog 37 #[nval n, .slice da dn dc] wx fun e w' => ∃ (base Bw : Nat) (rs : List Sl), wx.heap.size ≤ base ∧ e = .returned (.slice (some ⟨Bw, 0, none⟩) (cntF x gone) (cntF x gone)) ∧ Gr w' base Bw (cntF x gone) (grpL (plF x gone [0]) (cntF x gone) (plF x gone [0]).length) rs ∧ wx.grownBy w' none) := fun wx hg => groups_any n A ⟨da, dn, dc⟩ x gone wx (hn.more hg) (hx.more hg) hf hax hgl
  obtain ⟨PL, hPL⟩ : ∃ PL, PL = plF x gone [0] := ⟨_, rfl⟩
  obtain ⟨C, hC⟩ : ∃ C, C = cntF x gone := ⟨_, rfl⟩
  rw [← hPL] at GRP ALL hpl ⊢
  rw [← hC] at GRP ALL hc1 ⊢
  clear hx hxs W hF PL0 hPL hC hf hax hgl hl
  have NK := hide hn
  obtain ⟨op, nam, ⟨ia, il, ic⟩, out, ⟨ao, al, cap⟩⟩ := n
  unfold nval
  simp only
  obtain ⟨w0, hw0⟩ : ∃ w0, w0 = w.alloc (.cells #[.string op, .string nam, .slice ia il ic, .string out, .slice ao al cap] 35) := ⟨_, rfl⟩
  have g0 : Hid (w.grownBy w0 none) := by show w.grownBy w0 none; rw [hw0]; exact grown_new _ _
  have hb0 := heap_alloc_new w (.cells #[.string op, .string nam, .slice ia il ic, .string out, .slice ao al cap] 35)
  rw [← hw0] at hb0
  have BX : Hid (∀ wx, w0.grownBy wx none → wx.heap[w.heap.size]? = some (.cells #[.string op, .string nam, .slice ia il ic, .string out, .slice ao al cap] 35 (0, 0))) := fun wx hg => box_kept hb0 hg
  clear hb0 hn
  unfold nval at GRP
  simp only at GRP
  obtain ⟨w1, hw1⟩ : ∃ w1, w1 = w0.alloc (.cells #[.int .i64 ty, .slice da dn dc, .slice ta xs.length tc] 25) := ⟨_, rfl⟩
  have hb1 := heap_alloc_new w0 (.cells #[.int .i64 ty, .slice da dn dc, .slice ta xs.length tc] 25)
  rw [← hw1] at hb1
  have g1 : w0.grownBy w1 none := by rw [hw1]; exact grown_new _ _
  have hs0 : w0.heap.size = w.heap.size + 1 := by rw [hw0]; simp
  rw [hs0] at hb1
  have BT : Hid (∀ wx, w1.grownBy wx none → wx.heap[w.heap.size + 1]? = some (.cells #[.int .i64 ty, .slice da dn dc, .slice ta xs.length tc] 25 (0, 0))) := fun wx hg => box_kept hb1 hg
  have G1 := hide (grown_trans g0.out g1)
  obtain ⟨n0, n1, n2, n3, n4⟩ := nod_cells (n := ⟨op, nam, ⟨ia, il, ic⟩, out, ⟨ao, al, cap⟩⟩) (BX.out w1 g1)
  obtain ⟨t0, t1, t2⟩ := ten_cells hb1
  have GR := hide (GRP.out w1 G1.out)
  rw [hw1, hw0] at n0 n1 n2 n3 n4 t0 t1 t2
  clear hb1 g1 GRP hs0
  go_enter Tryz.func22, Tryz.ntmps22
  go_wp2_with fail
  rw [← hw0, ← hw1]
  clear hw0 hw1 n0 n1 n2 n3 n4 t0 t1 t2
  refine GR.out.mono ?_
  rintro e w2 ⟨base, Bw, rs, hbase, rfl, hgr, hg2⟩
  have HGR := hide hgr
  have G2 := hide hg2
  clear hgr hg2 hbase GR
  go_wp2
  go_loopw [7, 15] (fun s i wr => ∃ (k : Nat) (u : Sl), k ≤ C ∧ i = .int .i64 k ∧ s = .slice u.a u.n u.c ∧ OwnsE wr w2.heap.size u.v (eachL f xs PL k) ∧ w2.grownBy wr none) (fun _ i _ => C - (intOf i).toNat)
  case atStart => exact ⟨0, ⟨none, 0, 0⟩, Nat.zero_le _, rfl, rfl, ⟨⟨by simp [eachL], .inl ⟨rfl, by simp [eachL]⟩⟩, by simp [eachL], fun z hz => by simp [eachL] at hz⟩, grown_refl _⟩
  case round =>
    obtain ⟨k, ⟨sa, sn, sc⟩, hk, rfl, rfl, ho, hg⟩ := hrel
    simp only
    have HO := hide ho
    have HG := hide hg
    have hsz := hg.size
    by_cases hlt : k < C
    · have gx := grown_trans G1.out (grown_trans G2.out hg)
      obtain ⟨rc, -⟩ := (HGR.out.new hg).rd hlt
      have EA := (HGR.out.new hg).each k hlt
      rw [grpL_at PL C PL.length k hlt] at EA
      obtain ⟨⟨ra, rn, rcap⟩, hrv⟩ : ∃ s, s = rs.getD k nilG := ⟨_, rfl⟩
      rw [← hrv] at rc EA
      simp only at rc
      have hpos := grpR_pos (ALL.out k hlt)
      have hle := grpR_le PL PL.length k
      have PK := hide (picked_any ⟨ta, xs.length, tc⟩ ⟨ra, rn, rcap⟩ xs (grpR PL PL.length k) wr (HXS.out.more gx) EA.ints (by omega) (fun z hz => by have := grpR_mem PL PL.length k z hz; omega))
      simp only at PK
      have HST := hide (each_step f xs PL k)
      have hel : (eachL f xs PL k).length = k := by simp [eachL]
      have RG := HFR.out (pickL xs (grpR PL PL.length k)) (fun y hy => by
        unfold pickL at hy
        obtain ⟨z, hz, rfl⟩ := List.mem_map.1 hy
        have hzz := grpR_mem PL PL.length k z hz
        exact HXS.out.wf _ (by simp [List.getD, show z.toNat < xs.length by omega])) (by unfold pickL; rw [List.length_map]; exact hpos) (by unfold pickL; rw [List.length_map]; omega)
      have lp : 0 < (pickL xs (grpR PL PL.length k)).length ∧ (pickL xs (grpR PL PL.length k)).length ≤ 65536 := by unfold pickL; rw [List.length_map]; exact ⟨hpos, by omega⟩
      have CW : Hid (∀ (wx : World) (u : Sl), wr.grownBy wx none → IsInts wx u.v (pickL xs (grpR PL PL.length k)) → Calls Tryz.prog 40 #[.slice u.a u.n u.c, .pointer (some ⟨b, 0, none⟩)] wx fun e w' => e = .returned (.int .i64 (f (pickL xs (grpR PL PL.length k)))) ∧ wx.grownBy w' none) := fun wx u h1 h2 => HW.out wx u _ (grown_trans gx h1) h2 lp.1 lp.2
      obtain ⟨t0, t1, t2⟩ := ten_cells (BT.out wr (grown_trans G2.out hg))
      obtain ⟨y, hy⟩ : ∃ y, y = f (pickL xs (grpR PL PL.length k)) := ⟨_, rfl⟩
      rw [← hy] at CW HST RG
      unfold Rng at RG
      have l1 : (k : Int) < (C : Int) := by omega
      clear ho hg gx EA hrv hpos hle lp hy
      go_wp2_with (first | (go_at_call 38; refine PK.out.mono ?_; rintro e w3 ⟨⟨pa, pn, pc⟩, rfl, hp3, hg3⟩; simp only) | fail)
      refine (CW.out w3 ⟨pa, pn, pc⟩ hg3 hp3).mono ?_
      rintro e w4 ⟨rfl, hg4⟩
      have h34 := grown_trans hg3 hg4
      have HO4 := HO.out.more h34 (by cases (Sl.v ⟨sa, sn, sc⟩).ownBlock <;> simp)
      have HG4 := hide (grown_trans HG.out h34)
      have sz4 := h34.size
      have OW : Hid (∀ o, (w4.alloc o).ownsRow w2.heap.size 2 1 (.slice sa sn sc) k ((eachL f xs PL k).map (Value.int .i64))) := fun o => ownsE_at (HO4.more (grown_new _ o) (by cases (Sl.v ⟨sa, sn, sc⟩).ownBlock <;> simp)) hel
      have HLT := hide (fun r (e : (Value.slice sa sn sc).ownBlock = some r) => (World.ownsRow.lt HO4.1 r e).1)
      clear hp3 hg3 hg4 h34 HO4
      go_wp2_with (first | (at_builtin; refine wpList_append_lies _ rfl (.tmp 19) (.tmp 26) 23 rfl w2.heap.size 2 i0 (.int .i64 0) 1 8 Tryz.underlying23 hi0 hz0 hz1 hz2 rfl (by decide) (.slice sa sn sc) k ((eachL f xs PL k).map (Value.int .i64)) rfl (by exact OW.out _) ⟨w4.heap.size, 0, none⟩ 1 1 [.int .i64 y] rfl rfl (by exact World.news_of_block (by have h := heap_alloc_new w4 (.cells #[.int .i64 y] 2); simpa using h)) (int_one y) (by omega) (by simp only [maxLen]; omega) (by omega) (by simp; omega) (w4.heap.size + 1) (by simp) ?_; intro gg cap8 w8 hown8 hgrow hat hlt8) | fail)
      have N1 := hide (ownsE_snoc hel hown8 (by omega) HO.out.2.2 RG)
      have N2 := hide (grown_trans_row (grown_trans HG4.out (grown_new _ _)) hgrow (fun r e => HLT.out r e))
      clear hown8 hgrow hat hlt8 HLT OW
      go_roundw
      case rel => exact ⟨k + 1, ⟨some ⟨gg, 0, none⟩, k + 1, cap8⟩, by omega, by go_num, rfl, by rw [HST.out]; exact N1.out, N2.out⟩
      case measure => simp [intOf]; omega
    · have hke : k = C := by omega
      subst hke
      have gx := hide (grown_trans G1.out (grown_trans G2.out hg))
      have hz := hide (Nat.le_trans G1.out.size G2.out.size)
      clear ho hg
      go_wp2
      go_ret
      exact ⟨⟨sa, sn, sc⟩, rfl, ⟨row_base_leR HO.out.1 hz.out, HO.out.2⟩, gx.out⟩

set_option maxRecDepth 100000 in
set_option maxHeartbeats 8000000 in
theorem each_max (n : Nod) (A : At) (X : Ten) (x xs : List Int) (gone : List Bool) (f : List Int → Int) (b : Nat) (w : World) (hn : NodeOk w n A) (hx : IsInts w X.dv.v x) (hxs : IsInts w X.tv.v xs) (hf : Fine x) (hl : (xs.length : Int) = prod x) (hax : axesO x.length (alongP A x.length) (List.replicate x.length false) = some gone) (hgl : gone.length = x.length) (hF : ∀ ys : List Int, (∀ y ∈ ys, Rng y) → 0 < ys.length → ys.length ≤ 65536 → Rng (f ys))
    (W : ∀ (wx : World) (u : Sl) (ys : List Int), w.grownBy wx none → IsInts wx u.v ys → 0 < ys.length → ys.length ≤ 65536 → Calls Tryz.prog 43 #[.slice u.a u.n u.c, .pointer (some ⟨b, 0, none⟩)] wx fun e w' => e = .returned (.int .i64 (f ys)) ∧ wx.grownBy w' none) :
    Calls Tryz.prog 22 #[nval n, .agg #[.int .i64 X.ty, .slice X.dv.a X.dv.n X.dv.c, .slice X.tv.a X.tv.n X.tv.c], .func (.func 43) #[] #[.pointer (some ⟨b, 0, none⟩)]] w fun e w' => ∃ s : Sl, e = .returned (.slice s.a s.n s.c) ∧ OwnsE w' w.heap.size s.v (eachL f xs (plF x gone [0]) (cntF x gone)) ∧ w.grownBy w' none := by
  obtain ⟨i0, hi0, hz0, hz1, hz2⟩ := info_parts info64E
  obtain ⟨ty, ⟨da, dn, dc⟩, ⟨ta, tn, tc⟩⟩ := X
  simp only [Sl.v] at hx hxs ⊢
  have HX := hide hx
  have HXS := hide hxs
  have HW := hide W
  have HFR := hide hF
  have PL0 := pls_any x.length x gone rfl hgl hf.pos
  have ALL := hide (plF_all x.length x gone rfl hgl hf.pos)
  have hpl : ((plF x gone [0]).length : Int) = xs.length := by rw [PL0.len, hl]
  have hc1 : cntF x gone ≤ 65536 := by have := PL0.cnt; have := hf.le; omega
  have hl1 : xs.length ≤ 65536 := by have := hf.le; omega
  obtain ⟨_, _, exs, e1, e2, e3⟩ := hxs.sl
  simp only [Value.slice.injEq] at exs
  obtain ⟨rfl, rfl, rfl⟩ := exs
  have GRP : Hid (∀ wx, w.grownBy wx none → Calls Tryz.prog 37 #[nval n, .slice da dn dc] wx fun e w' => ∃ (base Bw : Nat) (rs : List Sl), wx.heap.size ≤ base ∧ e = .returned (.slice (some ⟨Bw, 0, none⟩) (cntF x gone) (cntF x gone)) ∧ Gr w' base Bw (cntF x gone) (grpL (plF x gone [0]) (cntF x gone) (plF x gone [0]).length) rs ∧ wx.grownBy w' none) := fun wx hg => groups_any n A ⟨da, dn, dc⟩ x gone wx (hn.more hg) (hx.more hg) hf hax hgl
  obtain ⟨PL, hPL⟩ : ∃ PL, PL = plF x gone [0] := ⟨_, rfl⟩
  obtain ⟨C, hC⟩ : ∃ C, C = cntF x gone := ⟨_, rfl⟩
  rw [← hPL] at GRP ALL hpl ⊢
  rw [← hC] at GRP ALL hc1 ⊢
  clear hx hxs W hF PL0 hPL hC hf hax hgl hl
  have NK := hide hn
  obtain ⟨op, nam, ⟨ia, il, ic⟩, out, ⟨ao, al, cap⟩⟩ := n
  unfold nval
  simp only
  obtain ⟨w0, hw0⟩ : ∃ w0, w0 = w.alloc (.cells #[.string op, .string nam, .slice ia il ic, .string out, .slice ao al cap] 35) := ⟨_, rfl⟩
  have g0 : Hid (w.grownBy w0 none) := by show w.grownBy w0 none; rw [hw0]; exact grown_new _ _
  have hb0 := heap_alloc_new w (.cells #[.string op, .string nam, .slice ia il ic, .string out, .slice ao al cap] 35)
  rw [← hw0] at hb0
  have BX : Hid (∀ wx, w0.grownBy wx none → wx.heap[w.heap.size]? = some (.cells #[.string op, .string nam, .slice ia il ic, .string out, .slice ao al cap] 35 (0, 0))) := fun wx hg => box_kept hb0 hg
  clear hb0 hn
  unfold nval at GRP
  simp only at GRP
  obtain ⟨w1, hw1⟩ : ∃ w1, w1 = w0.alloc (.cells #[.int .i64 ty, .slice da dn dc, .slice ta xs.length tc] 25) := ⟨_, rfl⟩
  have hb1 := heap_alloc_new w0 (.cells #[.int .i64 ty, .slice da dn dc, .slice ta xs.length tc] 25)
  rw [← hw1] at hb1
  have g1 : w0.grownBy w1 none := by rw [hw1]; exact grown_new _ _
  have hs0 : w0.heap.size = w.heap.size + 1 := by rw [hw0]; simp
  rw [hs0] at hb1
  have BT : Hid (∀ wx, w1.grownBy wx none → wx.heap[w.heap.size + 1]? = some (.cells #[.int .i64 ty, .slice da dn dc, .slice ta xs.length tc] 25 (0, 0))) := fun wx hg => box_kept hb1 hg
  have G1 := hide (grown_trans g0.out g1)
  obtain ⟨n0, n1, n2, n3, n4⟩ := nod_cells (n := ⟨op, nam, ⟨ia, il, ic⟩, out, ⟨ao, al, cap⟩⟩) (BX.out w1 g1)
  obtain ⟨t0, t1, t2⟩ := ten_cells hb1
  have GR := hide (GRP.out w1 G1.out)
  rw [hw1, hw0] at n0 n1 n2 n3 n4 t0 t1 t2
  clear hb1 g1 GRP hs0
  go_enter Tryz.func22, Tryz.ntmps22
  go_wp2_with fail
  rw [← hw0, ← hw1]
  clear hw0 hw1 n0 n1 n2 n3 n4 t0 t1 t2
  refine GR.out.mono ?_
  rintro e w2 ⟨base, Bw, rs, hbase, rfl, hgr, hg2⟩
  have HGR := hide hgr
  have G2 := hide hg2
  clear hgr hg2 hbase GR
  go_wp2
  go_loopw [7, 15] (fun s i wr => ∃ (k : Nat) (u : Sl), k ≤ C ∧ i = .int .i64 k ∧ s = .slice u.a u.n u.c ∧ OwnsE wr w2.heap.size u.v (eachL f xs PL k) ∧ w2.grownBy wr none) (fun _ i _ => C - (intOf i).toNat)
  case atStart => exact ⟨0, ⟨none, 0, 0⟩, Nat.zero_le _, rfl, rfl, ⟨⟨by simp [eachL], .inl ⟨rfl, by simp [eachL]⟩⟩, by simp [eachL], fun z hz => by simp [eachL] at hz⟩, grown_refl _⟩
  case round =>
    obtain ⟨k, ⟨sa, sn, sc⟩, hk, rfl, rfl, ho, hg⟩ := hrel
    simp only
    have HO := hide ho
    have HG := hide hg
    have hsz := hg.size
    by_cases hlt : k < C
    · have gx := grown_trans G1.out (grown_trans G2.out hg)
      obtain ⟨rc, -⟩ := (HGR.out.new hg).rd hlt
      have EA := (HGR.out.new hg).each k hlt
      rw [grpL_at PL C PL.length k hlt] at EA
      obtain ⟨⟨ra, rn, rcap⟩, hrv⟩ : ∃ s, s = rs.getD k nilG := ⟨_, rfl⟩
      rw [← hrv] at rc EA
      simp only at rc
      have hpos := grpR_pos (ALL.out k hlt)
      have hle := grpR_le PL PL.length k
      have PK := hide (picked_any ⟨ta, xs.length, tc⟩ ⟨ra, rn, rcap⟩ xs (grpR PL PL.length k) wr (HXS.out.more gx) EA.ints (by omega) (fun z hz => by have := grpR_mem PL PL.length k z hz; omega))
      simp only at PK
      have HST := hide (each_step f xs PL k)
      have hel : (eachL f xs PL k).length = k := by simp [eachL]
      have RG := HFR.out (pickL xs (grpR PL PL.length k)) (fun y hy => by
        unfold pickL at hy
        obtain ⟨z, hz, rfl⟩ := List.mem_map.1 hy
        have hzz := grpR_mem PL PL.length k z hz
        exact HXS.out.wf _ (by simp [List.getD, show z.toNat < xs.length by omega])) (by unfold pickL; rw [List.length_map]; exact hpos) (by unfold pickL; rw [List.length_map]; omega)
      have lp : 0 < (pickL xs (grpR PL PL.length k)).length ∧ (pickL xs (grpR PL PL.length k)).length ≤ 65536 := by unfold pickL; rw [List.length_map]; exact ⟨hpos, by omega⟩
      have CW : Hid (∀ (wx : World) (u : Sl), wr.grownBy wx none → IsInts wx u.v (pickL xs (grpR PL PL.length k)) → Calls Tryz.prog 43 #[.slice u.a u.n u.c, .pointer (some ⟨b, 0, none⟩)] wx fun e w' => e = .returned (.int .i64 (f (pickL xs (grpR PL PL.length k)))) ∧ wx.grownBy w' none) := fun wx u h1 h2 => HW.out wx u _ (grown_trans gx h1) h2 lp.1 lp.2
      obtain ⟨t0, t1, t2⟩ := ten_cells (BT.out wr (grown_trans G2.out hg))
      obtain ⟨y, hy⟩ : ∃ y, y = f (pickL xs (grpR PL PL.length k)) := ⟨_, rfl⟩
      rw [← hy] at CW HST RG
      unfold Rng at RG
      have l1 : (k : Int) < (C : Int) := by omega
      clear ho hg gx EA hrv hpos hle lp hy
      go_wp2_with (first | (go_at_call 38; refine PK.out.mono ?_; rintro e w3 ⟨⟨pa, pn, pc⟩, rfl, hp3, hg3⟩; simp only) | fail)
      refine (CW.out w3 ⟨pa, pn, pc⟩ hg3 hp3).mono ?_
      rintro e w4 ⟨rfl, hg4⟩
      have h34 := grown_trans hg3 hg4
      have HO4 := HO.out.more h34 (by cases (Sl.v ⟨sa, sn, sc⟩).ownBlock <;> simp)
      have HG4 := hide (grown_trans HG.out h34)
      have sz4 := h34.size
      have OW : Hid (∀ o, (w4.alloc o).ownsRow w2.heap.size 2 1 (.slice sa sn sc) k ((eachL f xs PL k).map (Value.int .i64))) := fun o => ownsE_at (HO4.more (grown_new _ o) (by cases (Sl.v ⟨sa, sn, sc⟩).ownBlock <;> simp)) hel
      have HLT := hide (fun r (e : (Value.slice sa sn sc).ownBlock = some r) => (World.ownsRow.lt HO4.1 r e).1)
      clear hp3 hg3 hg4 h34 HO4
      go_wp2_with (first | (at_builtin; refine wpList_append_lies _ rfl (.tmp 19) (.tmp 26) 23 rfl w2.heap.size 2 i0 (.int .i64 0) 1 8 Tryz.underlying23 hi0 hz0 hz1 hz2 rfl (by decide) (.slice sa sn sc) k ((eachL f xs PL k).map (Value.int .i64)) rfl (by exact OW.out _) ⟨w4.heap.size, 0, none⟩ 1 1 [.int .i64 y] rfl rfl (by exact World.news_of_block (by have h := heap_alloc_new w4 (.cells #[.int .i64 y] 2); simpa using h)) (int_one y) (by omega) (by simp only [maxLen]; omega) (by omega) (by simp; omega) (w4.heap.size + 1) (by simp) ?_; intro gg cap8 w8 hown8 hgrow hat hlt8) | fail)
      have N1 := hide (ownsE_snoc hel hown8 (by omega) HO.out.2.2 RG)
      have N2 := hide (grown_trans_row (grown_trans HG4.out (grown_new _ _)) hgrow (fun r e => HLT.out r e))
      clear hown8 hgrow hat hlt8 HLT OW
      go_roundw
      case rel => exact ⟨k + 1, ⟨some ⟨gg, 0, none⟩, k + 1, cap8⟩, by omega, by go_num, rfl, by rw [HST.out]; exact N1.out, N2.out⟩
      case measure => simp [intOf]; omega
    · have hke : k = C := by omega
      subst hke
      have gx := hide (grown_trans G1.out (grown_trans G2.out hg))
      have hz := hide (Nat.le_trans G1.out.size G2.out.size)
      clear ho hg
      go_wp2
      go_ret
      exact ⟨⟨sa, sn, sc⟩, rfl, ⟨row_base_leR HO.out.1 hz.out, HO.out.2⟩, gx.out⟩

set_option maxRecDepth 100000 in
set_option maxHeartbeats 8000000 in
theorem each_arg (n : Nod) (A : At) (X : Ten) (x xs : List Int) (gone : List Bool) (f : List Int → Int) (b : Nat) (w : World) (hn : NodeOk w n A) (hx : IsInts w X.dv.v x) (hxs : IsInts w X.tv.v xs) (hf : Fine x) (hl : (xs.length : Int) = prod x) (hax : axesO x.length (alongP A x.length) (List.replicate x.length false) = some gone) (hgl : gone.length = x.length) (hF : ∀ ys : List Int, (∀ y ∈ ys, Rng y) → 0 < ys.length → ys.length ≤ 65536 → Rng (f ys))
    (W : ∀ (wx : World) (u : Sl) (ys : List Int), w.grownBy wx none → IsInts wx u.v ys → 0 < ys.length → ys.length ≤ 65536 → Calls Tryz.prog 44 #[.slice u.a u.n u.c, .pointer (some ⟨b, 0, none⟩)] wx fun e w' => e = .returned (.int .i64 (f ys)) ∧ wx.grownBy w' none) :
    Calls Tryz.prog 22 #[nval n, .agg #[.int .i64 X.ty, .slice X.dv.a X.dv.n X.dv.c, .slice X.tv.a X.tv.n X.tv.c], .func (.func 44) #[] #[.pointer (some ⟨b, 0, none⟩)]] w fun e w' => ∃ s : Sl, e = .returned (.slice s.a s.n s.c) ∧ OwnsE w' w.heap.size s.v (eachL f xs (plF x gone [0]) (cntF x gone)) ∧ w.grownBy w' none := by
  obtain ⟨i0, hi0, hz0, hz1, hz2⟩ := info_parts info64E
  obtain ⟨ty, ⟨da, dn, dc⟩, ⟨ta, tn, tc⟩⟩ := X
  simp only [Sl.v] at hx hxs ⊢
  have HX := hide hx
  have HXS := hide hxs
  have HW := hide W
  have HFR := hide hF
  have PL0 := pls_any x.length x gone rfl hgl hf.pos
  have ALL := hide (plF_all x.length x gone rfl hgl hf.pos)
  have hpl : ((plF x gone [0]).length : Int) = xs.length := by rw [PL0.len, hl]
  have hc1 : cntF x gone ≤ 65536 := by have := PL0.cnt; have := hf.le; omega
  have hl1 : xs.length ≤ 65536 := by have := hf.le; omega
  obtain ⟨_, _, exs, e1, e2, e3⟩ := hxs.sl
  simp only [Value.slice.injEq] at exs
  obtain ⟨rfl, rfl, rfl⟩ := exs
  have GRP : Hid (∀ wx, w.grownBy wx none → Calls Tryz.prog 37 #[nval n, .slice da dn dc] wx fun e w' => ∃ (base Bw : Nat) (rs : List Sl), wx.heap.size ≤ base ∧ e = .returned (.slice (some ⟨Bw, 0, none⟩) (cntF x gone) (cntF x gone)) ∧ Gr w' base Bw (cntF x gone) (grpL (plF x gone [0]) (cntF x gone) (plF x gone [0]).length) rs ∧ wx.grownBy w' none) := fun wx hg => groups_any n A ⟨da, dn, dc⟩ x gone wx (hn.more hg) (hx.more hg) hf hax hgl
  obtain ⟨PL, hPL⟩ : ∃ PL, PL = plF x gone [0] := ⟨_, rfl⟩
  obtain ⟨C, hC⟩ : ∃ C, C = cntF x gone := ⟨_, rfl⟩
  rw [← hPL] at GRP ALL hpl ⊢
  rw [← hC] at GRP ALL hc1 ⊢
  clear hx hxs W hF PL0 hPL hC hf hax hgl hl
  have NK := hide hn
  obtain ⟨op, nam, ⟨ia, il, ic⟩, out, ⟨ao, al, cap⟩⟩ := n
  unfold nval
  simp only
  obtain ⟨w0, hw0⟩ : ∃ w0, w0 = w.alloc (.cells #[.string op, .string nam, .slice ia il ic, .string out, .slice ao al cap] 35) := ⟨_, rfl⟩
  have g0 : Hid (w.grownBy w0 none) := by show w.grownBy w0 none; rw [hw0]; exact grown_new _ _
  have hb0 := heap_alloc_new w (.cells #[.string op, .string nam, .slice ia il ic, .string out, .slice ao al cap] 35)
  rw [← hw0] at hb0
  have BX : Hid (∀ wx, w0.grownBy wx none → wx.heap[w.heap.size]? = some (.cells #[.string op, .string nam, .slice ia il ic, .string out, .slice ao al cap] 35 (0, 0))) := fun wx hg => box_kept hb0 hg
  clear hb0 hn
  unfold nval at GRP
  simp only at GRP
  obtain ⟨w1, hw1⟩ : ∃ w1, w1 = w0.alloc (.cells #[.int .i64 ty, .slice da dn dc, .slice ta xs.length tc] 25) := ⟨_, rfl⟩
  have hb1 := heap_alloc_new w0 (.cells #[.int .i64 ty, .slice da dn dc, .slice ta xs.length tc] 25)
  rw [← hw1] at hb1
  have g1 : w0.grownBy w1 none := by rw [hw1]; exact grown_new _ _
  have hs0 : w0.heap.size = w.heap.size + 1 := by rw [hw0]; simp
  rw [hs0] at hb1
  have BT : Hid (∀ wx, w1.grownBy wx none → wx.heap[w.heap.size + 1]? = some (.cells #[.int .i64 ty, .slice da dn dc, .slice ta xs.length tc] 25 (0, 0))) := fun wx hg => box_kept hb1 hg
  have G1 := hide (grown_trans g0.out g1)
  obtain ⟨n0, n1, n2, n3, n4⟩ := nod_cells (n := ⟨op, nam, ⟨ia, il, ic⟩, out, ⟨ao, al, cap⟩⟩) (BX.out w1 g1)
  obtain ⟨t0, t1, t2⟩ := ten_cells hb1
  have GR := hide (GRP.out w1 G1.out)
  rw [hw1, hw0] at n0 n1 n2 n3 n4 t0 t1 t2
  clear hb1 g1 GRP hs0
  go_enter Tryz.func22, Tryz.ntmps22
  go_wp2_with fail
  rw [← hw0, ← hw1]
  clear hw0 hw1 n0 n1 n2 n3 n4 t0 t1 t2
  refine GR.out.mono ?_
  rintro e w2 ⟨base, Bw, rs, hbase, rfl, hgr, hg2⟩
  have HGR := hide hgr
  have G2 := hide hg2
  clear hgr hg2 hbase GR
  go_wp2
  go_loopw [7, 15] (fun s i wr => ∃ (k : Nat) (u : Sl), k ≤ C ∧ i = .int .i64 k ∧ s = .slice u.a u.n u.c ∧ OwnsE wr w2.heap.size u.v (eachL f xs PL k) ∧ w2.grownBy wr none) (fun _ i _ => C - (intOf i).toNat)
  case atStart => exact ⟨0, ⟨none, 0, 0⟩, Nat.zero_le _, rfl, rfl, ⟨⟨by simp [eachL], .inl ⟨rfl, by simp [eachL]⟩⟩, by simp [eachL], fun z hz => by simp [eachL] at hz⟩, grown_refl _⟩
  case round =>
    obtain ⟨k, ⟨sa, sn, sc⟩, hk, rfl, rfl, ho, hg⟩ := hrel
    simp only
    have HO := hide ho
    have HG := hide hg
    have hsz := hg.size
    by_cases hlt : k < C
    · have gx := grown_trans G1.out (grown_trans G2.out hg)
      obtain ⟨rc, -⟩ := (HGR.out.new hg).rd hlt
      have EA := (HGR.out.new hg).each k hlt
      rw [grpL_at PL C PL.length k hlt] at EA
      obtain ⟨⟨ra, rn, rcap⟩, hrv⟩ : ∃ s, s = rs.getD k nilG := ⟨_, rfl⟩
      rw [← hrv] at rc EA
      simp only at rc
      have hpos := grpR_pos (ALL.out k hlt)
      have hle := grpR_le PL PL.length k
      have PK := hide (picked_any ⟨ta, xs.length, tc⟩ ⟨ra, rn, rcap⟩ xs (grpR PL PL.length k) wr (HXS.out.more gx) EA.ints (by omega) (fun z hz => by have := grpR_mem PL PL.length k z hz; omega))
      simp only at PK
      have HST := hide (each_step f xs PL k)
      have hel : (eachL f xs PL k).length = k := by simp [eachL]
      have RG := HFR.out (pickL xs (grpR PL PL.length k)) (fun y hy => by
        unfold pickL at hy
        obtain ⟨z, hz, rfl⟩ := List.mem_map.1 hy
        have hzz := grpR_mem PL PL.length k z hz
        exact HXS.out.wf _ (by simp [List.getD, show z.toNat < xs.length by omega])) (by unfold pickL; rw [List.length_map]; exact hpos) (by unfold pickL; rw [List.length_map]; omega)
      have lp : 0 < (pickL xs (grpR PL PL.length k)).length ∧ (pickL xs (grpR PL PL.length k)).length ≤ 65536 := by unfold pickL; rw [List.length_map]; exact ⟨hpos, by omega⟩
      have CW : Hid (∀ (wx : World) (u : Sl), wr.grownBy wx none → IsInts wx u.v (pickL xs (grpR PL PL.length k)) → Calls Tryz.prog 44 #[.slice u.a u.n u.c, .pointer (some ⟨b, 0, none⟩)] wx fun e w' => e = .returned (.int .i64 (f (pickL xs (grpR PL PL.length k)))) ∧ wx.grownBy w' none) := fun wx u h1 h2 => HW.out wx u _ (grown_trans gx h1) h2 lp.1 lp.2
      obtain ⟨t0, t1, t2⟩ := ten_cells (BT.out wr (grown_trans G2.out hg))
      obtain ⟨y, hy⟩ : ∃ y, y = f (pickL xs (grpR PL PL.length k)) := ⟨_, rfl⟩
      rw [← hy] at CW HST RG
      unfold Rng at RG
      have l1 : (k : Int) < (C : Int) := by omega
      clear ho hg gx EA hrv hpos hle lp hy
      go_wp2_with (first | (go_at_call 38; refine PK.out.mono ?_; rintro e w3 ⟨⟨pa, pn, pc⟩, rfl, hp3, hg3⟩; simp only) | fail)
      refine (CW.out w3 ⟨pa, pn, pc⟩ hg3 hp3).mono ?_
      rintro e w4 ⟨rfl, hg4⟩
      have h34 := grown_trans hg3 hg4
      have HO4 := HO.out.more h34 (by cases (Sl.v ⟨sa, sn, sc⟩).ownBlock <;> simp)
      have HG4 := hide (grown_trans HG.out h34)
      have sz4 := h34.size
      have OW : Hid (∀ o, (w4.alloc o).ownsRow w2.heap.size 2 1 (.slice sa sn sc) k ((eachL f xs PL k).map (Value.int .i64))) := fun o => ownsE_at (HO4.more (grown_new _ o) (by cases (Sl.v ⟨sa, sn, sc⟩).ownBlock <;> simp)) hel
      have HLT := hide (fun r (e : (Value.slice sa sn sc).ownBlock = some r) => (World.ownsRow.lt HO4.1 r e).1)
      clear hp3 hg3 hg4 h34 HO4
      go_wp2_with (first | (at_builtin; refine wpList_append_lies _ rfl (.tmp 19) (.tmp 26) 23 rfl w2.heap.size 2 i0 (.int .i64 0) 1 8 Tryz.underlying23 hi0 hz0 hz1 hz2 rfl (by decide) (.slice sa sn sc) k ((eachL f xs PL k).map (Value.int .i64)) rfl (by exact OW.out _) ⟨w4.heap.size, 0, none⟩ 1 1 [.int .i64 y] rfl rfl (by exact World.news_of_block (by have h := heap_alloc_new w4 (.cells #[.int .i64 y] 2); simpa using h)) (int_one y) (by omega) (by simp only [maxLen]; omega) (by omega) (by simp; omega) (w4.heap.size + 1) (by simp) ?_; intro gg cap8 w8 hown8 hgrow hat hlt8) | fail)
      have N1 := hide (ownsE_snoc hel hown8 (by omega) HO.out.2.2 RG)
      have N2 := hide (grown_trans_row (grown_trans HG4.out (grown_new _ _)) hgrow (fun r e => HLT.out r e))
      clear hown8 hgrow hat hlt8 HLT OW
      go_roundw
      case rel => exact ⟨k + 1, ⟨some ⟨gg, 0, none⟩, k + 1, cap8⟩, by omega, by go_num, rfl, by rw [HST.out]; exact N1.out, N2.out⟩
      case measure => simp [intOf]; omega
    · have hke : k = C := by omega
      subst hke
      have gx := hide (grown_trans G1.out (grown_trans G2.out hg))
      have hz := hide (Nat.le_trans G1.out.size G2.out.size)
      clear ho hg
      go_wp2
      go_ret
      exact ⟨⟨sa, sn, sc⟩, rfl, ⟨row_base_leR HO.out.1 hz.out, HO.out.2⟩, gx.out⟩

end Go.Proofs.YtahmmilhmoogbaaGreatDoor

namespace Go.Proofs.YtahmmilhmoogbaaGreatDoor

open Go.RowKit

def topOf (s : Stepped) : Frame :=
  match s with
  | .next m => match m.gs.toList with
    | [g] => g.frame
    | _ => { fn := 0, tmps := #[], todo := [], defers := [], mode := .run, kind := .normal }
  | _ => { fn := 0, tmps := #[], todo := [], defers := [], mode := .run, kind := .normal }

theorem calls_of_run {P : Program} {f : FuncId} {fn : Func} {args : Array Value} {w : World} {v : Value} (N : Nat) (hf : P.funcs[f]? = some fn)
    (h1 : ∀ cs, runN P N (lone (Frame.enter P f args .normal) cs w) = .next (lone (topOf (runN P N (lone (Frame.enter P f args .normal) cs w))) cs w))
    (h2 : ∀ cs, (fun fr : Frame => (fr.fn, fr.mode, fr.defers, fr.kind, (results fn fr.tmps).run P w)) (topOf (runN P N (lone (Frame.enter P f args .normal) cs w))) = (f, .returning, [], .normal, .ok v w)) :
    Calls P f args w fun e w' => e = .returned v ∧ w' = w := by
  intro cs
  have a := h2 cs
  simp only [Prod.mk.injEq] at a
  obtain ⟨a1, a2, a3, a4, a5⟩ := a
  refine ⟨.returned v, w, topOf (runN P N (lone (Frame.enter P f args .normal) cs w)), ⟨rfl, rfl⟩, ⟨N, h1 cs⟩, a1, a2, a3, a4, fn, ?_, a5⟩
  rw [a1]; exact hf

end Go.Proofs.YtahmmilhmoogbaaGreatDoor
