/- Lists that infer makes: wholes, an order turned round, axes along which, by the walk. -/
import Derived.Test.YteigfipgmghgmaaGreatDoorINode
namespace Go.Proofs.YteigfipgmghgmaaGreatDoor
open Go.RowKit

theorem wholeP_le (x : Int) : -1073741824 ≤ wholeP x ∧ wholeP x ≤ 1073741824 := by
  unfold wholeP
  split <;> split at * <;> omega

/-- append(s, z): one number more behind a list of the call's own. -/
theorem wpList_push {w0 : World} {ops : Array Oper} {rest : List Oper} {o : Oper} {a : Act} {Q : Exit → Act → World → Prop} (hgd : o.guard = none) (s x : Operand)
    (ho : o.op = .call { callee := .builtin .append, args := #[s, x], argTypes := #[29, 29] })
    (base : Nat) (v : Value) (xs : List Int) (hs : a.eval s = v) (hown : Owns w0 base v xs) (z : Int) (hx : a.eval x = .slice (some ⟨w0.heap.size, 0, none⟩) 1 1)
    (hz : -9223372036854775808 ≤ z ∧ z ≤ 9223372036854775807) (hbytes : (xs.length + 1) * 8 ≤ 140737488351232) (hbase : base ≤ w0.heap.size)
    (h : ∀ v' w', Owns w' base v' (xs ++ [z]) → (∀ r : World, r.heap.size ≤ base → r.grownBy w0 none → r.grownBy w' none) → wpList Tryz.prog ops Q rest (a.put o.dst v') w') : wpList Tryz.prog ops Q (o :: rest) a (w0.alloc (.cells #[.int .i64 z] 3)) := by
  have hi : IsInts (w0.alloc (.cells #[.int .i64 z] 3)) (.slice (some ⟨w0.heap.size, 0, none⟩) 1 1) [z] := ints_new w0 [z] 3 (by simp) (fun y hy => by simp at hy; subst hy; exact hz)
  refine wpList_app hgd s x ho base v xs hs (hown.new (grown_new _ _)) _ [z] hx hi (by simpa using hbytes) (by simp; omega) ?_
  intro v' w' ho' hg
  refine h v' w' ho' (fun r hr hrg => grown_trans_row (grown_trans hrg (grown_new _ _)) hg (fun b e => ?_))
  have := (hown.lt b e).1
  omega

set_option maxRecDepth 100000 in
theorem wholes_any (v : Value) (l : List Int) (w : World) (hv : IsInts w v l) : Calls Tryz.prog 113 #[v] w fun e w' => ∃ u : Sl, e = .returned u.v ∧ IsInts w' u.v (l.map wholeP) ∧ w.grownBy w' none := by
  obtain ⟨a, c, rfl, c1, c2, c3⟩ := hv.sl
  have HV := hide hv
  clear hv
  go_enter Tryz.func113, Tryz.ntmps113
  go_wp2
  go_loopw [3, 8] (fun s i wr => ∃ (k : Nat) (u : Sl), k ≤ l.length ∧ i = .int .i64 k ∧ s = .slice u.a u.n u.c ∧ Owns wr w.heap.size u.v ((l.take k).map wholeP) ∧ w.grownBy wr none) (fun _ i _ => l.length - (intOf i).toNat)
  case atStart => exact ⟨0, ⟨none, 0, 0⟩, Nat.zero_le _, rfl, rfl, owns_nil _ _, grown_refl _⟩
  case round =>
    obtain ⟨k, ⟨ua, un, uc⟩, hk, rfl, rfl, ho, hg⟩ := hrel
    simp only
    have HO := hide ho
    have HG := hide hg
    have hsz := hg.size
    by_cases hkl : k < l.length
    · obtain ⟨b, off, rfl, hc⟩ := HV.out.get hkl
      have hcell : wr.cell? ⟨b, off + k, none⟩ = some (.int .i64 (l.getD k 0)) := cell_still (hc k hkl) hg
      have E : Hid ((l.take (k + 1)).map wholeP = (l.take k).map wholeP ++ [wholeP (l.getD k 0)]) := by show _ = _; rw [take_step l k hkl, List.map_append]; rfl
      obtain ⟨z, hz0⟩ : ∃ z, z = l.getD k 0 := ⟨_, rfl⟩
      rw [← hz0] at hcell E
      clear hc hz0 ho hg
      have WH := hide (whole_any z wr)
      have hb := wholeP_le z
      obtain ⟨y, hy⟩ : ∃ y, y = wholeP z := ⟨_, rfl⟩
      rw [← hy] at WH hb E
      clear hy
      go_wp2_with (first | (go_at_call 103; refine WH.out.mono ?_; rintro e w' ⟨rfl, rfl⟩) | (at_builtin; refine wpList_push rfl (.tmp 12) (.tmp 15) rfl w.heap.size _ _ rfl HO.out y rfl (by omega) (by simp; omega) (by omega) ?_; intro v' w1 hown hgrow))
      obtain ⟨⟨xa, xn, xc⟩, rfl⟩ := hown.sl
      have HO1 := hide hown
      have HG1 := hide (hgrow w (Nat.le_refl _) HG.out)
      clear hown hgrow
      go_roundw
      case rel => exact ⟨k + 1, ⟨xa, xn, xc⟩, by omega, by go_num, rfl, by rw [E.out]; exact HO1.out, HG1.out⟩
      case measure => simp [intOf]; omega
    · have E : Hid ((l.take k).map wholeP = l.map wholeP) := by show _ = _; rw [List.take_of_length_le (by omega)]
      rw [E.out] at HO
      clear ho hg
      go_wp2
      go_ret
      exact ⟨⟨ua, un, uc⟩, rfl, HO.out.ints, HG.out⟩

/-- A list of which k numbers at either end are turned round. -/
structure RevK (zs : List Int) (k : Nat) (L : List Int) : Prop where
  len : L.length = zs.length
  at' : ∀ t, t < zs.length → L.getD t 0 = if t < k ∨ zs.length ≤ t + k then zs.getD (zs.length - 1 - t) 0 else zs.getD t 0

theorem RevK.start (zs : List Int) : RevK zs 0 zs := ⟨rfl, fun t ht => by rw [if_neg (by omega)]⟩

theorem RevK.done {zs L : List Int} {k : Nat} (h : RevK zs k L) (hk : zs.length ≤ 2 * k + 1) : L = zs.reverse := by
  refine List.ext_getElem (by rw [h.len, List.length_reverse]) fun t h1 h2 => ?_
  have ht : t < zs.length := by rw [← h.len]; exact h1
  have := h.at' t ht
  rw [List.getElem_reverse]
  have e1 : L.getD t 0 = L[t] := by simp [List.getD, h1]
  rw [← e1, this]
  split
  · simp [List.getD, show zs.length - 1 - t < zs.length by omega]
  · have e2 : zs.length - 1 - t = t := by omega
    simp [List.getD, e2, ht]

theorem RevK.step {zs L : List Int} {k : Nat} (h : RevK zs k L) (hk : 2 * k + 1 < zs.length) : RevK zs (k + 1) ((L.set k (L.getD (zs.length - 1 - k) 0)).set (zs.length - 1 - k) (L.getD k 0)) := by
  refine ⟨by rw [List.length_set, List.length_set, h.len], fun t ht => ?_⟩
  have hL := h.len
  have h1 := h.at' t ht
  have h2 := h.at' k (by omega)
  have h3 := h.at' (zs.length - 1 - k) (by omega)
  rw [if_neg (by omega)] at h2 h3
  by_cases e1 : t = zs.length - 1 - k
  · subst e1
    rw [if_pos (by omega)]
    have : ((L.set k (L.getD (zs.length - 1 - k) 0)).set (zs.length - 1 - k) (L.getD k 0)).getD (zs.length - 1 - k) 0 = L.getD k 0 := by
      rw [List.getD, List.getElem?_set_self (by rw [List.length_set]; omega)]; rfl
    rw [this, h2]
    congr 1
    omega
  · by_cases e2 : t = k
    · subst e2
      rw [if_pos (by omega)]
      have : ((L.set t (L.getD (zs.length - 1 - t) 0)).set (zs.length - 1 - t) (L.getD t 0)).getD t 0 = L.getD (zs.length - 1 - t) 0 := by
        rw [List.getD, List.getElem?_set_ne (by omega), List.getElem?_set_self (by omega)]; rfl
      rw [this, h3]
    · have : ((L.set k (L.getD (zs.length - 1 - k) 0)).set (zs.length - 1 - k) (L.getD k 0)).getD t 0 = L.getD t 0 := by
        rw [List.getD, List.getElem?_set_ne (by omega), List.getElem?_set_ne (by omega)]; rfl
      rw [this, h1]
      by_cases e3 : t < k ∨ zs.length ≤ t + k
      · rw [if_pos e3, if_pos (by omega)]
      · rw [if_neg e3, if_neg (by omega)]

set_option maxRecDepth 100000 in
theorem reverse_any (zs : List Int) (base B : Nat) (w : World) (h : OwnI 2 w base B zs) (hl : zs.length ≤ 1000000) : Calls Tryz.prog 164 #[.slice (some ⟨B, 0, none⟩) zs.length zs.length] w fun e w' => e = .returned (.tuple #[]) ∧ OwnI 2 w' base B zs.reverse ∧ w.grownBy w' (some B) := by
  have H0 := hide h
  clear h
  go_enter Tryz.func164, Tryz.ntmps164
  go_wp2
  go_loopw [2, 3] (fun i j wr => ∃ (k : Nat) (L : List Int), k ≤ zs.length ∧ i = .int .i64 k ∧ j = .int .i64 ((zs.length : Int) - 1 - k) ∧ RevK zs k L ∧ OwnI 2 wr base B L ∧ w.grownBy wr (some B)) (fun i _ _ => zs.length - (intOf i).toNat)
  case atStart => exact ⟨0, zs, Nat.zero_le _, rfl, by simp, RevK.start zs, H0.out, World.grownBy.refl _ _⟩
  case round =>
    obtain ⟨k, L, hk, rfl, rfl, hr, ho, hg⟩ := hrel
    have HR := hide hr
    have HO := hide ho
    have HG := hide hg
    clear hr ho hg
    by_cases hkl : (k : Int) < (zs.length : Int) - 1 - k
    · obtain ⟨j, hj⟩ : ∃ j : Nat, j = zs.length - 1 - k := ⟨_, rfl⟩
      have ej : (zs.length : Int) - 1 - k = (j : Int) := by omega
      rw [ej] at hkl ⊢
      have hjl : j < zs.length := by omega
      have hne : k ≠ j := by omega
      have st := HR.out.step (by omega)
      rw [← hj] at st
      have hL := HR.out.len
      obtain ⟨c1, f1⟩ := HO.out.at (k := k) (by omega)
      obtain ⟨c2, f2⟩ := HO.out.at (k := j) (by omega)
      obtain ⟨x, hx⟩ : ∃ x, x = L.getD k 0 := ⟨_, rfl⟩
      obtain ⟨y, hy⟩ : ∃ y, y = L.getD j 0 := ⟨_, rfl⟩
      rw [← hx] at c1 st
      rw [← hy] at c2 st
      obtain ⟨s1, t1⟩ := HO.out.set k y
      obtain ⟨s2, t2⟩ := s1.set j x
      have ST := hide st
      have S2 := hide s2
      have T2 := hide (grown_trans_same HG.out (grown_trans_same t1 t2))
      have hej : Hid (j = zs.length - 1 - k) := hj
      clear hx hy st s1 s2 t1 t2 hj hL
      have hne2 := hne.symm
      go_wp2
      go_region
      go_wp2
      go_roundw
      case rel => exact ⟨k + 1, _, by omega, by go_num, by have := hej.out; congr 1; omega, ST.out, S2.out.new (grown_drew (grown_refl _)), ⟨T2.out.os, T2.out.tape, T2.out.output, T2.out.size, T2.out.block⟩⟩
      case measure => simp [intOf]; omega
    · have E : L = zs.reverse := HR.out.done (by omega)
      rw [E] at HO
      go_wp2
      go_end0
      exact ⟨rfl, HO.out, HG.out⟩

theorem grown_drop {a b c : World} {B : Nat} (h : a.grownBy b none) (k : b.grownBy c (some B)) (hb : a.heap.size ≤ B) : a.grownBy c none := grown_trans_row h k (fun r e => by cases e; exact hb)

set_option maxRecDepth 100000 in
theorem perm_any (n : Nod) (A : At) (rank : Nat) (w : World) (hn : NodeOk w n A) (hr : rank ≤ 1000000) : Calls Tryz.prog 148 #[nval n, .int .i64 rank] w fun e w' => ∃ u : Sl, e = .returned u.v ∧ IsInts w' u.v (permP A rank) ∧ w.grownBy w' none := by
  have NK := hide hn
  obtain ⟨op, nam, ⟨ia, il, ic⟩, out, ⟨ao, al, cap⟩⟩ := n
  unfold nval
  simp only
  obtain ⟨w0, hw0⟩ : ∃ w0, w0 = w.alloc (.cells #[.string op, .string nam, .slice ia il ic, .string out, .slice ao al cap] 25) := ⟨_, rfl⟩
  have g0 : Hid (w.grownBy w0 none) := by show w.grownBy w0 none; rw [hw0]; exact grown_new _ _
  have hb0 := heap_alloc_new w (.cells #[.string op, .string nam, .slice ia il ic, .string out, .slice ao al cap] 25)
  rw [← hw0] at hb0
  have BX : Hid (∀ wx, w0.grownBy wx none → wx.heap[w.heap.size]? = some (.cells #[.string op, .string nam, .slice ia il ic, .string out, .slice ao al cap] 25 (0, 0))) := fun wx hg => box_kept hb0 hg
  clear hb0 hn
  have U := hide (upto_any rank w0 (by omega))
  have RV := hide (fun (wx : World) (h : OwnI 2 wx w0.heap.size w0.heap.size (upToP rank)) => reverse_any (upToP rank) w0.heap.size w0.heap.size wx h (by rw [upToP_len]; omega))
  rw [upToP_len] at RV
  have C := hide (fun (wx : World) (B : Nat) (hg : w.grownBy wx none) (hB : IsInts wx (.slice (some ⟨B, 0, none⟩) rank rank) (upToP rank).reverse) => nints_any ⟨op, nam, ⟨ia, il, ic⟩, out, ⟨ao, al, cap⟩⟩ A ⟨#[112, 101, 114, 109]⟩ ⟨some ⟨B, 0, none⟩, rank, rank⟩ _ wx (NK.out.more hg) hB)
  unfold nval at C
  simp only at C
  have HS : Hid (w0.heap.size = w.heap.size + 1) := by show _ = _; rw [hw0]; simp
  go_enter Tryz.func148, Tryz.ntmps148
  go_wp2_with fail
  rw [← hw0]
  clear hw0
  refine U.out.mono ?_
  rintro e w1 ⟨rfl, ho1, hg1⟩
  have HG1 := hide hg1
  have R1 := hide (RV.out w1 ho1)
  clear hg1 ho1 U RV
  go_wp2_with fail
  refine R1.out.mono ?_
  rintro e w2 ⟨rfl, ho2, hg2⟩
  have HG2 := hide (grown_drop HG1.out hg2 (Nat.le_refl _))
  have HI : Hid (IsInts w2 (.slice (some ⟨w0.heap.size, 0, none⟩) rank rank) (upToP rank).reverse) := by
    have h := ho2.ints (by rw [List.length_reverse, upToP_len]; omega) (fun z hz => by have := upToP_mem (List.mem_reverse.1 hz); omega)
    rw [List.length_reverse, upToP_len] at h
    exact h
  obtain ⟨n0, n1, n2, n3, n4⟩ := nod_cells (n := ⟨op, nam, ⟨ia, il, ic⟩, out, ⟨ao, al, cap⟩⟩) (BX.out w2 (HG2.out))
  clear ho2 hg2 R1 HG1
  go_wp2_with fail
  refine (C.out w2 _ (grown_trans g0.out HG2.out) HI.out).mono ?_
  rintro e w3 ⟨u, rfl, hu, hg3⟩
  go_wp2
  go_ret
  exact ⟨u, rfl, hu, grown_trans (grown_trans g0.out HG2.out) hg3⟩

theorem str_beq {a b : ByteArray} (h : (a.toList == b.toList) = true) : a.toList = b.toList := by simpa using h

set_option maxRecDepth 100000 in
theorem along_any (n : Nod) (A : At) (rank : Nat) (w : World) (hn : NodeOk w n A) (hr : rank ≤ 1000000) : Calls Tryz.prog 109 #[nval n, .int .i64 rank] w fun e w' => ∃ u : Sl, e = .returned u.v ∧ IsInts w' u.v (alongP A rank) ∧ w.grownBy w' none := by
  have HOP := hide hn.op
  have RG := hide (fun nm z hz => hn.int nm z hz)
  have NK := hide hn
  obtain ⟨op, nam, ⟨ia, il, ic⟩, out, ⟨ao, al, cap⟩⟩ := n
  unfold nval
  simp only
  obtain ⟨w0, hw0⟩ : ∃ w0, w0 = w.alloc (.cells #[.string op, .string nam, .slice ia il ic, .string out, .slice ao al cap] 25) := ⟨_, rfl⟩
  have g0 : Hid (w.grownBy w0 none) := by show w.grownBy w0 none; rw [hw0]; exact grown_new _ _
  have hb0 := heap_alloc_new w (.cells #[.string op, .string nam, .slice ia il ic, .string out, .slice ao al cap] 25)
  rw [← hw0] at hb0
  have BX : Hid (∀ wx, w0.grownBy wx none → wx.heap[w.heap.size]? = some (.cells #[.string op, .string nam, .slice ia il ic, .string out, .slice ao al cap] 25 (0, 0))) := fun wx hg => box_kept hb0 hg
  clear hb0 hn
  simp only at HOP
  have U := hide (fun (wx : World) => upto_any rank wx (by omega))
  have C := hide (fun (wx : World) (B : Nat) (hg : w.grownBy wx none) (hB : IsInts wx (.slice (some ⟨B, 0, none⟩) rank rank) (upToP rank)) => nints_any ⟨op, nam, ⟨ia, il, ic⟩, out, ⟨ao, al, cap⟩⟩ A ⟨#[97, 120, 101, 115]⟩ ⟨some ⟨B, 0, none⟩, rank, rank⟩ _ wx (NK.out.more hg) hB)
  have I0 := hide (nint_any ⟨op, nam, ⟨ia, il, ic⟩, out, ⟨ao, al, cap⟩⟩ A ⟨#[97, 120, 105, 115]⟩ 0 w0 (NK.out.more g0.out))
  have I1 := hide (nint_any ⟨op, nam, ⟨ia, il, ic⟩, out, ⟨ao, al, cap⟩⟩ A ⟨#[97, 120, 105, 115]⟩ (-1) w0 (NK.out.more g0.out))
  unfold nval at C I0 I1
  simp only at C I0 I1
  have HS : Hid (w0.heap.size = w.heap.size + 1) := by show _ = _; rw [hw0]; simp
  cases h1 : (op.toList == [65, 114, 103, 77, 97, 120]) with
  | true =>
    have E : Hid (alongP A rank = [A.int ⟨#[97, 120, 105, 115]⟩ 0]) := by show alongP A rank = _; unfold alongP; rw [HOP.out, if_pos (by simpa using h1)]
    have hb := RG.out ⟨#[97, 120, 105, 115]⟩ 0 (by omega)
    obtain ⟨z, hz⟩ : ∃ z, z = A.int ⟨#[97, 120, 105, 115]⟩ 0 := ⟨_, rfl⟩
    rw [← hz] at I0 E hb
    clear hz
    go_enter Tryz.func109, Tryz.ntmps109
    go_wp2_with fail
    rw [← hw0]
    clear hw0
    refine I0.out.mono ?_
    rintro e w1 ⟨rfl, hg1⟩
    have HG := hide (grown_trans g0.out hg1)
    clear hg1
    go_wp2
    go_ret
    exact ⟨⟨some ⟨w1.heap.size, 0, none⟩, 1, 1⟩, rfl, by rw [E.out]; exact ints_new w1 [z] 2 (by simp) (fun y hy => by simp at hy; subst hy; exact hb), grown_trans HG.out (grown_new _ _)⟩
  | false =>
    cases h2 : (op.toList == [83, 111, 102, 116, 109, 97, 120]) with
    | true =>
      have E : Hid (alongP A rank = [A.int ⟨#[97, 120, 105, 115]⟩ (-1)]) := by show alongP A rank = _; unfold alongP; rw [HOP.out, if_neg (by simpa using h1), if_pos (by simpa using h2)]
      have hb := RG.out ⟨#[97, 120, 105, 115]⟩ (-1) (by omega)
      obtain ⟨z, hz⟩ : ∃ z, z = A.int ⟨#[97, 120, 105, 115]⟩ (-1) := ⟨_, rfl⟩
      rw [← hz] at I1 E hb
      clear hz
      go_enter Tryz.func109, Tryz.ntmps109
      go_wp2_with fail
      rw [← hw0]
      clear hw0
      refine I1.out.mono ?_
      rintro e w1 ⟨rfl, hg1⟩
      have HG := hide (grown_trans g0.out hg1)
      clear hg1
      go_wp2
      go_ret
      exact ⟨⟨some ⟨w1.heap.size, 0, none⟩, 1, 1⟩, rfl, by rw [E.out]; exact ints_new w1 [z] 2 (by simp) (fun y hy => by simp at hy; subst hy; exact hb), grown_trans HG.out (grown_new _ _)⟩
    | false =>
      have E : Hid (alongP A rank = A.ints ⟨#[97, 120, 101, 115]⟩ (upToP rank)) := by show alongP A rank = _; unfold alongP; rw [HOP.out, if_neg (by simpa using h1), if_neg (by simpa using h2)]
      obtain ⟨n0, n1, n2, n3, n4⟩ := nod_cells (n := ⟨op, nam, ⟨ia, il, ic⟩, out, ⟨ao, al, cap⟩⟩) (BX.out w0 (grown_refl _))
      go_enter Tryz.func109, Tryz.ntmps109
      go_wp2_with fail
      rw [← hw0]
      clear hw0
      go_region_held3 (fun w' => w'.cell? ⟨w.heap.size, 0, none⟩ = some (.string op) ∧ w'.cell? ⟨w.heap.size, 1, none⟩ = some (.string nam) ∧ w'.cell? ⟨w.heap.size, 2, none⟩ = some (.slice ia il ic) ∧ w'.cell? ⟨w.heap.size, 3, none⟩ = some (.string out) ∧ w'.cell? ⟨w.heap.size, 4, none⟩ = some (.slice ao al cap)) (go_keep) (first | (go_at_call 145; refine (U.out _).mono ?_; rintro e w1 ⟨rfl, ho1, hg1⟩; have g1 : w0.grownBy w1 none := grown_trans (grown_drew (grown_refl _)) hg1; obtain ⟨n0, n1, n2, n3, n4⟩ := nod_cells (n := ⟨op, nam, ⟨ia, il, ic⟩, out, ⟨ao, al, cap⟩⟩) (BX.out w1 (g1))) | (go_at_call 112; refine (C.out _ _ (grown_trans g0.out g1) (by have h := ho1.ints (by rw [upToP_len]; omega) (fun z hz => by have := upToP_mem hz; omega); rw [upToP_len] at h; exact h)).mono ?_; rintro e w2 ⟨u, rfl, hu, hg2⟩; have g2 : w0.grownBy w2 none := grown_trans g1 hg2; obtain ⟨n0, n1, n2, n3, n4⟩ := nod_cells (n := ⟨op, nam, ⟨ia, il, ic⟩, out, ⟨ao, al, cap⟩⟩) (BX.out w2 (g2))) | fail)
      go_wp2
      go_ret
      exact ⟨u, rfl, by rw [E.out]; exact hu, grown_trans g0.out g2⟩
end Go.Proofs.YteigfipgmghgmaaGreatDoor
