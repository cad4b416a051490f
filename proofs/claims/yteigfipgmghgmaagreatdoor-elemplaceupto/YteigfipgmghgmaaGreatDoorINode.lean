/- A node's attributes as infer reads them, by the walk (mkIA.py). -/
import Derived.Test.YteigfipgmghgmaaGreatDoorIAttr
import Derived.BigQuiet
import Derived.Deep.RegionWith
namespace Go.Proofs.YteigfipgmghgmaaGreatDoor
open Go.RowKit

/-- A node whose attributes are these. -/
structure NodeOk (w : World) (n : Nod) (A : At) : Prop where
  op : A.op = n.op
  attrs : IsAttrs w n.av.v A.xs
  has : ∀ (j : Nat) (a : Atr), A.xs[j]? = some a → ∃ c, A.cs[j]? = some c ∧ Has w a c
  rng : ∀ a ∈ A.xs, -9223372036854775808 ≤ a.i ∧ a.i ≤ 9223372036854775807

theorem NodeOk.more {w w' : World} {n : Nod} {A : At} (h : NodeOk w n A) (hg : w.grownBy w' none) : NodeOk w' n A :=
  ⟨h.op, h.attrs.more hg, fun j a e => by obtain ⟨c, e1, e2⟩ := h.has j a e; exact ⟨c, e1, e2.more hg⟩, h.rng⟩

theorem NodeOk.int {w : World} {n : Nod} {A : At} (h : NodeOk w n A) (nm : ByteArray) (z : Int) (hz : -9223372036854775808 ≤ z ∧ z ≤ 9223372036854775807) : -9223372036854775808 ≤ A.int nm z ∧ A.int nm z ≤ 9223372036854775807 := by
  unfold At.int intV
  cases hf : A.xs.find? (isA nm 2) with
  | none => exact hz
  | some a => exact h.rng a (List.mem_of_find?_eq_some hf)

theorem ownsL_ints {w : World} {base : Nat} {v : Value} {zs : List Int} {te : TypeId} (h : OwnsL te 1 icell w base v zs) (hl : zs.length * 8 ≤ 140737488351232) (hz : ∀ z ∈ zs, -9223372036854775808 ≤ z ∧ z ≤ 9223372036854775807) : IsInts w v zs := by
  obtain ⟨ao, cap, rfl, h1, h2, h3, h4, h5⟩ := OwnsL.isL (bytes := 8) icell_len h hl
  refine ⟨ao, cap, rfl, h1, h2, hl, h4, fun hp => ?_, hz⟩
  obtain ⟨b, off, rfl, hc⟩ := h5 hp
  refine ⟨b, off, rfl, fun k hk => ?_⟩
  have := (hc k hk 0 (by omega)).1
  rw [Nat.mul_one, Nat.add_zero] at this
  rw [this]
  simp [icell, List.getD, hk]

theorem nints_any (n : Nod) (A : At) (nm : ByteArray) (other : Sl) (zs : List Int) (w : World) (hn : NodeOk w n A) (ho : IsInts w other.v zs) :
    Calls Tryz.prog 112 #[nval n, .string nm, .slice other.a other.n other.c] w fun e w' => ∃ u : Sl, e = .returned u.v ∧ IsInts w' u.v (A.ints nm zs) ∧ w.grownBy w' none := by
  refine (sints_any n A.xs A.cs nm other zs w hn.attrs hn.has ho).mono ?_
  rintro e w' ⟨u, rfl, hu, hg⟩
  refine ⟨u, rfl, ?_, hg⟩
  have hb : ∃ v, IsInts w v (A.ints nm zs) := by
    unfold At.ints intsV
    rcases find_zip (P := isA nm 7) hn.has with ⟨e1, e2⟩ | ⟨a, c, e1, e2, e3⟩
    · rw [e2]; exact ⟨_, ho⟩
    · rw [e2]; exact ⟨_, e3.i⟩
  obtain ⟨v, hb⟩ := hb
  exact ownsL_ints hu hb.le hb.wf

theorem nint_any (n : Nod) (A : At) (nm : ByteArray) (z : Int) (w : World) (hn : NodeOk w n A) :
    Calls Tryz.prog 104 #[nval n, .string nm, .int .i64 z] w fun e w' => e = .returned (.int .i64 (A.int nm z)) ∧ w.grownBy w' none :=
  sint_any n A.xs A.cs nm z w hn.attrs hn.has

/-- A list of whole numbers of the call's own, of no greater room than it needs. -/
def OwnI (te : TypeId) (w : World) (base B : Nat) (zs : List Int) : Prop := w.ownsRow base te 1 (.slice (some ⟨B, 0, none⟩) zs.length zs.length) zs.length (zs.map (Value.int .i64))

theorem OwnI.at {te : TypeId} {w : World} {base B : Nat} {zs : List Int} (h : OwnI te w base B zs) {k : Nat} (hk : k < zs.length) : w.cell? ⟨B, k, none⟩ = some (.int .i64 (zs.getD k 0)) ∧ w.frozen? ⟨B, k, none⟩ = false := by
  refine ⟨?_, World.ownsRow.frozenAt h k⟩
  rw [World.ownsRow.cellAt h k (by omega), List.getElem?_map]
  simp [List.getD, hk]

theorem OwnI.set {te : TypeId} {w : World} {base B : Nat} {zs : List Int} (h : OwnI te w base B zs) (k : Nat) (x : Int) : OwnI te (w.setCell ⟨B, k, none⟩ (.int .i64 x)) base B (zs.set k x) ∧ w.grownBy (w.setCell ⟨B, k, none⟩ (.int .i64 x)) (some B) := by
  have s := World.ownsRow.stored h k (.int .i64 x)
  rw [← List.map_set] at s
  refine ⟨?_, s.2⟩
  unfold OwnI
  rw [List.length_set]
  exact s.1

theorem OwnI.new {te : TypeId} {w w' : World} {base B : Nat} {zs : List Int} (h : OwnI te w base B zs) (hg : w.grownBy w' none) : OwnI te w' base B zs := World.ownsRow.kept h hg (.inr (by simp [Value.ownBlock]))

theorem OwnI.ints {te : TypeId} {w : World} {base B : Nat} {zs : List Int} (h : OwnI te w base B zs) (hl : zs.length * 8 ≤ 140737488351232) (hz : ∀ z ∈ zs, -9223372036854775808 ≤ z ∧ z ≤ 9223372036854775807) : IsInts w (.slice (some ⟨B, 0, none⟩) zs.length zs.length) zs := by
  refine ⟨_, _, rfl, Nat.le_refl _, by omega, hl, (fun h => by cases h), fun _ => ⟨_, _, rfl, fun k hk => ?_⟩, hz⟩
  rw [Nat.zero_add]
  exact (h.at hk).1

theorem OwnI.base_le {te : TypeId} {w : World} {base b' B : Nat} {zs : List Int} (h : OwnI te w base B zs) (hb : b' ≤ base) : OwnI te w b' B zs := by
  refine ⟨h.1, ?_⟩
  rcases h.2 with h0 | ⟨g, cap, cur, e, hg, r⟩
  · exact .inl h0
  · exact .inr ⟨g, cap, cur, e, by omega, r⟩

theorem make_ints (n : Nat) (hn : n * 8 ≤ 140737488351232) : ∃ M : Array Value, (∀ W : World, (Instr.makeSlice 30 (.int .i64 (n : Int)) (.int .i64 (n : Int))).run Tryz.prog W = .ok (.slice (some ⟨W.heap.size, 0, none⟩) n n) (W.alloc (.cells M 2))) ∧
    ∀ (W : World) (base : Nat), base ≤ W.heap.size → OwnI 2 (W.alloc (.cells M 2)) base W.heap.size (List.replicate n 0) := by
  obtain ⟨j0, hj, jz0, jz1, jz2⟩ := info_parts infoI64
  obtain ⟨M1, hM1⟩ : ∃ M, M = madeCells (Value.int .i64 0).cells (((n : Nat) : Int).toNat * j0.size) := ⟨_, rfl⟩
  have E1 : M1.toList = List.replicate n (.int .i64 0) := by rw [hM1, jz1, Nat.mul_one, show (Value.int .i64 0).cells = #[Value.int .i64 0] from rfl, toList_madeCells_one]; simp
  refine ⟨M1, fun W => ?_, fun W base hb => ?_⟩
  · have h := Go.run_make (P := Tryz.prog) W 30 2 j0 (.int .i64 0) Tryz.underlying30 hj jz0 .i64 .i64 (n : Int) (n : Int) (by omega) (by omega) (by rw [jz2]; omega) (by omega)
    rw [← hM1] at h
    simpa using h
  · unfold OwnI
    rw [List.length_replicate, List.map_replicate]
    refine ⟨by simp, Or.inr ⟨W.heap.size, n, M1, rfl, hb, heap_alloc_new W _, Nat.le_refl _, by simp only [maxLen]; omega, ?_, ?_⟩⟩
    · rw [← Array.length_toList, E1, List.length_replicate, Nat.mul_one]
    · rw [E1, List.take_of_length_le (by simp)]

theorem upToP_len (n : Nat) : (upToP n).length = n := by simp [upToP]

theorem upToP_mem {n : Nat} {z : Int} (h : z ∈ upToP n) : 0 ≤ z ∧ z < n := by
  unfold upToP at h
  obtain ⟨i, hi, rfl⟩ := List.mem_map.1 h
  have := List.mem_range.1 hi
  simp only [Int.ofNat_eq_natCast]
  omega

/-- The numbers up to k, and noughts behind them. -/
def upK (n k : Nat) : List Int := upToP k ++ List.replicate (n - k) 0

theorem upK_set {n k : Nat} (hk : k < n) : (upK n k).set k (k : Int) = upK n (k + 1) := by
  unfold upK
  rw [List.set_append_right _ _ (by rw [upToP_len]; omega), upToP_len, Nat.sub_self, show n - k = (n - (k + 1)) + 1 by omega, List.replicate_succ, List.set_cons_zero]
  unfold upToP
  rw [List.range_succ, List.map_append]
  simp

theorem upK_len {n k : Nat} (hk : k ≤ n) : (upK n k).length = n := by
  unfold upK
  rw [List.length_append, upToP_len, List.length_replicate]
  omega

set_option maxRecDepth 100000 in
theorem upto_any (n : Nat) (w : World) (hn : n * 8 ≤ 140737488351232) : Calls Tryz.prog 145 #[.int .i64 n] w fun e w' => e = .returned (.slice (some ⟨w.heap.size, 0, none⟩) n n) ∧ OwnI 2 w' w.heap.size w.heap.size (upToP n) ∧ w.grownBy w' none := by
  obtain ⟨M, mk1, OW⟩ := make_ints n hn
  have O0 := hide (OW w w.heap.size (Nat.le_refl _))
  clear OW
  go_enter Tryz.func145, Tryz.ntmps145
  go_wp2_with fail
  clear mk1
  go_loopw [9] (fun i wr => ∃ k : Nat, k ≤ n ∧ i = .int .i64 k ∧ OwnI 2 wr w.heap.size w.heap.size (upK n k) ∧ w.grownBy wr none) (fun i _ => n - (intOf i).toNat)
  case atStart => exact ⟨0, Nat.zero_le _, rfl, O0.out, grown_new _ _⟩
  case round =>
    obtain ⟨k, hk, rfl, ho, hg⟩ := hrel
    have HO := hide ho
    have HG := hide hg
    by_cases hkl : k < n
    · obtain ⟨c1, c2⟩ := ho.at (k := k) (by rw [upK_len hk]; exact hkl)
      obtain ⟨so, sg⟩ := ho.set k (k : Int)
      rw [upK_set hkl] at so
      have SO := hide so
      have SG := hide (grown_trans_row hg sg (fun r e => by cases e; exact Nat.le_refl _))
      clear so sg ho hg
      go_wp2
      go_roundw
      case rel => exact ⟨k + 1, by omega, by go_num, SO.out, SG.out⟩
      case measure => simp [intOf]; omega
    · have hkk : k = n := by omega
      subst hkk
      have E : upK k k = upToP k := by simp [upK]
      rw [E] at HO
      clear ho hg hk hkl
      go_wp2
      go_ret
      exact ⟨rfl, HO.out, HG.out⟩

set_option maxRecDepth 100000 in
theorem astrides_any (n : Nod) (A : At) (w : World) (hn : NodeOk w n A) : Calls Tryz.prog 165 #[nval n] w fun e w' => ∃ u : Sl, e = .returned u.v ∧ IsInts w' u.v (A.ints ⟨#[115, 116, 114, 105, 100, 101, 115]⟩ [1, 1]) ∧ w.grownBy w' none := by
  have NK := hide hn
  obtain ⟨op, nam, ⟨ia, il, ic⟩, out, ⟨ao, al, cap⟩⟩ := n
  unfold nval
  simp only
  obtain ⟨w0, hw0⟩ : ∃ w0, w0 = w.alloc (.cells #[.string op, .string nam, .slice ia il ic, .string out, .slice ao al cap] 25) := ⟨_, rfl⟩
  have g0 : Hid (w.grownBy w0 none) := by show w.grownBy w0 none; rw [hw0]; exact grown_new _ _
  have hb0 := heap_alloc_new w (.cells #[.string op, .string nam, .slice ia il ic, .string out, .slice ao al cap] 25)
  rw [← hw0] at hb0
  have BX : Hid (∀ wx, w0.grownBy wx none → wx.heap[w.heap.size]? = some (.cells #[.string op, .string nam, .slice ia il ic, .string out, .slice ao al cap] 25 (0, 0))) := fun wx hg => box_kept hb0 hg
  clear hb0 hn
  obtain ⟨n0, n1, n2, n3, n4⟩ := nod_cells (n := ⟨op, nam, ⟨ia, il, ic⟩, out, ⟨ao, al, cap⟩⟩) (BX.out w0 (grown_refl _))
  obtain ⟨w1, hw1⟩ : ∃ w1, w1 = w0.alloc (.cells #[.int .i64 1, .int .i64 1] 2) := ⟨_, rfl⟩
  have g1 : Hid (w.grownBy w1 none) := by show w.grownBy w1 none; rw [hw1]; exact grown_trans g0.out (grown_new _ _)
  have C := hide (nints_any ⟨op, nam, ⟨ia, il, ic⟩, out, ⟨ao, al, cap⟩⟩ A ⟨#[115, 116, 114, 105, 100, 101, 115]⟩ ⟨some ⟨w0.heap.size, 0, none⟩, 2, 2⟩ [1, 1] w1 (NK.out.more g1.out) (by rw [hw1]; exact ints_new w0 [1, 1] 2 (by decide) (by decide)))
  unfold nval at C
  simp only at C
  rw [show w0.heap.size = w.heap.size + 1 by rw [hw0]; simp] at C
  clear n0 n1 n2 n3 n4
  go_enter Tryz.func165, Tryz.ntmps165
  go_wp2_with fail
  rw [← hw0, ← hw1]
  refine C.out.mono ?_
  rintro e w' ⟨u, rfl, hu, hg⟩
  go_wp2
  go_ret
  exact ⟨u, rfl, hu, grown_trans g1.out hg⟩

set_option maxRecDepth 100000 in
theorem dilations_any (n : Nod) (A : At) (w : World) (hn : NodeOk w n A) : Calls Tryz.prog 166 #[nval n] w fun e w' => ∃ u : Sl, e = .returned u.v ∧ IsInts w' u.v (A.ints ⟨#[100, 105, 108, 97, 116, 105, 111, 110, 115]⟩ [1, 1]) ∧ w.grownBy w' none := by
  have NK := hide hn
  obtain ⟨op, nam, ⟨ia, il, ic⟩, out, ⟨ao, al, cap⟩⟩ := n
  unfold nval
  simp only
  obtain ⟨w0, hw0⟩ : ∃ w0, w0 = w.alloc (.cells #[.string op, .string nam, .slice ia il ic, .string out, .slice ao al cap] 25) := ⟨_, rfl⟩
  have g0 : Hid (w.grownBy w0 none) := by show w.grownBy w0 none; rw [hw0]; exact grown_new _ _
  have hb0 := heap_alloc_new w (.cells #[.string op, .string nam, .slice ia il ic, .string out, .slice ao al cap] 25)
  rw [← hw0] at hb0
  have BX : Hid (∀ wx, w0.grownBy wx none → wx.heap[w.heap.size]? = some (.cells #[.string op, .string nam, .slice ia il ic, .string out, .slice ao al cap] 25 (0, 0))) := fun wx hg => box_kept hb0 hg
  clear hb0 hn
  obtain ⟨n0, n1, n2, n3, n4⟩ := nod_cells (n := ⟨op, nam, ⟨ia, il, ic⟩, out, ⟨ao, al, cap⟩⟩) (BX.out w0 (grown_refl _))
  obtain ⟨w1, hw1⟩ : ∃ w1, w1 = w0.alloc (.cells #[.int .i64 1, .int .i64 1] 2) := ⟨_, rfl⟩
  have g1 : Hid (w.grownBy w1 none) := by show w.grownBy w1 none; rw [hw1]; exact grown_trans g0.out (grown_new _ _)
  have C := hide (nints_any ⟨op, nam, ⟨ia, il, ic⟩, out, ⟨ao, al, cap⟩⟩ A ⟨#[100, 105, 108, 97, 116, 105, 111, 110, 115]⟩ ⟨some ⟨w0.heap.size, 0, none⟩, 2, 2⟩ [1, 1] w1 (NK.out.more g1.out) (by rw [hw1]; exact ints_new w0 [1, 1] 2 (by decide) (by decide)))
  unfold nval at C
  simp only at C
  rw [show w0.heap.size = w.heap.size + 1 by rw [hw0]; simp] at C
  clear n0 n1 n2 n3 n4
  go_enter Tryz.func166, Tryz.ntmps166
  go_wp2_with fail
  rw [← hw0, ← hw1]
  refine C.out.mono ?_
  rintro e w' ⟨u, rfl, hu, hg⟩
  go_wp2
  go_ret
  exact ⟨u, rfl, hu, grown_trans g1.out hg⟩

set_option maxRecDepth 100000 in
theorem pads_any (n : Nod) (A : At) (w : World) (hn : NodeOk w n A) : Calls Tryz.prog 167 #[nval n] w fun e w' => ∃ u : Sl, e = .returned u.v ∧ IsInts w' u.v (A.ints ⟨#[112, 97, 100, 115]⟩ [0, 0, 0, 0]) ∧ w.grownBy w' none := by
  have NK := hide hn
  obtain ⟨op, nam, ⟨ia, il, ic⟩, out, ⟨ao, al, cap⟩⟩ := n
  unfold nval
  simp only
  obtain ⟨w0, hw0⟩ : ∃ w0, w0 = w.alloc (.cells #[.string op, .string nam, .slice ia il ic, .string out, .slice ao al cap] 25) := ⟨_, rfl⟩
  have g0 : Hid (w.grownBy w0 none) := by show w.grownBy w0 none; rw [hw0]; exact grown_new _ _
  have hb0 := heap_alloc_new w (.cells #[.string op, .string nam, .slice ia il ic, .string out, .slice ao al cap] 25)
  rw [← hw0] at hb0
  have BX : Hid (∀ wx, w0.grownBy wx none → wx.heap[w.heap.size]? = some (.cells #[.string op, .string nam, .slice ia il ic, .string out, .slice ao al cap] 25 (0, 0))) := fun wx hg => box_kept hb0 hg
  clear hb0 hn
  obtain ⟨n0, n1, n2, n3, n4⟩ := nod_cells (n := ⟨op, nam, ⟨ia, il, ic⟩, out, ⟨ao, al, cap⟩⟩) (BX.out w0 (grown_refl _))
  obtain ⟨M, mk0, OW⟩ := make_ints 4 (by decide)
  have mk1 : ∀ W : World, (Instr.makeSlice 30 (.int .i64 4) (.int .i64 4)).run Tryz.prog W = .ok (.slice (some ⟨W.heap.size, 0, none⟩) 4 4) (W.alloc (.cells M 2)) := mk0
  clear mk0
  have C := hide (fun (wx : World) (B : Nat) (hg : w.grownBy wx none) (hB : IsInts wx (.slice (some ⟨B, 0, none⟩) 4 4) [0, 0, 0, 0]) => nints_any ⟨op, nam, ⟨ia, il, ic⟩, out, ⟨ao, al, cap⟩⟩ A ⟨#[112, 97, 100, 115]⟩ ⟨some ⟨B, 0, none⟩, 4, 4⟩ [0, 0, 0, 0] wx (NK.out.more hg) hB)
  unfold nval at C
  simp only at C
  have OI : Hid (∀ W : World, IsInts (W.alloc (.cells M 2)) (.slice (some ⟨W.heap.size, 0, none⟩) 4 4) [0, 0, 0, 0]) := fun W => (OW W 0 (Nat.zero_le _)).ints (by decide) (by decide)
  clear OW
  go_enter Tryz.func167, Tryz.ntmps167
  go_wp2_with fail
  rw [← hw0]
  clear hw0
  go_region_held3 (fun w' => w'.cell? ⟨w.heap.size, 0, none⟩ = some (.string op) ∧ w'.cell? ⟨w.heap.size, 1, none⟩ = some (.string nam) ∧ w'.cell? ⟨w.heap.size, 2, none⟩ = some (.slice ia il ic) ∧ w'.cell? ⟨w.heap.size, 3, none⟩ = some (.string out) ∧ w'.cell? ⟨w.heap.size, 4, none⟩ = some (.slice ao al cap)) (go_keep) (first | (go_at_call 112; refine (C.out _ _ (grown_drew (grown_trans g0.out (grown_new _ _))) ((OI.out w0).more (grown_drew (grown_refl _)))).mono ?_; rintro e w' ⟨u, rfl, hu, hg⟩; have g2 : w0.grownBy w' none := grown_trans (grown_drew (grown_new _ _)) hg; obtain ⟨n0, n1, n2, n3, n4⟩ := nod_cells (n := ⟨op, nam, ⟨ia, il, ic⟩, out, ⟨ao, al, cap⟩⟩) (BX.out w' (g2))) | fail)
  go_wp2
  go_ret
  exact ⟨u, rfl, hu, grown_trans g0.out g2⟩

theorem within_bad {l : List Int} {k : Nat} {least z : Int} (hk : k < l.length) (hz : z = l.getD k 0) (h : ¬ (least ≤ z ∧ z ≤ 100)) : l.all (fun x => decide (least ≤ x ∧ x ≤ 100)) = false := by
  rw [List.all_eq_false]
  refine ⟨z, ?_, by simpa using h⟩
  rw [hz]
  simp [List.getD, hk]

theorem within_good {l : List Int} {least : Int} (h : ∀ t, t < l.length → least ≤ l.getD t 0 ∧ l.getD t 0 ≤ 100) : l.all (fun x => decide (least ≤ x ∧ x ≤ 100)) = true := by
  rw [List.all_eq_true]
  intro z hz
  obtain ⟨t, ht, rfl⟩ := List.mem_iff_getElem.1 hz
  have := h t ht
  simpa [List.getD, ht] using this

theorem withinP_ok {l zs : List Int} {many : Nat} {least : Int} (h : withinP l many least = .ok zs) : zs = l ∧ zs.length = many ∧ ∀ z ∈ zs, least ≤ z ∧ z ≤ 100 := by
  unfold withinP mustP at h
  by_cases h1 : l.length = many
  · by_cases h2 : l.all (fun x => decide (least ≤ x ∧ x ≤ 100)) = true
    · rw [if_pos (by simpa using h1), if_pos h2] at h
      have e : l = zs := by simpa [bind, Except.bind, pure, Except.pure] using h
      subst e
      exact ⟨rfl, h1, fun z hz => by simpa using List.all_eq_true.1 h2 z hz⟩
    · rw [if_pos (by simpa using h1), if_neg h2] at h
      simp [bind, Except.bind] at h
  · rw [if_neg (by simpa using h1)] at h
    simp [bind, Except.bind] at h

set_option maxRecDepth 100000 in
theorem within_any (u : Sl) (l : List Int) (many : Nat) (least : Int) (w : World) (hv : IsInts w u.v l) (_hm : many ≤ 1000) : Calls Tryz.prog 155 #[.slice u.a u.n u.c, .int .i64 many, .int .i64 least] w (Ended w (withinP l many least) fun zs v w' => v = u.v ∧ zs = l ∧ w = w') := by
  obtain ⟨a, c, e, c1, c2, c3⟩ := hv.sl
  obtain ⟨ua, un, uc⟩ := u
  simp only [Sl.v, Value.slice.injEq] at e
  obtain ⟨rfl, rfl, rfl⟩ := e
  have HV := hide hv
  clear hv
  by_cases hl : l.length = many
  · have b0 : ((l.length : Int) == (many : Int)) = true := by simp [hl]
    have E : Hid (withinP l many least = (do mustP (l.all (fun x => decide (least ≤ x ∧ x ≤ 100))); return l)) := by show withinP l many least = _; unfold withinP mustP; simp [hl]; rfl
    clear hl
    go_enter Tryz.func155, Tryz.ntmps155
    go_wp2_with (go_at_call 71; refine (must_yes _).mono ?_; rintro e w' ⟨rfl, rfl⟩)
    go_loopw [16] (fun i wr => w = wr ∧ ∃ k : Nat, k ≤ l.length ∧ i = .int .i64 k ∧ ∀ t, t < k → least ≤ l.getD t 0 ∧ l.getD t 0 ≤ 100) (fun i _ => l.length - (intOf i).toNat)
    case atStart => exact ⟨rfl, 0, Nat.zero_le _, rfl, fun t h => absurd h (by omega)⟩
    case round =>
      obtain ⟨hw, k, hk, rfl, hp⟩ := hrel
      subst hw
      have HP := hide hp
      clear hp b0
      by_cases hkl : k < l.length
      · obtain ⟨b, off, rfl, hc⟩ := HV.out.get hkl
        have hcell := hc k hkl
        obtain ⟨z, hz0⟩ : ∃ z, z = l.getD k 0 := ⟨_, rfl⟩
        rw [← hz0] at hcell
        have HZ := hide hz0
        clear hc hz0
        by_cases h1 : least ≤ z
        · by_cases h2 : z ≤ 100
          · go_wp2_with (go_at_call 71; refine (must_yes _).mono ?_; rintro e w' ⟨rfl, rfl⟩)
            go_roundw
            case rel =>
              refine ⟨by trivial, k + 1, by omega, by go_num, fun t ht => ?_⟩
              rcases lt_succ_cases ht with h | rfl
              · exact HP.out t h
              · rw [← HZ.out]; exact ⟨h1, h2⟩
            case measure => simp [intOf]; omega
          · have E2 : Hid (withinP l many least = .error 4) := by show withinP l many least = _; rw [E.out, within_bad hkl HZ.out (fun h => h2 h.2)]; rfl
            go_wp2_with (go_at_call 71; refine (must_no _).mono ?_; rintro e w' ⟨rfl, rfl⟩)
            exact ⟨rfl, ended_err E2.out (grown_refl _)⟩
        · have E2 : Hid (withinP l many least = .error 4) := by show withinP l many least = _; rw [E.out, within_bad hkl HZ.out (fun h => h1 h.1)]; rfl
          go_wp2_with (go_at_call 71; refine (must_no _).mono ?_; rintro e w' ⟨rfl, rfl⟩)
          exact ⟨rfl, ended_err E2.out (grown_refl _)⟩
      · have E2 : Hid (withinP l many least = .ok l) := by show withinP l many least = _; rw [E.out, within_good (fun t ht => HP.out t (by omega))]; rfl
        go_wp2
        go_ret
        exact ended_ok E2.out (grown_refl _) ⟨rfl, rfl, rfl⟩
  · have b0 : ((l.length : Int) == (many : Int)) = false := by simpa using (fun h => hl (by omega) : ¬ (l.length : Int) = many)
    have E : Hid (withinP l many least = .error 4) := by show withinP l many least = _; unfold withinP mustP; simp [hl]; rfl
    rw [E.out]
    clear hl E
    go_enter Tryz.func155, Tryz.ntmps155
    go_wp2_with (go_at_call 71; refine (must_no _).mono ?_; rintro e w' ⟨rfl, rfl⟩)
    exact ⟨rfl, grown_refl _, rfl⟩

set_option maxRecDepth 100000 in
theorem padsof_any (n : Nod) (A : At) (w : World) (hn : NodeOk w n A) : Calls Tryz.prog 156 #[nval n] w (Ended w (padsP A) fun zs v w' => ∃ u : Sl, v = u.v ∧ IsInts w' u.v zs ∧ zs.length = 4 ∧ ∀ z ∈ zs, 0 ≤ z ∧ z ≤ 100) := by
  have NK := hide hn
  obtain ⟨op, nam, ⟨ia, il, ic⟩, out, ⟨ao, al, cap⟩⟩ := n
  unfold nval
  simp only
  obtain ⟨w0, hw0⟩ : ∃ w0, w0 = w.alloc (.cells #[.string op, .string nam, .slice ia il ic, .string out, .slice ao al cap] 25) := ⟨_, rfl⟩
  have g0 : Hid (w.grownBy w0 none) := by show w.grownBy w0 none; rw [hw0]; exact grown_new _ _
  have hb0 := heap_alloc_new w (.cells #[.string op, .string nam, .slice ia il ic, .string out, .slice ao al cap] 25)
  rw [← hw0] at hb0
  have BX : Hid (∀ wx, w0.grownBy wx none → wx.heap[w.heap.size]? = some (.cells #[.string op, .string nam, .slice ia il ic, .string out, .slice ao al cap] 25 (0, 0))) := fun wx hg => box_kept hb0 hg
  clear hb0 hn
  have C := hide (pads_any ⟨op, nam, ⟨ia, il, ic⟩, out, ⟨ao, al, cap⟩⟩ A w0 (NK.out.more g0.out))
  unfold nval at C
  simp only at C
  go_enter Tryz.func156, Tryz.ntmps156
  go_wp2_with fail
  rw [← hw0]
  clear hw0
  refine C.out.mono ?_
  rintro e w1 ⟨u, rfl, hu, hg⟩
  have W := hide (within_any u _ 4 0 w1 hu (by decide))
  have HU := hide hu
  have HG := hide (grown_trans g0.out hg)
  clear hu hg
  cases hr : withinP (A.ints ⟨#[112, 97, 100, 115]⟩ [0, 0, 0, 0]) 4 0 with
  | error c =>
    rw [hr] at W
    have E : Hid (padsP A = .error c) := hr
    clear hr
    go_wp2_with (go_at_call 155; refine W.out.mono ?_; rintro e w' ⟨hg, rfl⟩)
    exact ⟨rfl, ended_err E.out (grown_trans HG.out hg)⟩
  | ok zs =>
    rw [hr] at W
    have E : Hid (padsP A = .ok zs) := hr
    have B := hide (withinP_ok hr)
    clear hr
    go_wp2_with (go_at_call 155; refine W.out.mono ?_; rintro e w' ⟨hg, v, rfl, rfl, rfl, rfl⟩)
    go_ret
    exact ended_ok E.out HG.out ⟨u, rfl, HU.out, B.out.2.1, fun z hz => B.out.2.2 z hz⟩
end Go.Proofs.YteigfipgmghgmaaGreatDoor
