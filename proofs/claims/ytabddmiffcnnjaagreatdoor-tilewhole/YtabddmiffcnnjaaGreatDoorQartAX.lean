/- Joined texts: INode, IMore, IDims, IDim3, IDim4, IType. -/
import Derived.Test.YtabddmiffcnnjaaGreatDoorQartAW
import Derived.BigQuiet
import Derived.Deep.RegionWith
namespace Go.Proofs.YtabddmiffcnnjaaGreatDoor

open Go.RowKit

structure NodeOk (w : World) (n : Nod) (A : At) : Prop where
  op : A.op = n.op
  attrs : IsAttrs w n.av.v A.xs
  has : ∀ (j : Nat) (a : Atr), A.xs[j]? = some a → ∃ c, A.cs[j]? = some c ∧ Has w a c
  rng : ∀ a ∈ A.xs, -9223372036854775808 ≤ a.i ∧ a.i ≤ 9223372036854775807

theorem NodeOk.more {w w' : World} {n : Nod} {A : At} (h : NodeOk w n A) (hg : w.grownBy w' none) : NodeOk w' n A :=
  ⟨h.op, h.attrs.more hg, fun j a e => by obtain ⟨c, e1, e2⟩ := h.has j a e; exact ⟨c, e1, e2.more hg⟩, h.rng⟩

theorem NodeOk.int {w : World} {n : Nod} {A : At} (h : NodeOk w n A) (nm : ByteArray) (z : Int) (hz : -9223372036854775808 ≤ z ∧ z ≤ 9223372036854775807) : -9223372036854775808 ≤ A.int nm z ∧ A.int nm z ≤ 9223372036854775807 := by
  unfold At.int intV
  cases hf : A.xs.find? (isA nm 2) with
  | none => exact hz
  | some a => exact h.rng a (List.mem_of_find?_eq_some hf)

theorem ownsL_ints {w : World} {base : Nat} {v : Value} {zs : List Int} {te : TypeId} (h : OwnsL te 1 icell w base v zs) (hl : zs.length * 8 ≤ 140737488351232) (hz : ∀ z ∈ zs, -9223372036854775808 ≤ z ∧ z ≤ 9223372036854775807) : IsInts w v zs := by
  obtain ⟨ao, cap, rfl, h1, h2, h3, h4, h5⟩ := OwnsL.isL (bytes := 8) icell_len h hl
  refine ⟨ao, cap, rfl, h1, h2, hl, h4, fun hp => ?_, hz⟩
  obtain ⟨b, off, rfl, hc⟩ := h5 hp
  refine ⟨b, off, rfl, fun k hk => ?_⟩
  have := (hc k hk 0 (by omega)).1
  rw [Nat.mul_one, Nat.add_zero] at this
  rw [this]
  simp [icell, List.getD, hk]

theorem nints_any (n : Nod) (A : At) (nm : ByteArray) (other : Sl) (zs : List Int) (w : World) (hn : NodeOk w n A) (ho : IsInts w other.v zs) :
    Calls Tryz.prog 72 #[nval n, .string nm, .slice other.a other.n other.c] w fun e w' => ∃ u : Sl, e = .returned u.v ∧ IsInts w' u.v (A.ints nm zs) ∧ w.grownBy w' none := by
  refine (sints_any n A.xs A.cs nm other zs w hn.attrs hn.has ho).mono ?_
  rintro e w' ⟨u, rfl, hu, hg⟩
  refine ⟨u, rfl, ?_, hg⟩
  have hb : ∃ v, IsInts w v (A.ints nm zs) := by
    unfold At.ints intsV
    rcases find_zip (P := isA nm 7) hn.has with ⟨e1, e2⟩ | ⟨a, c, e1, e2, e3⟩
    · rw [e2]; exact ⟨_, ho⟩
    · rw [e2]; exact ⟨_, e3.i⟩
  obtain ⟨v, hb⟩ := hb
  exact ownsL_ints hu hb.le hb.wf

theorem nint_any (n : Nod) (A : At) (nm : ByteArray) (z : Int) (w : World) (hn : NodeOk w n A) :
    Calls Tryz.prog 64 #[nval n, .string nm, .int .i64 z] w fun e w' => e = .returned (.int .i64 (A.int nm z)) ∧ w.grownBy w' none :=
  sint_any n A.xs A.cs nm z w hn.attrs hn.has

def OwnI (te : TypeId) (w : World) (base B : Nat) (zs : List Int) : Prop := w.ownsRow base te 1 (.slice (some ⟨B, 0, none⟩) zs.length zs.length) zs.length (zs.map (Value.int .i64))

theorem OwnI.at {te : TypeId} {w : World} {base B : Nat} {zs : List Int} (h : OwnI te w base B zs) {k : Nat} (hk : k < zs.length) : w.cell? ⟨B, k, none⟩ = some (.int .i64 (zs.getD k 0)) ∧ w.frozen? ⟨B, k, none⟩ = false := by
  refine ⟨?_, World.ownsRow.frozenAt h k⟩
  rw [World.ownsRow.cellAt h k (by omega), List.getElem?_map]
  simp [List.getD, hk]

theorem OwnI.set {te : TypeId} {w : World} {base B : Nat} {zs : List Int} (h : OwnI te w base B zs) (k : Nat) (x : Int) : OwnI te (w.setCell ⟨B, k, none⟩ (.int .i64 x)) base B (zs.set k x) ∧ w.grownBy (w.setCell ⟨B, k, none⟩ (.int .i64 x)) (some B) := by
  have s := World.ownsRow.stored h k (.int .i64 x)
  rw [← List.map_set] at s
  refine ⟨?_, s.2⟩
  unfold OwnI
  rw [List.length_set]
  exact s.1

theorem OwnI.new {te : TypeId} {w w' : World} {base B : Nat} {zs : List Int} (h : OwnI te w base B zs) (hg : w.grownBy w' none) : OwnI te w' base B zs := World.ownsRow.kept h hg (.inr (by simp [Value.ownBlock]))

theorem OwnI.ints {te : TypeId} {w : World} {base B : Nat} {zs : List Int} (h : OwnI te w base B zs) (hl : zs.length * 8 ≤ 140737488351232) (hz : ∀ z ∈ zs, -9223372036854775808 ≤ z ∧ z ≤ 9223372036854775807) : IsInts w (.slice (some ⟨B, 0, none⟩) zs.length zs.length) zs := by
  refine ⟨_, _, rfl, Nat.le_refl _, by omega, hl, (fun h => by cases h), fun _ => ⟨_, _, rfl, fun k hk => ?_⟩, hz⟩
  rw [Nat.zero_add]
  exact (h.at hk).1

theorem OwnI.base_le {te : TypeId} {w : World} {base b' B : Nat} {zs : List Int} (h : OwnI te w base B zs) (hb : b' ≤ base) : OwnI te w b' B zs := by
  refine ⟨h.1, ?_⟩
  rcases h.2 with h0 | ⟨g, cap, cur, e, hg, r⟩
  · exact .inl h0
  · exact .inr ⟨g, cap, cur, e, by omega, r⟩

theorem make_ints (n : Nat) (hn : n * 8 ≤ 140737488351232) : ∃ M : Array Value, (∀ W : World, (Instr.makeSlice 36 (.int .i64 (n : Int)) (.int .i64 (n : Int))).run Tryz.prog W = .ok (.slice (some ⟨W.heap.size, 0, none⟩) n n) (W.alloc (.cells M 2))) ∧
    ∀ (W : World) (base : Nat), base ≤ W.heap.size → OwnI 2 (W.alloc (.cells M 2)) base W.heap.size (List.replicate n 0) := by
  obtain ⟨j0, hj, jz0, jz1, jz2⟩ := info_parts infoI64
  obtain ⟨M1, hM1⟩ : ∃ M, M = madeCells (Value.int .i64 0).cells (((n : Nat) : Int).toNat * j0.size) := ⟨_, rfl⟩
  have E1 : M1.toList = List.replicate n (.int .i64 0) := by rw [hM1, jz1, Nat.mul_one, show (Value.int .i64 0).cells = #[Value.int .i64 0] from rfl, toList_madeCells_one]; simp
  refine ⟨M1, fun W => ?_, fun W base hb => ?_⟩
  · have h := Go.run_make (P := Tryz.prog) W 36 2 j0 (.int .i64 0) Tryz.underlying36 hj jz0 .i64 .i64 (n : Int) (n : Int) (by omega) (by omega) (by rw [jz2]; omega) (by omega)
    rw [← hM1] at h
    simpa using h
  · unfold OwnI
    rw [List.length_replicate, List.map_replicate]
    refine ⟨by simp, Or.inr ⟨W.heap.size, n, M1, rfl, hb, heap_alloc_new W _, Nat.le_refl _, by simp only [maxLen]; omega, ?_, ?_⟩⟩
    · rw [← Array.length_toList, E1, List.length_replicate, Nat.mul_one]
    · rw [E1, List.take_of_length_le (by simp)]

theorem upToP_len (n : Nat) : (upToP n).length = n := by simp [upToP]

theorem upToP_mem {n : Nat} {z : Int} (h : z ∈ upToP n) : 0 ≤ z ∧ z < n := by
  unfold upToP at h
  obtain ⟨i, hi, rfl⟩ := List.mem_map.1 h
  have := List.mem_range.1 hi
  simp only [Int.ofNat_eq_natCast]
  omega

def upK (n k : Nat) : List Int := upToP k ++ List.replicate (n - k) 0

theorem upK_set {n k : Nat} (hk : k < n) : (upK n k).set k (k : Int) = upK n (k + 1) := by
  unfold upK
  rw [List.set_append_right _ _ (by rw [upToP_len]; omega), upToP_len, Nat.sub_self, show n - k = (n - (k + 1)) + 1 by omega, List.replicate_succ, List.set_cons_zero]
  unfold upToP
  rw [List.range_succ, List.map_append]
  simp

theorem upK_len {n k : Nat} (hk : k ≤ n) : (upK n k).length = n := by
  unfold upK
  rw [List.length_append, upToP_len, List.length_replicate]
  omega

set_option maxRecDepth 100000 in
theorem upto_any (n : Nat) (w : World) (hn : n * 8 ≤ 140737488351232) : Calls Tryz.prog 113 #[.int .i64 n] w fun e w' => e = .returned (.slice (some ⟨w.heap.size, 0, none⟩) n n) ∧ OwnI 2 w' w.heap.size w.heap.size (upToP n) ∧ w.grownBy w' none := by
  obtain ⟨M, mk1, OW⟩ := make_ints n hn
  have O0 := hide (OW w w.heap.size (Nat.le_refl _))
  clear OW
  go_enter Tryz.func113, Tryz.ntmps113
  go_wp2_with fail
  clear mk1
  go_loopw [9] (fun i wr => ∃ k : Nat, k ≤ n ∧ i = .int .i64 k ∧ OwnI 2 wr w.heap.size w.heap.size (upK n k) ∧ w.grownBy wr none) (fun i _ => n - (intOf i).toNat)
  case atStart => exact ⟨0, Nat.zero_le _, rfl, O0.out, grown_new _ _⟩
  case round =>
    obtain ⟨k, hk, rfl, ho, hg⟩ := hrel
    have HO := hide ho
    have HG := hide hg
    by_cases hkl : k < n
    · obtain ⟨c1, c2⟩ := ho.at (k := k) (by rw [upK_len hk]; exact hkl)
      obtain ⟨so, sg⟩ := ho.set k (k : Int)
      rw [upK_set hkl] at so
      have SO := hide so
      have SG := hide (grown_trans_row hg sg (fun r e => by cases e; exact Nat.le_refl _))
      clear so sg ho hg
      go_wp2
      go_roundw
      case rel => exact ⟨k + 1, by omega, by go_num, SO.out, SG.out⟩
      case measure => simp [intOf]; omega
    · have hkk : k = n := by omega
      subst hkk
      have E : upK k k = upToP k := by simp [upK]
      rw [E] at HO
      clear ho hg hk hkl
      go_wp2
      go_ret
      exact ⟨rfl, HO.out, HG.out⟩

end Go.Proofs.YtabddmiffcnnjaaGreatDoor

namespace Go.Proofs.YtabddmiffcnnjaaGreatDoor

open Go.RowKit

theorem grown_drop {a b c : World} {B : Nat} (h : a.grownBy b none) (k : b.grownBy c (some B)) (hb : a.heap.size ≤ B) : a.grownBy c none := grown_trans_row h k (fun r e => by cases e; exact hb)

set_option maxRecDepth 100000 in
theorem along_any (n : Nod) (A : At) (rank : Nat) (w : World) (hn : NodeOk w n A) (hr : rank ≤ 1000000) : Calls Tryz.prog 69 #[nval n, .int .i64 rank] w fun e w' => ∃ u : Sl, e = .returned u.v ∧ IsInts w' u.v (alongP A rank) ∧ w.grownBy w' none := by
  have HOP := hide hn.op
  have RG := hide (fun nm z hz => hn.int nm z hz)
  have NK := hide hn
  obtain ⟨op, nam, ⟨ia, il, ic⟩, out, ⟨ao, al, cap⟩⟩ := n
  unfold nval
  simp only
  obtain ⟨w0, hw0⟩ : ∃ w0, w0 = w.alloc (.cells #[.string op, .string nam, .slice ia il ic, .string out, .slice ao al cap] 34) := ⟨_, rfl⟩
  have g0 : Hid (w.grownBy w0 none) := by show w.grownBy w0 none; rw [hw0]; exact grown_new _ _
  have hb0 := heap_alloc_new w (.cells #[.string op, .string nam, .slice ia il ic, .string out, .slice ao al cap] 34)
  rw [← hw0] at hb0
  have BX : Hid (∀ wx, w0.grownBy wx none → wx.heap[w.heap.size]? = some (.cells #[.string op, .string nam, .slice ia il ic, .string out, .slice ao al cap] 34 (0, 0))) := fun wx hg => box_kept hb0 hg
  clear hb0 hn
  simp only at HOP
  have U := hide (fun (wx : World) => upto_any rank wx (by omega))
  have C := hide (fun (wx : World) (B : Nat) (hg : w.grownBy wx none) (hB : IsInts wx (.slice (some ⟨B, 0, none⟩) rank rank) (upToP rank)) => nints_any ⟨op, nam, ⟨ia, il, ic⟩, out, ⟨ao, al, cap⟩⟩ A ⟨#[97, 120, 101, 115]⟩ ⟨some ⟨B, 0, none⟩, rank, rank⟩ _ wx (NK.out.more hg) hB)
  have I0 := hide (nint_any ⟨op, nam, ⟨ia, il, ic⟩, out, ⟨ao, al, cap⟩⟩ A ⟨#[97, 120, 105, 115]⟩ 0 w0 (NK.out.more g0.out))
  have I1 := hide (nint_any ⟨op, nam, ⟨ia, il, ic⟩, out, ⟨ao, al, cap⟩⟩ A ⟨#[97, 120, 105, 115]⟩ (-1) w0 (NK.out.more g0.out))
  unfold nval at C I0 I1
  simp only at C I0 I1
  have HS : Hid (w0.heap.size = w.heap.size + 1) := by show _ = _; rw [hw0]; simp
  cases h1 : (op.toList == [65, 114, 103, 77, 97, 120]) with
  | true =>
    have E : Hid (alongP A rank = [A.int ⟨#[97, 120, 105, 115]⟩ 0]) := by show alongP A rank = _; unfold alongP; rw [HOP.out, if_pos (by simpa using h1)]
    have hb := RG.out ⟨#[97, 120, 105, 115]⟩ 0 (by omega)
    obtain ⟨z, hz⟩ : ∃ z, z = A.int ⟨#[97, 120, 105, 115]⟩ 0 := ⟨_, rfl⟩
    rw [← hz] at I0 E hb
    clear hz
    go_enter Tryz.func69, Tryz.ntmps69
    go_wp2_with fail
    rw [← hw0]
    clear hw0
    refine I0.out.mono ?_
    rintro e w1 ⟨rfl, hg1⟩
    have HG := hide (grown_trans g0.out hg1)
    clear hg1
    go_wp2
    go_ret
    exact ⟨⟨some ⟨w1.heap.size, 0, none⟩, 1, 1⟩, rfl, by rw [E.out]; exact ints_new w1 [z] 2 (by simp) (fun y hy => by simp at hy; subst hy; exact hb), grown_trans HG.out (grown_new _ _)⟩
  | false =>
    cases h2 : (op.toList == [83, 111, 102, 116, 109, 97, 120]) with
    | true =>
      have E : Hid (alongP A rank = [A.int ⟨#[97, 120, 105, 115]⟩ (-1)]) := by show alongP A rank = _; unfold alongP; rw [HOP.out, if_neg (by simpa using h1), if_pos (by simpa using h2)]
      have hb := RG.out ⟨#[97, 120, 105, 115]⟩ (-1) (by omega)
      obtain ⟨z, hz⟩ : ∃ z, z = A.int ⟨#[97, 120, 105, 115]⟩ (-1) := ⟨_, rfl⟩
      rw [← hz] at I1 E hb
      clear hz
      go_enter Tryz.func69, Tryz.ntmps69
      go_wp2_with fail
      rw [← hw0]
      clear hw0
      refine I1.out.mono ?_
      rintro e w1 ⟨rfl, hg1⟩
      have HG := hide (grown_trans g0.out hg1)
      clear hg1
      go_wp2
      go_ret
      exact ⟨⟨some ⟨w1.heap.size, 0, none⟩, 1, 1⟩, rfl, by rw [E.out]; exact ints_new w1 [z] 2 (by simp) (fun y hy => by simp at hy; subst hy; exact hb), grown_trans HG.out (grown_new _ _)⟩
    | false =>
      have E : Hid (alongP A rank = A.ints ⟨#[97, 120, 101, 115]⟩ (upToP rank)) := by show alongP A rank = _; unfold alongP; rw [HOP.out, if_neg (by simpa using h1), if_neg (by simpa using h2)]
      obtain ⟨n0, n1, n2, n3, n4⟩ := nod_cells (n := ⟨op, nam, ⟨ia, il, ic⟩, out, ⟨ao, al, cap⟩⟩) (BX.out w0 (grown_refl _))
      go_enter Tryz.func69, Tryz.ntmps69
      go_wp2_with fail
      rw [← hw0]
      clear hw0
      go_region_held3 (fun w' => w'.cell? ⟨w.heap.size, 0, none⟩ = some (.string op) ∧ w'.cell? ⟨w.heap.size, 1, none⟩ = some (.string nam) ∧ w'.cell? ⟨w.heap.size, 2, none⟩ = some (.slice ia il ic) ∧ w'.cell? ⟨w.heap.size, 3, none⟩ = some (.string out) ∧ w'.cell? ⟨w.heap.size, 4, none⟩ = some (.slice ao al cap)) (go_keep) (first | (go_at_call 113; refine (U.out _).mono ?_; rintro e w1 ⟨rfl, ho1, hg1⟩; have g1 : w0.grownBy w1 none := grown_trans (grown_drew (grown_refl _)) hg1; obtain ⟨n0, n1, n2, n3, n4⟩ := nod_cells (n := ⟨op, nam, ⟨ia, il, ic⟩, out, ⟨ao, al, cap⟩⟩) (BX.out w1 (g1))) | (go_at_call 72; refine (C.out _ _ (grown_trans g0.out g1) (by have h := ho1.ints (by rw [upToP_len]; omega) (fun z hz => by have := upToP_mem hz; omega); rw [upToP_len] at h; exact h)).mono ?_; rintro e w2 ⟨u, rfl, hu, hg2⟩; have g2 : w0.grownBy w2 none := grown_trans g1 hg2; obtain ⟨n0, n1, n2, n3, n4⟩ := nod_cells (n := ⟨op, nam, ⟨ia, il, ic⟩, out, ⟨ao, al, cap⟩⟩) (BX.out w2 (g2))) | fail)
      go_wp2
      go_ret
      exact ⟨u, rfl, by rw [E.out]; exact hu, grown_trans g0.out g2⟩

end Go.Proofs.YtabddmiffcnnjaaGreatDoor

namespace Go.Proofs.YtabddmiffcnnjaaGreatDoor

open Go.RowKit

def DimsQ (zs : List Int) (v : Value) (w' : World) : Prop := ∃ s : Sl, v = s.v ∧ IsInts w' s.v zs

end Go.Proofs.YtabddmiffcnnjaaGreatDoor

namespace Go.Proofs.YtabddmiffcnnjaaGreatDoor

open Go.RowKit

theorem eqlI_nil (w : World) (a : Option Addr) (l c : Nat) : (binOp .eql 35 (.slice a l c) (.slice none 0 0)).run Tryz.prog w = .ok (.bool a.isNone) w := by
  cases a <;> kernel_rfl

theorem ownsI_empty (w : World) : Owns (w.alloc (.cells #[] 3)) w.heap.size (.slice (some ⟨w.heap.size, 0, none⟩) 0 0) [] :=
  ⟨⟨rfl, .inr ⟨w.heap.size, 0, #[], rfl, Nat.le_refl _, heap_alloc_new w _, Nat.le_refl _, by simp [maxLen], rfl, rfl⟩⟩, by simp, fun z hz => by simp at hz⟩

set_option maxRecDepth 100000 in
theorem cloneI_any (u : Sl) (zs : List Int) (w : World) (h : IsInts w u.v zs) :
    Calls Tryz.prog 89 #[.slice u.a u.n u.c] w fun e w' => ∃ u : Sl, e = .returned (.slice u.a u.n u.c) ∧ Owns w' w.heap.size u.v zs ∧ w.grownBy w' none := by
  have H := hide h
  obtain ⟨ua, un, uc⟩ := u
  obtain ⟨ux, cc, eu, c1, c2, c3⟩ := h.sl
  simp only [Sl.v, Value.slice.injEq] at eu
  obtain ⟨rfl, rfl, rfl⟩ := eu
  simp only
  have q := eqlI_nil w ua zs.length uc
  cases ua with
  | none =>
    obtain ⟨ao, cap, e, h1, h2, h3, h4, h5, h6⟩ := h
    cases e
    obtain ⟨rfl, rfl⟩ := h4 rfl
    clear h4 h5 h6
    simp only [List.length_nil] at q ⊢
    go_enter Tryz.func89, Tryz.ntmps89
    go_wp2
    go_ret
    exact ⟨⟨none, 0, 0⟩, rfl, owns_nil _ _, grown_refl _⟩
  | some ad =>
    clear h
    go_enter Tryz.func89, Tryz.ntmps89
    have OE := hide (ownsI_empty w)
    have HM : Hid (∀ o, IsInts (w.alloc o) (.slice (some ad) zs.length uc) zs) := fun o => H.out.more (grown_new _ _)
    clear H
    go_wp2_with (at_builtin; refine wpList_app rfl (.tmp 5) (.tmp 6) rfl w.heap.size (.slice (some ⟨w.heap.size, 0, none⟩) 0 0) [] rfl OE.out (.slice (some ad) zs.length uc) zs rfl (HM.out _) ?_ ?_ ?_; (simpa using c3); simp; intro v' w1 hown hgrow)
    go_ret
    obtain ⟨s, rfl⟩ := hown.sl
    exact ⟨s, rfl, by simpa using hown, grown_trans_row (grown_new w (.cells #[] 3)) hgrow (fun r e => by cases e; exact Nat.le_refl _)⟩

theorem Owns.cells {w : World} {base g cap : Nat} {zs : List Int} (h : Owns w base (.slice (some ⟨g, 0, none⟩) zs.length cap) zs) {k : Nat} (hk : k < zs.length) : w.cell? ⟨g, k, none⟩ = some (.int .i64 (zs.getD k 0)) ∧ w.frozen? ⟨g, k, none⟩ = false := by
  refine ⟨?_, World.ownsRow.frozenAt h.1 k⟩
  obtain ⟨b, off, e, hc⟩ := h.ints.get hk
  cases e
  have := hc k hk
  rwa [Nat.zero_add] at this

theorem Owns.put {w : World} {base g cap : Nat} {zs : List Int} (h : Owns w base (.slice (some ⟨g, 0, none⟩) zs.length cap) zs) (k : Nat) (z : Int) (hz : -9223372036854775808 ≤ z ∧ z ≤ 9223372036854775807) : Owns (w.setCell ⟨g, k, none⟩ (.int .i64 z)) base (.slice (some ⟨g, 0, none⟩) zs.length cap) (zs.set k z) ∧ w.grownBy (w.setCell ⟨g, k, none⟩ (.int .i64 z)) (some g) := by
  have s := World.ownsRow.stored h.1 k (.int .i64 z)
  rw [← List.map_set] at s
  refine ⟨⟨?_, by rw [List.length_set]; exact h.2.1, fun y hy => ?_⟩, s.2⟩
  · rw [List.length_set]
    exact s.1
  · rcases List.mem_or_eq_of_mem_set hy with h1 | rfl
    · exact h.2.2 y h1
    · exact hz

end Go.Proofs.YtabddmiffcnnjaaGreatDoor

namespace Go.Proofs.YtabddmiffcnnjaaGreatDoor

open Go.RowKit

theorem Fine.take {zs : List Int} (h : Fine zs) (k : Nat) : Fine (zs.take k) :=
  ⟨pos_take h.pos k, by have := h.few; simp; omega, Int.le_trans (prod_take_le h.pos k) h.le⟩

end Go.Proofs.YtabddmiffcnnjaaGreatDoor

namespace Go.Proofs.YtabddmiffcnnjaaGreatDoor

open Go.RowKit

structure ValsIn (w : World) (v : Value) (vs : List (Val × List Int)) : Prop where
  vals : IsVals w v (vs.map (·.1))
  dims : ∀ p ∈ vs, IsInts w p.1.dv.v p.2

theorem ValsIn.more {w w' : World} {v : Value} {vs : List (Val × List Int)} (h : ValsIn w v vs) (hg : w.grownBy w' none) : ValsIn w' v vs := ⟨h.vals.more hg, fun p hp => (h.dims p hp).more hg⟩

def sameP : List Int → R Int
  | [] => .ok 0
  | t :: l => if l.all (fun s => s == t) = true then .ok t else .error 4

set_option maxRecDepth 100000 in
set_option maxHeartbeats 1000000 in
theorem sametype_any (u : Sl) (vs : List (Val × List Int)) (w : World) (hv : ValsIn w u.v vs) (hp : 0 < vs.length) (hf : vs.length ≤ 1000000) : Calls Tryz.prog 65 #[.slice u.a u.n u.c] w (Ended w (sameP (vs.map (·.1.ty))) fun t v _ => v = .int .i64 t) := by
  obtain ⟨xa, xc, e1, p1, p2, p3⟩ := hv.vals.form
  rw [List.length_map] at e1 p1 p3
  obtain ⟨ua, un, uc⟩ := u
  simp only [Sl.v, Value.slice.injEq] at e1
  obtain ⟨rfl, rfl, rfl⟩ := e1
  have HV := hide hv.vals
  have hl : (vs.map (·.1)).length = vs.length := by simp
  obtain ⟨b, off, rfl⟩ := hv.vals.addr (k := 0) (by rw [hl]; exact hp)
  obtain ⟨z0, z1, z2⟩ := hv.vals.val 0 (by rw [hl]; exact hp)
  rw [Nat.zero_mul, Nat.add_zero, List.getElem_map] at z1
  obtain ⟨T, hT⟩ : ∃ T, T = vs[0].1.ty := ⟨_, rfl⟩
  rw [← hT] at z1
  have Z1 := hide z1
  have HT := hide hT
  clear hv z0 z1 z2 hT
  go_enter Tryz.func65, Tryz.ntmps65
  go_wp2
  go_loopw [7] (fun i wr => ∃ k : Nat, k ≤ vs.length ∧ i = .int .i64 k ∧ (∀ j (hj : j < vs.length), j < k → vs[j].1.ty = T) ∧ w.grownBy wr none) (fun i _ => vs.length - (intOf i).toNat)
  case atStart => exact ⟨0, Nat.zero_le _, rfl, fun j hj h => absurd h (by omega), grown_refl _⟩
  case round =>
    obtain ⟨k, hk, rfl, hall, hg⟩ := hrel
    have HA := hide hall
    have HG := hide hg
    by_cases hkl : k < vs.length
    · have h2 := HV.out.more hg
      obtain ⟨y0, y1, y2⟩ := h2.val k (by rw [hl]; exact hkl)
      rw [List.getElem_map] at y0 y1 y2
      have z1 : wr.cell? ⟨b, off + 1, none⟩ = some (.int .i64 T) := cell_still Z1.out hg
      have HK : Hid (vs[k].1.ty = vs[k].1.ty) := rfl
      obtain ⟨v, hvv⟩ : ∃ v, v = vs[k].1 := ⟨_, rfl⟩
      rw [← hvv] at y0 y1 y2 HK
      obtain ⟨vn, vt, ⟨da, dn, dc⟩⟩ := v
      simp only at y0 y1 y2
      have HVV := hide hvv
      obtain ⟨w1, hw1⟩ : ∃ w1, w1 = wr.alloc (.cells #[.string vn, .int .i64 vt, .slice da dn dc] 43) := ⟨_, rfl⟩
      have g1 : Hid (w.grownBy w1 none) := by show w.grownBy w1 none; rw [hw1]; exact grown_trans hg (grown_new _ _)
      have hb1 := heap_alloc_new wr (.cells #[.string vn, .int .i64 vt, .slice da dn dc] 43)
      rw [← hw1] at hb1
      have q1 : w1.cell? ⟨wr.heap.size, 1, none⟩ = some (.int .i64 vt) := (cell_of_row _ _ 1 _ _ (0, 0) hb1).trans rfl
      have z1' : w1.cell? ⟨b, off + 1, none⟩ = some (.int .i64 T) := cell_still Z1.out g1.out
      clear hb1 hvv hall hg h2
      go_wp2_with fail
      rw [← hw1]
      clear hw1 y0 y1 y2 z1
      have hp' : (0 : Int) < (vs.length : Int) := by omega
      by_cases hd : vt = T
      · have bd : (vt == T) = true := by simp [hd]
        go_quiet (first | (go_at_call 35; refine (must_yes _).mono ?_; rintro e w' ⟨rfl, rfl⟩; exact ⟨rfl, _, rfl⟩) | fail)
        have HKT : Hid (∀ j (hj : j < vs.length), j < k + 1 → vs[j].1.ty = T) := fun j hj h => by
          rcases lt_succ_cases h with h | rfl
          · exact HA.out j hj h
          · rw [← HVV.out]; exact hd
        clear hd bd
        go_wp2_with fail
        go_roundw
        case rel => exact ⟨k + 1, by omega, by go_num, HKT.out, ⟨g1.out.os, g1.out.tape, g1.out.output, g1.out.size, g1.out.block⟩⟩
        case measure => simp [intOf]; omega
      · have bd : (vt == T) = false := by simpa using hd
        have E : Hid (sameP (vs.map (·.1.ty)) = .error 4) := by
          show _ = _
          cases vs with
          | nil => simp at hp
          | cons p l =>
            have hT2 : T = p.1.ty := HT.out
            simp only [List.map_cons, sameP]
            rw [if_neg]
            intro h
            rw [List.all_eq_true] at h
            cases k with
            | zero => exact hd (by have := HVV.out; simp at this; rw [hT2, ← this])
            | succ k =>
              have h3 : k < l.length := by simpa using hkl
              have := h (l[k].1.ty) (List.mem_map.2 ⟨l[k], List.getElem_mem h3, rfl⟩)
              refine hd ?_
              have h4 := HVV.out
              simp only [List.getElem_cons_succ] at h4
              rw [hT2, ← beq_iff_eq.1 this, ← h4]
        clear hd
        refine wp_region_held_drew (S := (fun w' => w'.cell? ⟨wr.heap.size, 1, none⟩ = some (.int .i64 vt) ∧ w'.cell? ⟨b, off + 1, none⟩ = some (.int .i64 T))) (by kernel_rfl) (by go_keep) (fun hHeld => ?_)
        refine wpAnyH_take (i := 0) (v := ?_) rfl (by kernel_rfl) (by kernel_rfl) (by kernel_rfl) (fun _ _ _ h => h) (Or.inl ⟨by rfl, ?_⟩) (by assumption) ?_
        rotate_left 1
        · (intro w hSw; (try dsimp only at hSw); go_simp; (try with_reducible rfl))
        try simp only [Act.put]
        refine wpAnyH_take (i := 1) (v := ?_) rfl (by kernel_rfl) (by kernel_rfl) (by kernel_rfl) (fun _ _ _ h => h) (Or.inl ⟨by rfl, ?_⟩) (by assumption) ?_
        rotate_left 1
        · (intro w hSw; (try dsimp only at hSw); go_simp; (try with_reducible rfl))
        try simp only [Act.put]
        refine wpAnyH_take (i := 2) (v := ?_) rfl (by kernel_rfl) (by kernel_rfl) (by kernel_rfl) (fun _ _ _ h => h) (Or.inl ⟨by rfl, ?_⟩) (by assumption) ?_
        rotate_left 1
        · (intro w hSw; (try dsimp only at hSw); go_simp; (try with_reducible rfl))
        try simp only [Act.put]
        refine wpAnyH_take (i := 3) (v := ?_) rfl (by kernel_rfl) (by kernel_rfl) (by kernel_rfl) (fun _ _ _ h => h) (Or.inl ⟨by rfl, ?_⟩) (by assumption) ?_
        rotate_left 1
        · (intro w hSw; (try dsimp only at hSw); go_simp; (try with_reducible rfl))
        try simp only [Act.put]
        refine wpAnyH_take (i := 4) (v := ?_) rfl (by kernel_rfl) (by kernel_rfl) (by kernel_rfl) (fun _ _ _ h => h) (Or.inl ⟨by rfl, ?_⟩) (by assumption) ?_
        rotate_left 1
        · (intro w hSw; (try dsimp only at hSw); go_simp; (try with_reducible rfl))
        try simp only [Act.put]
        refine wpAnyH_take (i := 5) (v := ?_) rfl (by kernel_rfl) (by kernel_rfl) (by kernel_rfl) (fun _ _ _ h => h) (Or.inl ⟨by rfl, ?_⟩) (by assumption) ?_
        rotate_left 1
        · (intro w hSw; (try dsimp only at hSw); go_simp; (try with_reducible rfl))
        try simp only [Act.put]
        refine wpAnyH_take (i := 6) (v := ?_) rfl (by kernel_rfl) (by kernel_rfl) (by kernel_rfl) (fun _ _ _ h => h) (Or.inl ⟨by rfl, ?_⟩) (by assumption) ?_
        rotate_left 1
        · (intro w hSw; (try dsimp only at hSw); go_simp; (try with_reducible rfl))
        try simp only [Act.put]
        refine wpAnyH_ready (rs := [7]) (by kernel_rfl) (by simp) ?_
        refine AllReadyH.cons rfl (fun K hK => ?_) AllReadyH.nil
        go_simp
        refine (must_no _).mono ?_
        rintro e wy ⟨rfl, rfl⟩; exact ⟨rfl, ended_err E.out (grown_drew g1.out)⟩
    · have E : Hid (sameP (vs.map (·.1.ty)) = .ok T) := by
        show _ = _
        cases vs with
        | nil => simp at hp
        | cons p l =>
          have hT2 : T = p.1.ty := HT.out
          simp only [List.map_cons, sameP]
          rw [if_pos, hT2]
          rw [List.all_eq_true]
          intro s hs
          obtain ⟨q, hq, rfl⟩ := List.mem_map.1 hs
          obtain ⟨j, hj, rfl⟩ := List.mem_iff_getElem.1 hq
          have := HA.out (j + 1) (by simpa using hj) (by simp at hkl ⊢; omega)
          simp only [List.getElem_cons_succ] at this
          simp [this, hT2]
      have z1 : wr.cell? ⟨b, off + 1, none⟩ = some (.int .i64 T) := cell_still Z1.out hg
      have hp' : (0 : Int) < (vs.length : Int) := by omega
      clear hall hg
      go_wp2
      go_ret
      exact ended_ok E.out HG.out rfl

end Go.Proofs.YtabddmiffcnnjaaGreatDoor
