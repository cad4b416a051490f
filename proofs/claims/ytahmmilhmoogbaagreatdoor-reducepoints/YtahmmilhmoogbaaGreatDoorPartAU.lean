/- Joined texts: INode, IMore, IDims, RdFur, IDim3, IDim4. -/
import Derived.Test.YtahmmilhmoogbaaGreatDoorPartAT
import Derived.BigQuiet
import Derived.Deep.RegionWith
namespace Go.Proofs.YtahmmilhmoogbaaGreatDoor

open Go.RowKit

structure NodeOk (w : World) (n : Nod) (A : At) : Prop where
  op : A.op = n.op
  attrs : IsAttrs w n.av.v A.xs
  has : ∀ (j : Nat) (a : Atr), A.xs[j]? = some a → ∃ c, A.cs[j]? = some c ∧ Has w a c
  rng : ∀ a ∈ A.xs, -9223372036854775808 ≤ a.i ∧ a.i ≤ 9223372036854775807

theorem NodeOk.more {w w' : World} {n : Nod} {A : At} (h : NodeOk w n A) (hg : w.grownBy w' none) : NodeOk w' n A :=
  ⟨h.op, h.attrs.more hg, fun j a e => by obtain ⟨c, e1, e2⟩ := h.has j a e; exact ⟨c, e1, e2.more hg⟩, h.rng⟩

theorem NodeOk.int {w : World} {n : Nod} {A : At} (h : NodeOk w n A) (nm : ByteArray) (z : Int) (hz : -9223372036854775808 ≤ z ∧ z ≤ 9223372036854775807) : -9223372036854775808 ≤ A.int nm z ∧ A.int nm z ≤ 9223372036854775807 := by
  unfold At.int intV
  cases hf : A.xs.find? (isA nm 2) with
  | none => exact hz
  | some a => exact h.rng a (List.mem_of_find?_eq_some hf)

theorem ownsL_ints {w : World} {base : Nat} {v : Value} {zs : List Int} {te : TypeId} (h : OwnsL te 1 icell w base v zs) (hl : zs.length * 8 ≤ 140737488351232) (hz : ∀ z ∈ zs, -9223372036854775808 ≤ z ∧ z ≤ 9223372036854775807) : IsInts w v zs := by
  obtain ⟨ao, cap, rfl, h1, h2, h3, h4, h5⟩ := OwnsL.isL (bytes := 8) icell_len h hl
  refine ⟨ao, cap, rfl, h1, h2, hl, h4, fun hp => ?_, hz⟩
  obtain ⟨b, off, rfl, hc⟩ := h5 hp
  refine ⟨b, off, rfl, fun k hk => ?_⟩
  have := (hc k hk 0 (by omega)).1
  rw [Nat.mul_one, Nat.add_zero] at this
  rw [this]
  simp [icell, List.getD, hk]

theorem nints_any (n : Nod) (A : At) (nm : ByteArray) (other : Sl) (zs : List Int) (w : World) (hn : NodeOk w n A) (ho : IsInts w other.v zs) :
    Calls Tryz.prog 87 #[nval n, .string nm, .slice other.a other.n other.c] w fun e w' => ∃ u : Sl, e = .returned u.v ∧ IsInts w' u.v (A.ints nm zs) ∧ w.grownBy w' none := by
  refine (sints_any n A.xs A.cs nm other zs w hn.attrs hn.has ho).mono ?_
  rintro e w' ⟨u, rfl, hu, hg⟩
  refine ⟨u, rfl, ?_, hg⟩
  have hb : ∃ v, IsInts w v (A.ints nm zs) := by
    unfold At.ints intsV
    rcases find_zip (P := isA nm 7) hn.has with ⟨e1, e2⟩ | ⟨a, c, e1, e2, e3⟩
    · rw [e2]; exact ⟨_, ho⟩
    · rw [e2]; exact ⟨_, e3.i⟩
  obtain ⟨v, hb⟩ := hb
  exact ownsL_ints hu hb.le hb.wf

theorem nint_any (n : Nod) (A : At) (nm : ByteArray) (z : Int) (w : World) (hn : NodeOk w n A) :
    Calls Tryz.prog 86 #[nval n, .string nm, .int .i64 z] w fun e w' => e = .returned (.int .i64 (A.int nm z)) ∧ w.grownBy w' none :=
  sint_any n A.xs A.cs nm z w hn.attrs hn.has

def OwnI (te : TypeId) (w : World) (base B : Nat) (zs : List Int) : Prop := w.ownsRow base te 1 (.slice (some ⟨B, 0, none⟩) zs.length zs.length) zs.length (zs.map (Value.int .i64))

theorem OwnI.at {te : TypeId} {w : World} {base B : Nat} {zs : List Int} (h : OwnI te w base B zs) {k : Nat} (hk : k < zs.length) : w.cell? ⟨B, k, none⟩ = some (.int .i64 (zs.getD k 0)) ∧ w.frozen? ⟨B, k, none⟩ = false := by
  refine ⟨?_, World.ownsRow.frozenAt h k⟩
  rw [World.ownsRow.cellAt h k (by omega), List.getElem?_map]
  simp [List.getD, hk]

theorem OwnI.set {te : TypeId} {w : World} {base B : Nat} {zs : List Int} (h : OwnI te w base B zs) (k : Nat) (x : Int) : OwnI te (w.setCell ⟨B, k, none⟩ (.int .i64 x)) base B (zs.set k x) ∧ w.grownBy (w.setCell ⟨B, k, none⟩ (.int .i64 x)) (some B) := by
  have s := World.ownsRow.stored h k (.int .i64 x)
  rw [← List.map_set] at s
  refine ⟨?_, s.2⟩
  unfold OwnI
  rw [List.length_set]
  exact s.1

theorem OwnI.new {te : TypeId} {w w' : World} {base B : Nat} {zs : List Int} (h : OwnI te w base B zs) (hg : w.grownBy w' none) : OwnI te w' base B zs := World.ownsRow.kept h hg (.inr (by simp [Value.ownBlock]))

theorem OwnI.ints {te : TypeId} {w : World} {base B : Nat} {zs : List Int} (h : OwnI te w base B zs) (hl : zs.length * 8 ≤ 140737488351232) (hz : ∀ z ∈ zs, -9223372036854775808 ≤ z ∧ z ≤ 9223372036854775807) : IsInts w (.slice (some ⟨B, 0, none⟩) zs.length zs.length) zs := by
  refine ⟨_, _, rfl, Nat.le_refl _, by omega, hl, (fun h => by cases h), fun _ => ⟨_, _, rfl, fun k hk => ?_⟩, hz⟩
  rw [Nat.zero_add]
  exact (h.at hk).1

theorem OwnI.base_le {te : TypeId} {w : World} {base b' B : Nat} {zs : List Int} (h : OwnI te w base B zs) (hb : b' ≤ base) : OwnI te w b' B zs := by
  refine ⟨h.1, ?_⟩
  rcases h.2 with h0 | ⟨g, cap, cur, e, hg, r⟩
  · exact .inl h0
  · exact .inr ⟨g, cap, cur, e, by omega, r⟩

theorem make_ints (n : Nat) (hn : n * 8 ≤ 140737488351232) : ∃ M : Array Value, (∀ W : World, (Instr.makeSlice 23 (.int .i64 (n : Int)) (.int .i64 (n : Int))).run Tryz.prog W = .ok (.slice (some ⟨W.heap.size, 0, none⟩) n n) (W.alloc (.cells M 2))) ∧
    ∀ (W : World) (base : Nat), base ≤ W.heap.size → OwnI 2 (W.alloc (.cells M 2)) base W.heap.size (List.replicate n 0) := by
  obtain ⟨j0, hj, jz0, jz1, jz2⟩ := info_parts infoI64
  obtain ⟨M1, hM1⟩ : ∃ M, M = madeCells (Value.int .i64 0).cells (((n : Nat) : Int).toNat * j0.size) := ⟨_, rfl⟩
  have E1 : M1.toList = List.replicate n (.int .i64 0) := by rw [hM1, jz1, Nat.mul_one, show (Value.int .i64 0).cells = #[Value.int .i64 0] from rfl, toList_madeCells_one]; simp
  refine ⟨M1, fun W => ?_, fun W base hb => ?_⟩
  · have h := Go.run_make (P := Tryz.prog) W 23 2 j0 (.int .i64 0) Tryz.underlying23 hj jz0 .i64 .i64 (n : Int) (n : Int) (by omega) (by omega) (by rw [jz2]; omega) (by omega)
    rw [← hM1] at h
    simpa using h
  · unfold OwnI
    rw [List.length_replicate, List.map_replicate]
    refine ⟨by simp, Or.inr ⟨W.heap.size, n, M1, rfl, hb, heap_alloc_new W _, Nat.le_refl _, by simp only [maxLen]; omega, ?_, ?_⟩⟩
    · rw [← Array.length_toList, E1, List.length_replicate, Nat.mul_one]
    · rw [E1, List.take_of_length_le (by simp)]

theorem upToP_len (n : Nat) : (upToP n).length = n := by simp [upToP]

theorem upToP_mem {n : Nat} {z : Int} (h : z ∈ upToP n) : 0 ≤ z ∧ z < n := by
  unfold upToP at h
  obtain ⟨i, hi, rfl⟩ := List.mem_map.1 h
  have := List.mem_range.1 hi
  simp only [Int.ofNat_eq_natCast]
  omega

def upK (n k : Nat) : List Int := upToP k ++ List.replicate (n - k) 0

theorem upK_set {n k : Nat} (hk : k < n) : (upK n k).set k (k : Int) = upK n (k + 1) := by
  unfold upK
  rw [List.set_append_right _ _ (by rw [upToP_len]; omega), upToP_len, Nat.sub_self, show n - k = (n - (k + 1)) + 1 by omega, List.replicate_succ, List.set_cons_zero]
  unfold upToP
  rw [List.range_succ, List.map_append]
  simp

theorem upK_len {n k : Nat} (hk : k ≤ n) : (upK n k).length = n := by
  unfold upK
  rw [List.length_append, upToP_len, List.length_replicate]
  omega

set_option maxRecDepth 100000 in
theorem upto_any (n : Nat) (w : World) (hn : n * 8 ≤ 140737488351232) : Calls Tryz.prog 88 #[.int .i64 n] w fun e w' => e = .returned (.slice (some ⟨w.heap.size, 0, none⟩) n n) ∧ OwnI 2 w' w.heap.size w.heap.size (upToP n) ∧ w.grownBy w' none := by
  obtain ⟨M, mk1, OW⟩ := make_ints n hn
  have O0 := hide (OW w w.heap.size (Nat.le_refl _))
  clear OW
  go_enter Tryz.func88, Tryz.ntmps88
  go_wp2_with fail
  clear mk1
  go_loopw [9] (fun i wr => ∃ k : Nat, k ≤ n ∧ i = .int .i64 k ∧ OwnI 2 wr w.heap.size w.heap.size (upK n k) ∧ w.grownBy wr none) (fun i _ => n - (intOf i).toNat)
  case atStart => exact ⟨0, Nat.zero_le _, rfl, O0.out, grown_new _ _⟩
  case round =>
    obtain ⟨k, hk, rfl, ho, hg⟩ := hrel
    have HO := hide ho
    have HG := hide hg
    by_cases hkl : k < n
    · obtain ⟨c1, c2⟩ := ho.at (k := k) (by rw [upK_len hk]; exact hkl)
      obtain ⟨so, sg⟩ := ho.set k (k : Int)
      rw [upK_set hkl] at so
      have SO := hide so
      have SG := hide (grown_trans_row hg sg (fun r e => by cases e; exact Nat.le_refl _))
      clear so sg ho hg
      go_wp2
      go_roundw
      case rel => exact ⟨k + 1, by omega, by go_num, SO.out, SG.out⟩
      case measure => simp [intOf]; omega
    · have hkk : k = n := by omega
      subst hkk
      have E : upK k k = upToP k := by simp [upK]
      rw [E] at HO
      clear ho hg hk hkl
      go_wp2
      go_ret
      exact ⟨rfl, HO.out, HG.out⟩

end Go.Proofs.YtahmmilhmoogbaaGreatDoor

namespace Go.Proofs.YtahmmilhmoogbaaGreatDoor

open Go.RowKit

theorem wpList_push {w0 : World} {ops : Array Oper} {rest : List Oper} {o : Oper} {a : Act} {Q : Exit → Act → World → Prop} (hgd : o.guard = none) (s x : Operand)
    (ho : o.op = .call { callee := .builtin .append, args := #[s, x], argTypes := #[22, 22] })
    (base : Nat) (v : Value) (xs : List Int) (hs : a.eval s = v) (hown : Owns w0 base v xs) (z : Int) (hx : a.eval x = .slice (some ⟨w0.heap.size, 0, none⟩) 1 1)
    (hz : -9223372036854775808 ≤ z ∧ z ≤ 9223372036854775807) (hbytes : (xs.length + 1) * 8 ≤ 140737488351232) (hbase : base ≤ w0.heap.size)
    (h : ∀ v' w', Owns w' base v' (xs ++ [z]) → (∀ r : World, r.heap.size ≤ base → r.grownBy w0 none → r.grownBy w' none) → wpList Tryz.prog ops Q rest (a.put o.dst v') w') : wpList Tryz.prog ops Q (o :: rest) a (w0.alloc (.cells #[.int .i64 z] 3)) := by
  have hi : IsInts (w0.alloc (.cells #[.int .i64 z] 3)) (.slice (some ⟨w0.heap.size, 0, none⟩) 1 1) [z] := ints_new w0 [z] 3 (by simp) (fun y hy => by simp at hy; subst hy; exact hz)
  refine wpList_app hgd s x ho base v xs hs (hown.new (grown_new _ _)) _ [z] hx hi (by simpa using hbytes) (by simp; omega) ?_
  intro v' w' ho' hg
  refine h v' w' ho' (fun r hr hrg => grown_trans_row (grown_trans hrg (grown_new _ _)) hg (fun b e => ?_))
  have := (hown.lt b e).1
  omega

theorem grown_drop {a b c : World} {B : Nat} (h : a.grownBy b none) (k : b.grownBy c (some B)) (hb : a.heap.size ≤ B) : a.grownBy c none := grown_trans_row h k (fun r e => by cases e; exact hb)

set_option maxRecDepth 100000 in
theorem along_any (n : Nod) (A : At) (rank : Nat) (w : World) (hn : NodeOk w n A) (hr : rank ≤ 1000000) : Calls Tryz.prog 59 #[nval n, .int .i64 rank] w fun e w' => ∃ u : Sl, e = .returned u.v ∧ IsInts w' u.v (alongP A rank) ∧ w.grownBy w' none := by
  have HOP := hide hn.op
  have RG := hide (fun nm z hz => hn.int nm z hz)
  have NK := hide hn
  obtain ⟨op, nam, ⟨ia, il, ic⟩, out, ⟨ao, al, cap⟩⟩ := n
  unfold nval
  simp only
  obtain ⟨w0, hw0⟩ : ∃ w0, w0 = w.alloc (.cells #[.string op, .string nam, .slice ia il ic, .string out, .slice ao al cap] 35) := ⟨_, rfl⟩
  have g0 : Hid (w.grownBy w0 none) := by show w.grownBy w0 none; rw [hw0]; exact grown_new _ _
  have hb0 := heap_alloc_new w (.cells #[.string op, .string nam, .slice ia il ic, .string out, .slice ao al cap] 35)
  rw [← hw0] at hb0
  have BX : Hid (∀ wx, w0.grownBy wx none → wx.heap[w.heap.size]? = some (.cells #[.string op, .string nam, .slice ia il ic, .string out, .slice ao al cap] 35 (0, 0))) := fun wx hg => box_kept hb0 hg
  clear hb0 hn
  simp only at HOP
  have U := hide (fun (wx : World) => upto_any rank wx (by omega))
  have C := hide (fun (wx : World) (B : Nat) (hg : w.grownBy wx none) (hB : IsInts wx (.slice (some ⟨B, 0, none⟩) rank rank) (upToP rank)) => nints_any ⟨op, nam, ⟨ia, il, ic⟩, out, ⟨ao, al, cap⟩⟩ A ⟨#[97, 120, 101, 115]⟩ ⟨some ⟨B, 0, none⟩, rank, rank⟩ _ wx (NK.out.more hg) hB)
  have I0 := hide (nint_any ⟨op, nam, ⟨ia, il, ic⟩, out, ⟨ao, al, cap⟩⟩ A ⟨#[97, 120, 105, 115]⟩ 0 w0 (NK.out.more g0.out))
  have I1 := hide (nint_any ⟨op, nam, ⟨ia, il, ic⟩, out, ⟨ao, al, cap⟩⟩ A ⟨#[97, 120, 105, 115]⟩ (-1) w0 (NK.out.more g0.out))
  unfold nval at C I0 I1
  simp only at C I0 I1
  have HS : Hid (w0.heap.size = w.heap.size + 1) := by show _ = _; rw [hw0]; simp
  cases h1 : (op.toList == [65, 114, 103, 77, 97, 120]) with
  | true =>
    have E : Hid (alongP A rank = [A.int ⟨#[97, 120, 105, 115]⟩ 0]) := by show alongP A rank = _; unfold alongP; rw [HOP.out, if_pos (by simpa using h1)]
    have hb := RG.out ⟨#[97, 120, 105, 115]⟩ 0 (by omega)
    obtain ⟨z, hz⟩ : ∃ z, z = A.int ⟨#[97, 120, 105, 115]⟩ 0 := ⟨_, rfl⟩
    rw [← hz] at I0 E hb
    clear hz
    go_enter Tryz.func59, Tryz.ntmps59
    go_wp2_with fail
    rw [← hw0]
    clear hw0
    refine I0.out.mono ?_
    rintro e w1 ⟨rfl, hg1⟩
    have HG := hide (grown_trans g0.out hg1)
    clear hg1
    go_wp2
    go_ret
    exact ⟨⟨some ⟨w1.heap.size, 0, none⟩, 1, 1⟩, rfl, by rw [E.out]; exact ints_new w1 [z] 2 (by simp) (fun y hy => by simp at hy; subst hy; exact hb), grown_trans HG.out (grown_new _ _)⟩
  | false =>
    cases h2 : (op.toList == [83, 111, 102, 116, 109, 97, 120]) with
    | true =>
      have E : Hid (alongP A rank = [A.int ⟨#[97, 120, 105, 115]⟩ (-1)]) := by show alongP A rank = _; unfold alongP; rw [HOP.out, if_neg (by simpa using h1), if_pos (by simpa using h2)]
      have hb := RG.out ⟨#[97, 120, 105, 115]⟩ (-1) (by omega)
      obtain ⟨z, hz⟩ : ∃ z, z = A.int ⟨#[97, 120, 105, 115]⟩ (-1) := ⟨_, rfl⟩
      rw [← hz] at I1 E hb
      clear hz
      go_enter Tryz.func59, Tryz.ntmps59
      go_wp2_with fail
      rw [← hw0]
      clear hw0
      refine I1.out.mono ?_
      rintro e w1 ⟨rfl, hg1⟩
      have HG := hide (grown_trans g0.out hg1)
      clear hg1
      go_wp2
      go_ret
      exact ⟨⟨some ⟨w1.heap.size, 0, none⟩, 1, 1⟩, rfl, by rw [E.out]; exact ints_new w1 [z] 2 (by simp) (fun y hy => by simp at hy; subst hy; exact hb), grown_trans HG.out (grown_new _ _)⟩
    | false =>
      have E : Hid (alongP A rank = A.ints ⟨#[97, 120, 101, 115]⟩ (upToP rank)) := by show alongP A rank = _; unfold alongP; rw [HOP.out, if_neg (by simpa using h1), if_neg (by simpa using h2)]
      obtain ⟨n0, n1, n2, n3, n4⟩ := nod_cells (n := ⟨op, nam, ⟨ia, il, ic⟩, out, ⟨ao, al, cap⟩⟩) (BX.out w0 (grown_refl _))
      go_enter Tryz.func59, Tryz.ntmps59
      go_wp2_with fail
      rw [← hw0]
      clear hw0
      go_region_held3 (fun w' => w'.cell? ⟨w.heap.size, 0, none⟩ = some (.string op) ∧ w'.cell? ⟨w.heap.size, 1, none⟩ = some (.string nam) ∧ w'.cell? ⟨w.heap.size, 2, none⟩ = some (.slice ia il ic) ∧ w'.cell? ⟨w.heap.size, 3, none⟩ = some (.string out) ∧ w'.cell? ⟨w.heap.size, 4, none⟩ = some (.slice ao al cap)) (go_keep) (first | (go_at_call 88; refine (U.out _).mono ?_; rintro e w1 ⟨rfl, ho1, hg1⟩; have g1 : w0.grownBy w1 none := grown_trans (grown_drew (grown_refl _)) hg1; obtain ⟨n0, n1, n2, n3, n4⟩ := nod_cells (n := ⟨op, nam, ⟨ia, il, ic⟩, out, ⟨ao, al, cap⟩⟩) (BX.out w1 (g1))) | (go_at_call 87; refine (C.out _ _ (grown_trans g0.out g1) (by have h := ho1.ints (by rw [upToP_len]; omega) (fun z hz => by have := upToP_mem hz; omega); rw [upToP_len] at h; exact h)).mono ?_; rintro e w2 ⟨u, rfl, hu, hg2⟩; have g2 : w0.grownBy w2 none := grown_trans g1 hg2; obtain ⟨n0, n1, n2, n3, n4⟩ := nod_cells (n := ⟨op, nam, ⟨ia, il, ic⟩, out, ⟨ao, al, cap⟩⟩) (BX.out w2 (g2))) | fail)
      go_wp2
      go_ret
      exact ⟨u, rfl, by rw [E.out]; exact hu, grown_trans g0.out g2⟩

end Go.Proofs.YtahmmilhmoogbaaGreatDoor

namespace Go.Proofs.YtahmmilhmoogbaaGreatDoor

open Go.RowKit

def DimsQ (zs : List Int) (v : Value) (w' : World) : Prop := ∃ s : Sl, v = s.v ∧ IsInts w' s.v zs

theorem axesof_any (u : Sl) (l : List Int) (rank : Nat) (w : World) (hv : IsInts w u.v l) (hr : rank ≤ 100000000000000) : Calls Tryz.prog 106 #[.slice u.a u.n u.c, .int .i64 rank] w (Ended w (axesP l rank) fun is v w' => ∃ B, v = .slice (some ⟨B, 0, none⟩) rank rank ∧ OwnBl w' w.heap.size B is ∧ is.length = rank) := by
  have F := hide (axes_any u.v l rank w hv hr)
  unfold axesP
  cases hx : axesO rank l (List.replicate rank false) with
  | none =>
    rw [hx] at F
    clear hx hv
    go_enter Tryz.func106, Tryz.ntmps106
    go_wp2_with (first | (go_at_call 58; refine F.out.mono ?_; rintro e w' ⟨hg, rfl⟩) | (go_at_call 77; refine (must_no _).mono ?_; rintro e w' ⟨rfl, rfl⟩))
    exact ⟨rfl, hg, rfl⟩
  | some is =>
    rw [hx] at F
    clear hx hv
    go_enter Tryz.func106, Tryz.ntmps106
    go_wp2_with (first | (go_at_call 58; refine F.out.mono ?_; rintro e w' ⟨hg, B, rfl, ho, hl⟩) | (go_at_call 77; refine (must_yes _).mono ?_; rintro e w' ⟨rfl, rfl⟩))
    go_ret
    exact ⟨hg, _, rfl, B, rfl, ho, hl⟩

theorem keptL_snoc (keep : Bool) (d : Int) (g : Bool) : ∀ (a : List Int) (gs : List Bool), a.length = gs.length → keptL keep (a ++ [d]) (gs ++ [g]) = keptL keep a gs ++ (if g = false then [d] else if keep = true then [1] else [])
  | [], [], _ => by cases g <;> cases keep <;> simp [keptL]
  | [], _ :: _, h => by simp at h
  | _ :: _, [], h => by simp at h
  | x :: a, y :: gs, h => by
    have ih := keptL_snoc keep d g a gs (by simpa using h)
    simp only [List.cons_append, keptL, ih]
    split <;> (try split) <;> simp_all

theorem keptL_len (keep : Bool) : ∀ (a : List Int) (gs : List Bool), (keptL keep a gs).length ≤ a.length
  | [], _ => by simp [keptL]
  | _ :: _, [] => by simp [keptL]
  | x :: a, y :: gs => by
    have ih := keptL_len keep a gs
    simp only [keptL]
    split
    · simp; omega
    · split
      · simp; omega
      · simp; omega

theorem takeB_step (zs : List Bool) (k : Nat) (hk : k < zs.length) : zs.take (k + 1) = zs.take k ++ [zs.getD k false] := by
  rw [List.take_add_one]
  simp [List.getD, hk]

set_option maxRecDepth 100000 in
theorem reduced_any (n : Nod) (A : At) (u : Sl) (x : List Int) (w : World) (hn : NodeOk w n A) (hx : IsInts w u.v x) (hf : Fine x) : Calls Tryz.prog 107 #[nval n, .slice u.a u.n u.c] w (Ended w (reducedP A x) DimsQ) := by
  obtain ⟨ux, uc, eu, c1, c2, c3⟩ := hx.sl
  obtain ⟨ua, un, uu⟩ := u
  simp only [Sl.v, Value.slice.injEq] at eu
  obtain ⟨rfl, rfl, rfl⟩ := eu
  have HX := hide hx
  have FEW := hf.few
  have POS := hide hf
  clear hx hf
  have RG := hn.int ⟨#[107, 101, 101, 112, 100, 105, 109, 115]⟩ 1 (by omega)
  have NK := hide hn
  obtain ⟨op, nam, ⟨ia, il, ic⟩, out, ⟨ao, al, cap⟩⟩ := n
  unfold nval
  simp only
  obtain ⟨w0, hw0⟩ : ∃ w0, w0 = w.alloc (.cells #[.string op, .string nam, .slice ia il ic, .string out, .slice ao al cap] 35) := ⟨_, rfl⟩
  have g0 : Hid (w.grownBy w0 none) := by show w.grownBy w0 none; rw [hw0]; exact grown_new _ _
  have hb0 := heap_alloc_new w (.cells #[.string op, .string nam, .slice ia il ic, .string out, .slice ao al cap] 35)
  rw [← hw0] at hb0
  have BX : Hid (∀ wx, w0.grownBy wx none → wx.heap[w.heap.size]? = some (.cells #[.string op, .string nam, .slice ia il ic, .string out, .slice ao al cap] 35 (0, 0))) := fun wx hg => box_kept hb0 hg
  clear hb0 hn
  have I0 := hide (nint_any ⟨op, nam, ⟨ia, il, ic⟩, out, ⟨ao, al, cap⟩⟩ A ⟨#[107, 101, 101, 112, 100, 105, 109, 115]⟩ 1 w0 (NK.out.more g0.out))
  have AL := hide (fun (wx : World) (hg : w.grownBy wx none) => along_any ⟨op, nam, ⟨ia, il, ic⟩, out, ⟨ao, al, cap⟩⟩ A x.length wx (NK.out.more hg) (by omega))
  unfold nval at I0 AL
  simp only at I0 AL
  obtain ⟨z, hz⟩ : ∃ z, z = A.int ⟨#[107, 101, 101, 112, 100, 105, 109, 115]⟩ 1 := ⟨_, rfl⟩
  rw [← hz] at I0 RG
  go_enter Tryz.func107, Tryz.ntmps107
  go_wp2_with fail
  rw [← hw0]
  clear hw0
  refine I0.out.mono ?_
  rintro e w1 ⟨rfl, hg1⟩
  have G1 := hide hg1
  clear hg1 I0
  have ON := hide (ison_any z w1)
  cases hk : isOnP z with
  | error c =>
    rw [hk] at ON
    have E : Hid (reducedP A x = .error c) := by show _ = _; unfold reducedP; rw [← hz, hk]; rfl
    clear hk hz
    go_wp2_with (go_at_call 150; refine ON.out.mono ?_; rintro e w' ⟨hg, rfl⟩)
    exact ⟨rfl, ended_err E.out (grown_trans (grown_trans g0.out G1.out) hg)⟩
  | ok keep =>
    rw [hk] at ON
    have E : Hid (reducedP A x = (axesP (alongP A x.length) x.length).bind (fun gone => .ok (keptL keep x gone))) := by show _ = _; unfold reducedP; rw [← hz, hk]; rfl
    clear hk hz
    obtain ⟨n0, n1, n2, n3, n4⟩ := nod_cells (n := ⟨op, nam, ⟨ia, il, ic⟩, out, ⟨ao, al, cap⟩⟩) (BX.out w1 (G1.out))
    go_wp2_with (first | (go_at_call 150; refine ON.out.mono ?_; rintro e w' ⟨hg, v, rfl, rfl, rfl⟩; clear hg) | fail)
    refine (AL.out w1 (grown_trans g0.out G1.out)).mono ?_
    rintro e w2 ⟨s, rfl, hs, hg2⟩
    have AX := hide (axesof_any s _ x.length w2 hs (by omega))
    have G2 := hide (grown_trans (grown_trans g0.out G1.out) hg2)
    clear hs hg2 AL
    cases hk : axesP (alongP A x.length) x.length with
    | error c =>
      rw [hk] at AX
      have E2 : Hid (reducedP A x = .error c) := by show _ = _; rw [E.out, hk]; rfl
      clear hk
      go_wp2_with (go_at_call 106; refine AX.out.mono ?_; rintro e w' ⟨hg, rfl⟩)
      exact ⟨rfl, ended_err E2.out (grown_trans G2.out hg)⟩
    | ok gone =>
      rw [hk] at AX
      have E2 : Hid (reducedP A x = .ok (keptL keep x gone)) := by show _ = _; rw [E.out, hk]; rfl
      clear hk
      go_wp2_with (go_at_call 106; refine AX.out.mono ?_; rintro e w3 ⟨hg3, v, rfl, B, rfl, ho, hl⟩)
      have G3 := hide (grown_trans G2.out hg3)
      have HO := hide ho
      have HL := hide hl
      clear hg3 ho hl n0 n1 n2 n3 n4
      go_loopw [7, 22] (fun s i wr => ∃ (k : Nat) (u : Sl), k ≤ x.length ∧ i = .int .i64 k ∧ s = .slice u.a u.n u.c ∧ Owns wr w3.heap.size u.v (keptL keep (x.take k) (gone.take k)) ∧ w3.grownBy wr none) (fun _ i _ => x.length - (intOf i).toNat)
      case atStart => exact ⟨0, ⟨none, 0, 0⟩, Nat.zero_le _, rfl, rfl, by simp [keptL]; exact owns_nil _ _, grown_refl _⟩
      case round =>
        obtain ⟨k, ⟨sa, sn, sc⟩, hk, rfl, rfl, ho, hg⟩ := hrel
        simp only
        have HO1 := hide ho
        have HG := hide hg
        have hsz := hg.size
        by_cases hkl : k < x.length
        · obtain ⟨b, off, rfl, hc⟩ := HX.out.get hkl
          have hcell : wr.cell? ⟨b, off + k, none⟩ = some (.int .i64 (x.getD k 0)) := cell_still (hc k hkl) (grown_trans G3.out hg)
          have hwf := HX.out.wf (x.getD k 0) (by simp [List.getD, hkl])
          have hgk : k < gone.length := by rw [HL.out]; exact hkl
          obtain ⟨cb, fb⟩ := (HO.out.new hg).at (k := k) (v := gone.getD k false) (by simp [List.getD, hgk])
          have ST := keptL_snoc keep (x.getD k 0) (gone.getD k false) (x.take k) (gone.take k) (by simp; omega)
          rw [← take_step x k hkl, ← takeB_step gone k hgk] at ST
          have hln := keptL_len keep (x.take k) (gone.take k)
          rw [List.length_take] at hln
          obtain ⟨d, hd0⟩ : ∃ d, d = x.getD k 0 := ⟨_, rfl⟩
          obtain ⟨gb, hgb⟩ : ∃ gb, gb = gone.getD k false := ⟨_, rfl⟩
          rw [← hd0] at hcell ST hwf
          rw [← hgb] at cb ST
          clear hc hd0 hgb ho hg
          cases gb with
          | false =>
            rw [if_pos rfl] at ST
            have HST := hide ST
            clear ST
            go_wp2_with (at_builtin; refine wpList_push rfl (.tmp 33) (.tmp 35) rfl w3.heap.size _ _ rfl HO1.out d rfl hwf (by omega) (by omega) ?_; intro v' w4 hown hgrow)
            obtain ⟨⟨xa, xn, xc⟩, rfl⟩ := hown.sl
            have HO2 := hide hown
            have HG2 := hide (hgrow w3 (Nat.le_refl _) HG.out)
            clear hown hgrow
            go_roundw
            case rel => exact ⟨k + 1, ⟨xa, xn, xc⟩, by omega, by go_num, rfl, by rw [HST.out]; exact HO2.out, HG2.out⟩
            case measure => simp [intOf]; omega
          | true =>
            rw [if_neg (by decide)] at ST
            cases keep with
            | true =>
              rw [if_pos rfl] at ST
              have HST := hide ST
              clear ST
              go_wp2_with (at_builtin; refine wpList_push rfl (.tmp 39) (.tmp 40) rfl w3.heap.size _ _ rfl HO1.out 1 rfl (by omega) (by omega) (by omega) ?_; intro v' w4 hown hgrow)
              obtain ⟨⟨xa, xn, xc⟩, rfl⟩ := hown.sl
              have HO2 := hide hown
              have HG2 := hide (hgrow w3 (Nat.le_refl _) HG.out)
              clear hown hgrow
              go_roundw
              case rel => exact ⟨k + 1, ⟨xa, xn, xc⟩, by omega, by go_num, rfl, by rw [HST.out]; exact HO2.out, HG2.out⟩
              case measure => simp [intOf]; omega
            | false =>
              rw [if_neg (by decide), List.append_nil] at ST
              have HST := hide ST
              clear ST
              go_wp2
              go_roundw
              case rel => exact ⟨k + 1, ⟨sa, sn, sc⟩, by omega, by go_num, rfl, by rw [HST.out]; exact HO1.out, HG.out⟩
              case measure => simp [intOf]; omega
        · have E3 : keptL keep (x.take k) (gone.take k) = keptL keep x gone := by rw [List.take_of_length_le (by omega), List.take_of_length_le (by rw [HL.out]; omega)]
          rw [E3] at HO1
          clear ho hg
          go_wp2
          go_ret
          exact ended_ok E2.out (grown_trans G3.out HG.out) ⟨⟨sa, sn, sc⟩, rfl, HO1.out.ints⟩

end Go.Proofs.YtahmmilhmoogbaaGreatDoor

namespace Go.Proofs.YtahmmilhmoogbaaGreatDoor

open Go.RowKit

def furG (d : Nat) (g : Bool) (p : Int) (c : Nat) : Int := if g = true then p else p * d + c
def furF (d : Nat) (g : Bool) (ps : List Int) : List Int := ps.flatMap fun p => (List.range d).map (furG d g p)

theorem furF_len (d : Nat) (g : Bool) : ∀ ps : List Int, (furF d g ps).length = ps.length * d
  | [] => by simp [furF]
  | p :: ps => by
    have ih := furF_len d g ps
    unfold furF at ih ⊢
    rw [List.flatMap_cons, List.length_append, ih, List.length_map, List.length_range, List.length_cons, Nat.add_mul]
    omega

theorem furF_snoc (d : Nat) (g : Bool) (ps : List Int) (p : Int) : furF d g (ps ++ [p]) = furF d g ps ++ (List.range d).map (furG d g p) := by
  unfold furF
  rw [List.flatMap_append]
  simp

theorem range_snoc (f : Nat → Int) (c : Nat) : (List.range (c + 1)).map f = (List.range c).map f ++ [f c] := by
  rw [List.range_succ, List.map_append]
  rfl

set_option maxRecDepth 100000 in
set_option maxHeartbeats 4000000 in
theorem fur_any (u : Sl) (ps : List Int) (d : Nat) (g : Bool) (w : World) (hp : IsInts w u.v ps) (hb : ∀ p ∈ ps, 0 ≤ p ∧ p ≤ 65536) (hd : d ≤ 65536) (hl : ps.length * d ≤ 65536) : Calls Tryz.prog 60 #[.slice u.a u.n u.c, .int .i64 d, .bool g] w fun e w' => ∃ v : Sl, e = .returned (.slice v.a v.n v.c) ∧ Owns w' w.heap.size v.v (furF d g ps) ∧ w.grownBy w' none := by
  obtain ⟨ux, uc, eu, c1, c2, c3⟩ := hp.sl
  obtain ⟨ua, un, uu⟩ := u
  simp only [Sl.v, Value.slice.injEq] at eu
  obtain ⟨rfl, rfl, rfl⟩ := eu
  have HP := hide hp
  have HB := hide hb
  have HL := hide hl
  clear hp hb hl
  go_enter Tryz.func60, Tryz.ntmps60
  go_wp2
  go_loopw [7, 13] (fun s i wr => ∃ (k : Nat) (u : Sl), k ≤ ps.length ∧ i = .int .i64 k ∧ s = .slice u.a u.n u.c ∧ Owns wr w.heap.size u.v (furF d g (ps.take k)) ∧ w.grownBy wr none) (fun _ i _ => ps.length - (intOf i).toNat)
  case atStart => exact ⟨0, ⟨none, 0, 0⟩, Nat.zero_le _, rfl, rfl, owns_nil _ _, grown_refl _⟩
  case round =>
    obtain ⟨k, ⟨sa, sn, sc⟩, hk, rfl, rfl, ho, hg⟩ := hrel
    simp only
    have HO := hide ho
    have HG := hide hg
    by_cases hkl : k < ps.length
    · obtain ⟨b, off, rfl, hc⟩ := HP.out.get hkl
      have hcell : wr.cell? ⟨b, off + k, none⟩ = some (.int .i64 (ps.getD k 0)) := cell_still (hc k hkl) hg
      have hpb := HB.out (ps.getD k 0) (by simp [List.getD, hkl])
      have ST := furF_snoc d g (ps.take k) (ps.getD k 0)
      rw [← take_step ps k hkl] at ST
      have SZ : (ps.take k).length * d + d ≤ 65536 := by
        rw [List.length_take, Nat.min_eq_left (by omega)]
        refine Nat.le_trans ?_ HL.out
        rw [show k * d + d = (k + 1) * d from by rw [Nat.add_mul]; omega]
        exact Nat.mul_le_mul_right _ hkl
      rw [← furF_len d g] at SZ
      obtain ⟨p, hp0⟩ : ∃ p, p = ps.getD k 0 := ⟨_, rfl⟩
      rw [← hp0] at hcell ST hpb
      have HST := hide ST
      have q1 : 0 ≤ p * d := Int.mul_nonneg hpb.1 (Int.natCast_nonneg _)
      have q2 : p * d ≤ 65536 * 65536 := Int.mul_le_mul hpb.2 (by omega) (Int.natCast_nonneg _) (by omega)
      clear hc hp0 ho hg ST
      go_wp2_with fail
      go_loopw [7, 18] (fun s i wr => ∃ (c : Nat) (u : Sl), c ≤ d ∧ i = .int .i64 c ∧ s = .slice u.a u.n u.c ∧ Owns wr w.heap.size u.v (furF d g (ps.take k) ++ (List.range c).map (furG d g p)) ∧ w.grownBy wr none) (fun _ i _ => d - (intOf i).toNat)
      case atStart => exact ⟨0, ⟨sa, sn, sc⟩, Nat.zero_le _, rfl, rfl, by simpa using HO.out, HG.out⟩
      case round =>
        obtain ⟨c, ⟨sa, sn, sc⟩, hc, rfl, rfl, ho, hg⟩ := hrel
        simp only
        have HO := hide ho
        have HG := hide hg
        have hsz := hg.size
        by_cases hcd : c < d
        · have HQ := hide (range_snoc (furG d g p) c)
          have hln : (furF d g (ps.take k) ++ (List.range c).map (furG d g p)).length ≤ 65536 := by rw [List.length_append, List.length_map, List.length_range]; omega
          clear ho hg
          cases g with
          | true =>
            go_wp2_with (at_builtin; refine wpList_push rfl (.tmp 22) (.tmp 24) rfl w.heap.size _ _ rfl HO.out p rfl (by omega) (by omega) (by omega) ?_; intro v' w4 hown hgrow)
            obtain ⟨⟨xa, xn, xc⟩, rfl⟩ := hown.sl
            have HO2 := hide hown
            have HG2 := hide (hgrow w (Nat.le_refl _) HG.out)
            clear hown hgrow
            go_roundw
            case rel => exact ⟨c + 1, ⟨xa, xn, xc⟩, by omega, by go_num, rfl, by rw [HQ.out, ← List.append_assoc]; exact HO2.out, HG2.out⟩
            case measure => simp [intOf]; omega
          | false =>
            have hw1 : IntKind.i64.wrap (p * (d : Int)) = p * d := by rw [wrap_i64_eq]; unfold wrap64; omega
            have hw2 : IntKind.i64.wrap (p * (d : Int) + (c : Int)) = p * d + c := by rw [wrap_i64_eq]; unfold wrap64; omega
            go_wp2_with (at_builtin; refine wpList_push rfl (.tmp 26) (.tmp 32) rfl w.heap.size _ _ rfl HO.out (p * d + c) rfl (by omega) (by omega) (by omega) ?_; intro v' w4 hown hgrow)
            obtain ⟨⟨xa, xn, xc⟩, rfl⟩ := hown.sl
            have HO2 := hide hown
            have HG2 := hide (hgrow w (Nat.le_refl _) HG.out)
            clear hown hgrow
            go_roundw
            case rel => exact ⟨c + 1, ⟨xa, xn, xc⟩, by omega, by go_num, rfl, by rw [HQ.out, ← List.append_assoc]; exact HO2.out, HG2.out⟩
            case measure => simp [intOf]; omega
        · obtain rfl : c = d := by omega
          rw [← HST.out] at HO
          clear ho hg
          go_wp2_with fail
          go_roundw
          case rel => exact ⟨k + 1, ⟨sa, sn, sc⟩, by omega, by go_num, rfl, HO.out, HG.out⟩
          case measure => simp [intOf]; omega
    · rw [List.take_of_length_le (by omega)] at HO
      clear ho hg
      go_wp2
      go_ret
      exact ⟨⟨sa, sn, sc⟩, rfl, HO.out, HG.out⟩

end Go.Proofs.YtahmmilhmoogbaaGreatDoor

namespace Go.Proofs.YtahmmilhmoogbaaGreatDoor

open Go.RowKit

theorem IsInts.tail {w : World} {b off n c : Nat} {zs : List Int} (h : IsInts w (.slice (some ⟨b, off, none⟩) n c) zs) (hp : 0 < zs.length) : IsInts w (.slice (if c = 1 then some ⟨b, off, none⟩ else some ⟨b, off + 1, none⟩) (n - 1) (c - 1)) zs.tail := by
  obtain ⟨ao, cap, e, h1, h2, h3, h4, h5, h6⟩ := h
  cases e
  have hl : zs.tail.length = zs.length - 1 := by simp
  have hm : ∀ z ∈ zs.tail, -9223372036854775808 ≤ z ∧ z ≤ 9223372036854775807 := fun z hz => h6 z (List.mem_of_mem_tail hz)
  by_cases hc : c = 1
  · rw [if_pos hc]
    have : zs.length = 1 := by omega
    exact ⟨_, _, by rw [hl], by rw [hl]; omega, by omega, by rw [hl]; omega, (fun h => by cases h), fun h => (by rw [hl] at h; omega), hm⟩
  · rw [if_neg hc]
    refine ⟨_, _, by rw [hl], by rw [hl]; omega, by omega, by rw [hl]; omega, (fun h => by cases h), fun _ => ⟨b, off + 1, rfl, fun k hk => ?_⟩, hm⟩
    rw [hl] at hk
    obtain ⟨b', off', e', hcx⟩ := h5 hp
    cases e'
    rw [Nat.add_assoc, Nat.add_comm 1 k, hcx (k + 1) (by omega), ← List.drop_one]
    simp [List.getD]

theorem Fine.le_each {x : List Int} (h : Fine x) {z : Int} (hz : z ∈ x) : z ≤ 65536 := by
  obtain ⟨k, hk, rfl⟩ := List.mem_iff_getElem.1 hz
  have h1 := prod_drop_le h.pos k
  have h2 := prod_drop_step x k hk
  have h3 := Go.Proofs.YtahmmilhmoogbaaGreatDoor.prod_pos _ (pos_drop h.pos (k + 1))
  have h4 : x.getD k 0 = x[k] := by simp [List.getD, hk]
  rw [h4] at h2
  have h5 := h.pos _ hz
  have h6 := le_mul_right h3 (show 0 ≤ x[k] by omega)
  have := h.le
  omega

theorem eqlI_nil (w : World) (a : Option Addr) (l c : Nat) : (binOp .eql 22 (.slice a l c) (.slice none 0 0)).run Tryz.prog w = .ok (.bool a.isNone) w := by
  cases a <;> kernel_rfl

theorem ownsI_empty (w : World) : Owns (w.alloc (.cells #[] 3)) w.heap.size (.slice (some ⟨w.heap.size, 0, none⟩) 0 0) [] :=
  ⟨⟨rfl, .inr ⟨w.heap.size, 0, #[], rfl, Nat.le_refl _, heap_alloc_new w _, Nat.le_refl _, by simp [maxLen], rfl, rfl⟩⟩, by simp, fun z hz => by simp at hz⟩

set_option maxRecDepth 100000 in
theorem cloneI_any (u : Sl) (zs : List Int) (w : World) (h : IsInts w u.v zs) :
    Calls Tryz.prog 127 #[.slice u.a u.n u.c] w fun e w' => ∃ u : Sl, e = .returned (.slice u.a u.n u.c) ∧ Owns w' w.heap.size u.v zs ∧ w.grownBy w' none := by
  have H := hide h
  obtain ⟨ua, un, uc⟩ := u
  obtain ⟨ux, cc, eu, c1, c2, c3⟩ := h.sl
  simp only [Sl.v, Value.slice.injEq] at eu
  obtain ⟨rfl, rfl, rfl⟩ := eu
  simp only
  have q := eqlI_nil w ua zs.length uc
  cases ua with
  | none =>
    obtain ⟨ao, cap, e, h1, h2, h3, h4, h5, h6⟩ := h
    cases e
    obtain ⟨rfl, rfl⟩ := h4 rfl
    clear h4 h5 h6
    simp only [List.length_nil] at q ⊢
    go_enter Tryz.func127, Tryz.ntmps127
    go_wp2
    go_ret
    exact ⟨⟨none, 0, 0⟩, rfl, owns_nil _ _, grown_refl _⟩
  | some ad =>
    clear h
    go_enter Tryz.func127, Tryz.ntmps127
    have OE := hide (ownsI_empty w)
    have HM : Hid (∀ o, IsInts (w.alloc o) (.slice (some ad) zs.length uc) zs) := fun o => H.out.more (grown_new _ _)
    clear H
    go_wp2_with (at_builtin; refine wpList_app rfl (.tmp 5) (.tmp 6) rfl w.heap.size (.slice (some ⟨w.heap.size, 0, none⟩) 0 0) [] rfl OE.out (.slice (some ad) zs.length uc) zs rfl (HM.out _) ?_ ?_ ?_; (simpa using c3); simp; intro v' w1 hown hgrow)
    go_ret
    obtain ⟨s, rfl⟩ := hown.sl
    exact ⟨s, rfl, by simpa using hown, grown_trans_row (grown_new w (.cells #[] 3)) hgrow (fun r e => by cases e; exact Nat.le_refl _)⟩

theorem Owns.cells {w : World} {base g cap : Nat} {zs : List Int} (h : Owns w base (.slice (some ⟨g, 0, none⟩) zs.length cap) zs) {k : Nat} (hk : k < zs.length) : w.cell? ⟨g, k, none⟩ = some (.int .i64 (zs.getD k 0)) ∧ w.frozen? ⟨g, k, none⟩ = false := by
  refine ⟨?_, World.ownsRow.frozenAt h.1 k⟩
  obtain ⟨b, off, e, hc⟩ := h.ints.get hk
  cases e
  have := hc k hk
  rwa [Nat.zero_add] at this

theorem Owns.put {w : World} {base g cap : Nat} {zs : List Int} (h : Owns w base (.slice (some ⟨g, 0, none⟩) zs.length cap) zs) (k : Nat) (z : Int) (hz : -9223372036854775808 ≤ z ∧ z ≤ 9223372036854775807) : Owns (w.setCell ⟨g, k, none⟩ (.int .i64 z)) base (.slice (some ⟨g, 0, none⟩) zs.length cap) (zs.set k z) ∧ w.grownBy (w.setCell ⟨g, k, none⟩ (.int .i64 z)) (some g) := by
  have s := World.ownsRow.stored h.1 k (.int .i64 z)
  rw [← List.map_set] at s
  refine ⟨⟨?_, by rw [List.length_set]; exact h.2.1, fun y hy => ?_⟩, s.2⟩
  · rw [List.length_set]
    exact s.1
  · rcases List.mem_or_eq_of_mem_set hy with h1 | rfl
    · exact h.2.2 y h1
    · exact hz

end Go.Proofs.YtahmmilhmoogbaaGreatDoor

namespace Go.Proofs.YtahmmilhmoogbaaGreatDoor

open Go.RowKit

theorem Fine.take {zs : List Int} (h : Fine zs) (k : Nat) : Fine (zs.take k) :=
  ⟨pos_take h.pos k, by have := h.few; simp; omega, Int.le_trans (prod_take_le h.pos k) h.le⟩

end Go.Proofs.YtahmmilhmoogbaaGreatDoor
