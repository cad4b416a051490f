/- A part. -/
import Derived.Test.YtkefdkboejimeaaGreatDoorPartAQ
import Derived.BigQuiet
import Derived.Deep.RegionWith
import Derived.Deep.AppendLies
set_option maxRecDepth 100000
namespace Go.Proofs.YtkefdkboejimeaaGreatDoor
open Go.RowKit
structure NodeOk (w : World) (n : Nod) (A : At) : Prop where
 op : A.op = n.op
 attrs : jbz w n.av.v A.xs
 has : ∀ (j : Nat) (a : Atr), A.xs[j]? = some a → ∃ c, A.cs[j]? = some c ∧ Has w a c
 rng : ∀ a ∈ A.xs, -9223372036854775808 ≤ a.i ∧ a.i ≤ 9223372036854775807
theorem NodeOk.more {w w' : World} {n : Nod} {A : At} (h : NodeOk w n A) (hg : w.grownBy w' none) : NodeOk w' n A :=
 ⟨h.op, h.attrs.more hg, fun j a e => by obtain ⟨c, e1, e2⟩ := h.has j a e; exact ⟨c, e1, e2.more hg⟩, h.rng⟩
theorem NodeOk.int {w : World} {n : Nod} {A : At} (h : NodeOk w n A) (nm : ByteArray) (z : Int) (hz : -9223372036854775808 ≤ z ∧ z ≤ 9223372036854775807) : -9223372036854775808 ≤ A.int nm z ∧ A.int nm z ≤ 9223372036854775807 := by
 unfold At.int jmL
 cases hf : A.xs.find? (isA nm 2) with
 | none => exact hz
 | some a => exact h.rng a (List.mem_of_find?_eq_some hf)
theorem jjj {w : World} {base : Nat} {v : Value} {zs : List Int} {te : TypeId} (h : jaU te 1 jcN w base v zs) (hl : zs.length * 8 ≤ 140737488351232) (hz : ∀ z ∈ zs, -9223372036854775808 ≤ z ∧ z ≤ 9223372036854775807) : IsInts w v zs := by
 obtain ⟨ao, cap, rfl, h1, h2, h3, h4, h5⟩ := jaU.isL (bytes := 8) jez h hl
 refine ⟨ao, cap, rfl, h1, h2, hl, h4, fun hp => ?_, hz⟩
 obtain ⟨b, off, rfl, hc⟩ := h5 hp
 refine ⟨b, off, rfl, fun k hk => ?_⟩
 have := (hc k hk 0 (by omega)).1
 rw [Nat.mul_one, Nat.add_zero] at this
 rw [this]
 simp [jcN, List.getD, hk]
theorem jca (n : Nod) (A : At) (nm : ByteArray) (other : Sl) (zs : List Int) (w : World) (hn : NodeOk w n A) (ho : IsInts w other.v zs) :
    Calls Tryz.prog 61 #[jaL n, .string nm, .slice other.a other.n other.c] w fun e w' => ∃ u : Sl, e = .returned u.v ∧ IsInts w' u.v (A.ints nm zs) ∧ w.grownBy w' none := by
     refine (jkx n A.xs A.cs nm other zs w hn.attrs hn.has ho).mono ?_
     rintro e w' ⟨u, rfl, hu, hg⟩
     refine ⟨u, rfl, ?_, hg⟩
     have hb : ∃ v, IsInts w v (A.ints nm zs) := by
      unfold At.ints jfT
      rcases jeh (P := isA nm 7) hn.has with ⟨e1, e2⟩ | ⟨a, c, e1, e2, e3⟩
      ·rw [e2]; exact ⟨_, ho⟩
      ·rw [e2]; exact ⟨_, e3.i⟩
     obtain ⟨v, hb⟩ := hb
     exact jjj hu hb.le hb.wf
theorem jdt (n : Nod) (A : At) (nm : ByteArray) (z : Int) (w : World) (hn : NodeOk w n A) :
    Calls Tryz.prog 56 #[jaL n, .string nm, .int .i64 z] w fun e w' => e = .returned (.int .i64 (A.int nm z)) ∧ w.grownBy w' none :=
     jmM n A.xs A.cs nm z w hn.attrs hn.has
def jfa (te : TypeId) (w : World) (base B : Nat) (zs : List Int) : Prop := w.ownsRow base te 1 (.slice (some ⟨B, 0, none⟩) zs.length zs.length) zs.length (zs.map (Value.int .i64))
theorem jfa.at {te : TypeId} {w : World} {base B : Nat} {zs : List Int} (h : jfa te w base B zs) {k : Nat} (hk : k < zs.length) : w.cell? ⟨B, k, none⟩ = some (.int .i64 (zs.getD k 0)) ∧ w.frozen? ⟨B, k, none⟩ = false := by
 refine ⟨?_, World.ownsRow.frozenAt h k⟩
 rw [World.ownsRow.cellAt h k (by omega), List.getElem?_map]
 simp [List.getD, hk]
theorem jfa.set {te : TypeId} {w : World} {base B : Nat} {zs : List Int} (h : jfa te w base B zs) (k : Nat) (x : Int) : jfa te (w.setCell ⟨B, k, none⟩ (.int .i64 x)) base B (zs.set k x) ∧ w.grownBy (w.setCell ⟨B, k, none⟩ (.int .i64 x)) (some B) := by
 have s := World.ownsRow.stored h k (.int .i64 x)
 rw [← List.map_set] at s
 refine ⟨?_, s.2⟩
 unfold jfa
 rw [List.length_set]
 exact s.1
theorem jfa.new {te : TypeId} {w w' : World} {base B : Nat} {zs : List Int} (h : jfa te w base B zs) (hg : w.grownBy w' none) : jfa te w' base B zs := World.ownsRow.kept h hg (.inr (by simp [Value.ownBlock]))
theorem jfa.ints {te : TypeId} {w : World} {base B : Nat} {zs : List Int} (h : jfa te w base B zs) (hl : zs.length * 8 ≤ 140737488351232) (hz : ∀ z ∈ zs, -9223372036854775808 ≤ z ∧ z ≤ 9223372036854775807) : IsInts w (.slice (some ⟨B, 0, none⟩) zs.length zs.length) zs := by
 refine ⟨_, _, rfl, Nat.le_refl _, by omega, hl, (fun h => by cases h), fun _ => ⟨_, _, rfl, fun k hk => ?_⟩, hz⟩
 rw [Nat.zero_add]
 exact (h.at hk).1
theorem jfa.base_le {te : TypeId} {w : World} {base b' B : Nat} {zs : List Int} (h : jfa te w base B zs) (hb : b' ≤ base) : jfa te w b' B zs := by
 refine ⟨h.1, ?_⟩
 rcases h.2 with h0 | ⟨g, cap, cur, e, hg, r⟩
 ·exact .inl h0
 ·exact .inr ⟨g, cap, cur, e, by omega, r⟩
theorem jgC (n : Nat) (hn : n * 8 ≤ 140737488351232) : ∃ M : Array Value, (∀ W : World, (Instr.makeSlice 23 (.int .i64 (n : Int)) (.int .i64 (n : Int))).run Tryz.prog W = .ok (.slice (some ⟨W.heap.size, 0, none⟩) n n) (W.alloc (.cells M 2))) ∧
    ∀ (W : World) (base : Nat), base ≤ W.heap.size → jfa 2 (W.alloc (.cells M 2)) base W.heap.size (List.replicate n 0) := by
     obtain ⟨j0, hj, jz0, jz1, jz2⟩ := info_parts jj4
     obtain ⟨M1, hM1⟩ : ∃ M, M = madeCells (Value.int .i64 0).cells (((n : Nat) : Int).toNat * j0.size) := ⟨_, rfl⟩
     have E1 : M1.toList = List.replicate n (.int .i64 0) := by rw [hM1, jz1, Nat.mul_one, show (Value.int .i64 0).cells = #[Value.int .i64 0] from rfl, toList_madeCells_one]; simp
     refine ⟨M1, fun W => ?_, fun W base hb => ?_⟩
     ·have h := Go.run_make (P := Tryz.prog) W 23 2 j0 (.int .i64 0) Tryz.underlying23 hj jz0 .i64 .i64 (n : Int) (n : Int) (by omega) (by omega) (by rw [jz2]; omega) (by omega)
      rw [← hM1] at h
      simpa using h
     ·unfold jfa
      rw [List.length_replicate, List.map_replicate]
      refine ⟨by simp, Or.inr ⟨W.heap.size, n, M1, rfl, hb, heap_alloc_new W _, Nat.le_refl _, by simp only [maxLen]; omega, ?_, ?_⟩⟩
      ·rw [← Array.length_toList, E1, List.length_replicate, Nat.mul_one]
      ·rw [E1, List.take_of_length_le (by simp)]
theorem jaO (n : Nat) : (jbh n).length = n := by simp [jbh]
theorem jeN {n : Nat} {z : Int} (h : z ∈ jbh n) : 0 ≤ z ∧ z < n := by
 unfold jbh at h
 obtain ⟨i, hi, rfl⟩ := List.mem_map.1 h
 have := List.mem_range.1 hi
 simp only [Int.ofNat_eq_natCast]
 omega
def upK (n k : Nat) : List Int := jbh k ++ List.replicate (n - k) 0
theorem joP {n k : Nat} (hk : k < n) : (upK n k).set k (k : Int) = upK n (k + 1) := by
 unfold upK
 rw [List.set_append_right _ _ (by rw [jaO]; omega), jaO, Nat.sub_self, show n - k = (n - (k + 1)) + 1 by omega, List.replicate_succ, List.set_cons_zero]
 unfold jbh
 rw [List.range_succ, List.map_append]
 simp
theorem joQ {n k : Nat} (hk : k ≤ n) : (upK n k).length = n := by
 unfold upK
 rw [List.length_append, jaO, List.length_replicate]
 omega
theorem jfW (n : Nat) (w : World) (hn : n * 8 ≤ 140737488351232) : Calls Tryz.prog 75 #[.int .i64 n] w fun e w' => e = .returned (.slice (some ⟨w.heap.size, 0, none⟩) n n) ∧ jfa 2 w' w.heap.size w.heap.size (jbh n) ∧ w.grownBy w' none := by
 obtain ⟨M, mk1, OW⟩ := jgC n hn
 have O0 := jae (OW w w.heap.size (Nat.le_refl _))
 clear OW
 go_enter Tryz.func75, Tryz.ntmps75
 go_wp2_with fail
 clear mk1
 go_loopw [9] (fun i wr => ∃ k : Nat, k ≤ n ∧ i = .int .i64 k ∧ jfa 2 wr w.heap.size w.heap.size (upK n k) ∧ w.grownBy wr none) (fun i _ => n - (intOf i).toNat)
 case atStart => exact ⟨0, Nat.zero_le _, rfl, O0.out, jab _ _⟩
 case round =>
  obtain ⟨k, hk, rfl, ho, hg⟩ := hrel
  have HO := jae ho
  have HG := jae hg
  by_cases hkl : k < n
  ·obtain ⟨c1, c2⟩ := ho.at (k := k) (by rw [joQ hk]; exact hkl)
   obtain ⟨so, sg⟩ := ho.set k (k : Int)
   rw [joP hkl] at so
   have SO := jae so
   have SG := jae (jah hg sg (fun r e => by cases e; exact Nat.le_refl _))
   clear so sg ho hg
   go_wp2
   go_roundw
   case rel => exact ⟨k + 1, by omega, by go_num, SO.out, SG.out⟩
   case measure => simp [intOf]; omega
  ·have hkk : k = n := by omega
   subst hkk
   have E : upK k k = jbh k := by simp [upK]
   rw [E] at HO
   clear ho hg hk hkl
   go_wp2
   go_ret
   exact ⟨rfl, HO.out, HG.out⟩
theorem jd5 (n : Nod) (A : At) (w : World) (hn : NodeOk w n A) : Calls Tryz.prog 96 #[jaL n] w fun e w' => ∃ u : Sl, e = .returned u.v ∧ IsInts w' u.v (A.ints ⟨#[115, 116, 114, 105, 100, 101, 115]⟩ [1, 1]) ∧ w.grownBy w' none := by
 have NK := jae hn
 obtain ⟨op, nam, ⟨ia, il, ic⟩, out, ⟨ao, al, cap⟩⟩ := n
 unfold jaL
 simp only
 obtain ⟨w0, hw0⟩ : ∃ w0, w0 = w.alloc (.cells #[.string op, .string nam, .slice ia il ic, .string out, .slice ao al cap] 35) := ⟨_, rfl⟩
 have g0 : Hid (w.grownBy w0 none) := by show w.grownBy w0 none; rw [hw0]; exact jab _ _
 have hb0 := heap_alloc_new w (.cells #[.string op, .string nam, .slice ia il ic, .string out, .slice ao al cap] 35)
 rw [← hw0] at hb0
 have BX : Hid (∀ wx, w0.grownBy wx none → wx.heap[w.heap.size]? = some (.cells #[.string op, .string nam, .slice ia il ic, .string out, .slice ao al cap] 35 (0, 0))) := fun wx hg => jad hb0 hg
 clear hb0 hn
 obtain ⟨n0, n1, n2, n3, n4⟩ := jai (n := ⟨op, nam, ⟨ia, il, ic⟩, out, ⟨ao, al, cap⟩⟩) (BX.out w0 (jaf _))
 obtain ⟨w1, hw1⟩ : ∃ w1, w1 = w0.alloc (.cells #[.int .i64 1, .int .i64 1] 2) := ⟨_, rfl⟩
 have g1 : Hid (w.grownBy w1 none) := by show w.grownBy w1 none; rw [hw1]; exact jaa g0.out (jab _ _)
 have C := jae (jca ⟨op, nam, ⟨ia, il, ic⟩, out, ⟨ao, al, cap⟩⟩ A ⟨#[115, 116, 114, 105, 100, 101, 115]⟩ ⟨some ⟨w0.heap.size, 0, none⟩, 2, 2⟩ [1, 1] w1 (NK.out.more g1.out) (by rw [hw1]; exact jbO w0 [1, 1] 2 (by decide) (by decide)))
 unfold jaL at C
 simp only at C
 rw [show w0.heap.size = w.heap.size + 1 by rw [hw0]; simp] at C
 clear n0 n1 n2 n3 n4
 go_enter Tryz.func96, Tryz.ntmps96
 go_wp2_with fail
 rw [← hw0, ← hw1]
 refine C.out.mono ?_
 rintro e w' ⟨u, rfl, hu, hg⟩
 go_wp2
 go_ret
 exact ⟨u, rfl, hu, jaa g1.out hg⟩
theorem jdu (n : Nod) (A : At) (w : World) (hn : NodeOk w n A) : Calls Tryz.prog 97 #[jaL n] w fun e w' => ∃ u : Sl, e = .returned u.v ∧ IsInts w' u.v (A.ints ⟨#[100, 105, 108, 97, 116, 105, 111, 110, 115]⟩ [1, 1]) ∧ w.grownBy w' none := by
 have NK := jae hn
 obtain ⟨op, nam, ⟨ia, il, ic⟩, out, ⟨ao, al, cap⟩⟩ := n
 unfold jaL
 simp only
 obtain ⟨w0, hw0⟩ : ∃ w0, w0 = w.alloc (.cells #[.string op, .string nam, .slice ia il ic, .string out, .slice ao al cap] 35) := ⟨_, rfl⟩
 have g0 : Hid (w.grownBy w0 none) := by show w.grownBy w0 none; rw [hw0]; exact jab _ _
 have hb0 := heap_alloc_new w (.cells #[.string op, .string nam, .slice ia il ic, .string out, .slice ao al cap] 35)
 rw [← hw0] at hb0
 have BX : Hid (∀ wx, w0.grownBy wx none → wx.heap[w.heap.size]? = some (.cells #[.string op, .string nam, .slice ia il ic, .string out, .slice ao al cap] 35 (0, 0))) := fun wx hg => jad hb0 hg
 clear hb0 hn
 obtain ⟨n0, n1, n2, n3, n4⟩ := jai (n := ⟨op, nam, ⟨ia, il, ic⟩, out, ⟨ao, al, cap⟩⟩) (BX.out w0 (jaf _))
 obtain ⟨w1, hw1⟩ : ∃ w1, w1 = w0.alloc (.cells #[.int .i64 1, .int .i64 1] 2) := ⟨_, rfl⟩
 have g1 : Hid (w.grownBy w1 none) := by show w.grownBy w1 none; rw [hw1]; exact jaa g0.out (jab _ _)
 have C := jae (jca ⟨op, nam, ⟨ia, il, ic⟩, out, ⟨ao, al, cap⟩⟩ A ⟨#[100, 105, 108, 97, 116, 105, 111, 110, 115]⟩ ⟨some ⟨w0.heap.size, 0, none⟩, 2, 2⟩ [1, 1] w1 (NK.out.more g1.out) (by rw [hw1]; exact jbO w0 [1, 1] 2 (by decide) (by decide)))
 unfold jaL at C
 simp only at C
 rw [show w0.heap.size = w.heap.size + 1 by rw [hw0]; simp] at C
 clear n0 n1 n2 n3 n4
 go_enter Tryz.func97, Tryz.ntmps97
 go_wp2_with fail
 rw [← hw0, ← hw1]
 refine C.out.mono ?_
 rintro e w' ⟨u, rfl, hu, hg⟩
 go_wp2
 go_ret
 exact ⟨u, rfl, hu, jaa g1.out hg⟩
theorem jiv (n : Nod) (A : At) (w : World) (hn : NodeOk w n A) : Calls Tryz.prog 98 #[jaL n] w fun e w' => ∃ u : Sl, e = .returned u.v ∧ IsInts w' u.v (A.ints ⟨#[112, 97, 100, 115]⟩ [0, 0, 0, 0]) ∧ w.grownBy w' none := by
 have NK := jae hn
 obtain ⟨op, nam, ⟨ia, il, ic⟩, out, ⟨ao, al, cap⟩⟩ := n
 unfold jaL
 simp only
 obtain ⟨w0, hw0⟩ : ∃ w0, w0 = w.alloc (.cells #[.string op, .string nam, .slice ia il ic, .string out, .slice ao al cap] 35) := ⟨_, rfl⟩
 have g0 : Hid (w.grownBy w0 none) := by show w.grownBy w0 none; rw [hw0]; exact jab _ _
 have hb0 := heap_alloc_new w (.cells #[.string op, .string nam, .slice ia il ic, .string out, .slice ao al cap] 35)
 rw [← hw0] at hb0
 have BX : Hid (∀ wx, w0.grownBy wx none → wx.heap[w.heap.size]? = some (.cells #[.string op, .string nam, .slice ia il ic, .string out, .slice ao al cap] 35 (0, 0))) := fun wx hg => jad hb0 hg
 clear hb0 hn
 obtain ⟨n0, n1, n2, n3, n4⟩ := jai (n := ⟨op, nam, ⟨ia, il, ic⟩, out, ⟨ao, al, cap⟩⟩) (BX.out w0 (jaf _))
 obtain ⟨M, mk0, OW⟩ := jgC 4 (by decide)
 have mk1 : ∀ W : World, (Instr.makeSlice 23 (.int .i64 4) (.int .i64 4)).run Tryz.prog W = .ok (.slice (some ⟨W.heap.size, 0, none⟩) 4 4) (W.alloc (.cells M 2)) := mk0
 clear mk0
 have C := jae (fun (wx : World) (B : Nat) (hg : w.grownBy wx none) (hB : IsInts wx (.slice (some ⟨B, 0, none⟩) 4 4) [0, 0, 0, 0]) => jca ⟨op, nam, ⟨ia, il, ic⟩, out, ⟨ao, al, cap⟩⟩ A ⟨#[112, 97, 100, 115]⟩ ⟨some ⟨B, 0, none⟩, 4, 4⟩ [0, 0, 0, 0] wx (NK.out.more hg) hB)
 unfold jaL at C
 simp only at C
 have OI : Hid (∀ W : World, IsInts (W.alloc (.cells M 2)) (.slice (some ⟨W.heap.size, 0, none⟩) 4 4) [0, 0, 0, 0]) := fun W => (OW W 0 (Nat.zero_le _)).ints (by decide) (by decide)
 clear OW
 go_enter Tryz.func98, Tryz.ntmps98
 go_wp2_with fail
 rw [← hw0]
 clear hw0
 go_region_held3 (fun w' => w'.cell? ⟨w.heap.size, 0, none⟩ = some (.string op) ∧ w'.cell? ⟨w.heap.size, 1, none⟩ = some (.string nam) ∧ w'.cell? ⟨w.heap.size, 2, none⟩ = some (.slice ia il ic) ∧ w'.cell? ⟨w.heap.size, 3, none⟩ = some (.string out) ∧ w'.cell? ⟨w.heap.size, 4, none⟩ = some (.slice ao al cap)) (go_keep) (first | (go_at_call 61; refine (C.out _ _ (jag (jaa g0.out (jab _ _))) ((OI.out w0).more (jag (jaf _)))).mono ?_; rintro e w' ⟨u, rfl, hu, hg⟩; have g2 : w0.grownBy w' none := jaa (jag (jab _ _)) hg; obtain ⟨n0, n1, n2, n3, n4⟩ := jai (n := ⟨op, nam, ⟨ia, il, ic⟩, out, ⟨ao, al, cap⟩⟩) (BX.out w' (g2))) | fail)
 go_wp2
 go_ret
 exact ⟨u, rfl, hu, jaa g0.out g2⟩
theorem jfo {l : List Int} {k : Nat} {least z : Int} (hk : k < l.length) (hz : z = l.getD k 0) (h : ¬ (least ≤ z ∧ z ≤ 100)) : l.all (fun x => decide (least ≤ x ∧ x ≤ 100)) = false := by
 rw [List.all_eq_false]
 refine ⟨z, ?_, by simpa using h⟩
 rw [hz]
 simp [List.getD, hk]
theorem jhD {l : List Int} {least : Int} (h : ∀ t, t < l.length → least ≤ l.getD t 0 ∧ l.getD t 0 ≤ 100) : l.all (fun x => decide (least ≤ x ∧ x ≤ 100)) = true := by
 rw [List.all_eq_true]
 intro z hz
 obtain ⟨t, ht, rfl⟩ := List.mem_iff_getElem.1 hz
 have := h t ht
 simpa [List.getD, ht] using this
theorem jcm {l zs : List Int} {many : Nat} {least : Int} (h : jaN l many least = .ok zs) : zs = l ∧ zs.length = many ∧ ∀ z ∈ zs, least ≤ z ∧ z ≤ 100 := by
 unfold jaN jaz at h
 by_cases h1 : l.length = many
 ·by_cases h2 : l.all (fun x => decide (least ≤ x ∧ x ≤ 100)) = true
  ·rw [if_pos (by simpa using h1), if_pos h2] at h
   have e : l = zs := by simpa [bind, Except.bind, pure, Except.pure] using h
   subst e
   exact ⟨rfl, h1, fun z hz => by simpa using List.all_eq_true.1 h2 z hz⟩
  ·rw [if_pos (by simpa using h1), if_neg h2] at h
   simp [bind, Except.bind] at h
 ·rw [if_neg (by simpa using h1)] at h
  simp [bind, Except.bind] at h
theorem jc2 (u : Sl) (l : List Int) (many : Nat) (least : Int) (w : World) (hv : IsInts w u.v l) (_hm : many ≤ 1000) : Calls Tryz.prog 176 #[.slice u.a u.n u.c, .int .i64 many, .int .i64 least] w (jbj w (jaN l many least) fun zs v w' => v = u.v ∧ zs = l ∧ w = w') := by
 obtain ⟨a, c, e, c1, c2, c3⟩ := hv.sl
 obtain ⟨ua, un, uc⟩ := u
 simp only [Sl.v, Value.slice.injEq] at e
 obtain ⟨rfl, rfl, rfl⟩ := e
 have HV := jae hv
 clear hv
 by_cases hl : l.length = many
 ·have b0 : ((l.length : Int) == (many : Int)) = true := by simp [hl]
  have E : Hid (jaN l many least = (do jaz (l.all (fun x => decide (least ≤ x ∧ x ≤ 100))); return l)) := by show jaN l many least = _; unfold jaN jaz; simp [hl]; rfl
  clear hl
  go_enter Tryz.func176, Tryz.ntmps176
  go_wp2_with (go_at_call 118; refine (jaT _).mono ?_; rintro e w' ⟨rfl, rfl⟩)
  go_loopw [16] (fun i wr => w = wr ∧ ∃ k : Nat, k ≤ l.length ∧ i = .int .i64 k ∧ ∀ t, t < k → least ≤ l.getD t 0 ∧ l.getD t 0 ≤ 100) (fun i _ => l.length - (intOf i).toNat)
  case atStart => exact ⟨rfl, 0, Nat.zero_le _, rfl, fun t h => absurd h (by omega)⟩
  case round =>
   obtain ⟨hw, k, hk, rfl, hp⟩ := hrel
   subst hw
   have HP := jae hp
   clear hp b0
   by_cases hkl : k < l.length
   ·obtain ⟨b, off, rfl, hc⟩ := HV.out.get hkl
    have hcell := hc k hkl
    obtain ⟨z, hz0⟩ : ∃ z, z = l.getD k 0 := ⟨_, rfl⟩
    rw [← hz0] at hcell
    have HZ := jae hz0
    clear hc hz0
    by_cases h1 : least ≤ z
    ·by_cases h2 : z ≤ 100
     ·go_wp2_with (go_at_call 118; refine (jaT _).mono ?_; rintro e w' ⟨rfl, rfl⟩)
      go_roundw
      case rel =>
       refine ⟨by trivial, k + 1, by omega, by go_num, fun t ht => ?_⟩
       rcases jbe ht with h | rfl
       ·exact HP.out t h
       ·rw [← HZ.out]; exact ⟨h1, h2⟩
      case measure => simp [intOf]; omega
     ·have E2 : Hid (jaN l many least = .error 4) := by show jaN l many least = _; rw [E.out, jfo hkl HZ.out (fun h => h2 h.2)]; rfl
      go_wp2_with (go_at_call 118; refine (ja2 _).mono ?_; rintro e w' ⟨rfl, rfl⟩)
      exact ⟨rfl, jam E2.out (jaf _)⟩
    ·have E2 : Hid (jaN l many least = .error 4) := by show jaN l many least = _; rw [E.out, jfo hkl HZ.out (fun h => h1 h.1)]; rfl
     go_wp2_with (go_at_call 118; refine (ja2 _).mono ?_; rintro e w' ⟨rfl, rfl⟩)
     exact ⟨rfl, jam E2.out (jaf _)⟩
   ·have E2 : Hid (jaN l many least = .ok l) := by show jaN l many least = _; rw [E.out, jhD (fun t ht => HP.out t (by omega))]; rfl
    go_wp2
    go_ret
    exact jbc E2.out (jaf _) ⟨rfl, rfl, rfl⟩
 ·have b0 : ((l.length : Int) == (many : Int)) = false := by simpa using (fun h => hl (by omega) : ¬ (l.length : Int) = many)
  have E : Hid (jaN l many least = .error 4) := by show jaN l many least = _; unfold jaN jaz; simp [hl]; rfl
  rw [E.out]
  clear hl E
  go_enter Tryz.func176, Tryz.ntmps176
  go_wp2_with (go_at_call 118; refine (ja2 _).mono ?_; rintro e w' ⟨rfl, rfl⟩)
  exact ⟨rfl, jaf _, rfl⟩
theorem jfp (n : Nod) (A : At) (w : World) (hn : NodeOk w n A) : Calls Tryz.prog 177 #[jaL n] w (jbj w (jcO A) fun zs v w' => ∃ u : Sl, v = u.v ∧ IsInts w' u.v zs ∧ zs.length = 4 ∧ ∀ z ∈ zs, 0 ≤ z ∧ z ≤ 100) := by
 have NK := jae hn
 obtain ⟨op, nam, ⟨ia, il, ic⟩, out, ⟨ao, al, cap⟩⟩ := n
 unfold jaL
 simp only
 obtain ⟨w0, hw0⟩ : ∃ w0, w0 = w.alloc (.cells #[.string op, .string nam, .slice ia il ic, .string out, .slice ao al cap] 35) := ⟨_, rfl⟩
 have g0 : Hid (w.grownBy w0 none) := by show w.grownBy w0 none; rw [hw0]; exact jab _ _
 have hb0 := heap_alloc_new w (.cells #[.string op, .string nam, .slice ia il ic, .string out, .slice ao al cap] 35)
 rw [← hw0] at hb0
 have BX : Hid (∀ wx, w0.grownBy wx none → wx.heap[w.heap.size]? = some (.cells #[.string op, .string nam, .slice ia il ic, .string out, .slice ao al cap] 35 (0, 0))) := fun wx hg => jad hb0 hg
 clear hb0 hn
 have C := jae (jiv ⟨op, nam, ⟨ia, il, ic⟩, out, ⟨ao, al, cap⟩⟩ A w0 (NK.out.more g0.out))
 unfold jaL at C
 simp only at C
 go_enter Tryz.func177, Tryz.ntmps177
 go_wp2_with fail
 rw [← hw0]
 clear hw0
 refine C.out.mono ?_
 rintro e w1 ⟨u, rfl, hu, hg⟩
 have W := jae (jc2 u _ 4 0 w1 hu (by decide))
 have HU := jae hu
 have HG := jae (jaa g0.out hg)
 clear hu hg
 cases hr : jaN (A.ints ⟨#[112, 97, 100, 115]⟩ [0, 0, 0, 0]) 4 0 with
 | error c =>
  rw [hr] at W
  have E : Hid (jcO A = .error c) := hr
  clear hr
  go_wp2_with (go_at_call 176; refine W.out.mono ?_; rintro e w' ⟨hg, rfl⟩)
  exact ⟨rfl, jam E.out (jaa HG.out hg)⟩
 | ok zs =>
  rw [hr] at W
  have E : Hid (jcO A = .ok zs) := hr
  have B := jae (jcm hr)
  clear hr
  go_wp2_with (go_at_call 176; refine W.out.mono ?_; rintro e w' ⟨hg, v, rfl, rfl, rfl, rfl⟩)
  go_ret
  exact jbc E.out HG.out ⟨u, rfl, HU.out, B.out.2.1, fun z hz => B.out.2.2 z hz⟩
end Go.Proofs.YtkefdkboejimeaaGreatDoor
namespace Go.Proofs.YtkefdkboejimeaaGreatDoor
open Go.RowKit
theorem jhE {w0 : World} {ops : Array Oper} {rest : List Oper} {o : Oper} {a : Act} {Q : Exit → Act → World → Prop} (hgd : o.guard = none) (s x : Operand)
    (ho : o.op = .call { callee := .builtin .append, args := #[s, x], argTypes := #[22, 22] })
    (base : Nat) (v : Value) (xs : List Int) (hs : a.eval s = v) (hown : Owns w0 base v xs) (z : Int) (hx : a.eval x = .slice (some ⟨w0.heap.size, 0, none⟩) 1 1)
    (hz : -9223372036854775808 ≤ z ∧ z ≤ 9223372036854775807) (hbytes : (xs.length + 1) * 8 ≤ 140737488351232) (hbase : base ≤ w0.heap.size)
    (h : ∀ v' w', Owns w' base v' (xs ++ [z]) → (∀ r : World, r.heap.size ≤ base → r.grownBy w0 none → r.grownBy w' none) → wpList Tryz.prog ops Q rest (a.put o.dst v') w') : wpList Tryz.prog ops Q (o :: rest) a (w0.alloc (.cells #[.int .i64 z] 3)) := by
     have hi : IsInts (w0.alloc (.cells #[.int .i64 z] 3)) (.slice (some ⟨w0.heap.size, 0, none⟩) 1 1) [z] := jbO w0 [z] 3 (by simp) (fun y hy => by simp at hy; subst hy; exact hz)
     refine jdM hgd s x ho base v xs hs (hown.new (jab _ _)) _ [z] hx hi (by simpa using hbytes) (by simp; omega) ?_
     intro v' w' ho' hg
     refine h v' w' ho' (fun r hr hrg => jah (jaa hrg (jab _ _)) hg (fun b e => ?_))
     have := (hown.lt b e).1
     omega
structure RevK (zs : List Int) (k : Nat) (L : List Int) : Prop where
 len : L.length = zs.length
 at' : ∀ t, t < zs.length → L.getD t 0 = if t < k ∨ zs.length ≤ t + k then zs.getD (zs.length - 1 - t) 0 else zs.getD t 0
theorem RevK.start (zs : List Int) : RevK zs 0 zs := ⟨rfl, fun t ht => by rw [if_neg (by omega)]⟩
theorem RevK.done {zs L : List Int} {k : Nat} (h : RevK zs k L) (hk : zs.length ≤ 2 * k + 1) : L = zs.reverse := by
 refine List.ext_getElem (by rw [h.len, List.length_reverse]) fun t h1 h2 => ?_
 have ht : t < zs.length := by rw [← h.len]; exact h1
 have := h.at' t ht
 rw [List.getElem_reverse]
 have e1 : L.getD t 0 = L[t] := by simp [List.getD, h1]
 rw [← e1, this]
 split
 ·simp [List.getD, show zs.length - 1 - t < zs.length by omega]
 ·have e2 : zs.length - 1 - t = t := by omega
  simp [List.getD, e2, ht]
theorem RevK.step {zs L : List Int} {k : Nat} (h : RevK zs k L) (hk : 2 * k + 1 < zs.length) : RevK zs (k + 1) ((L.set k (L.getD (zs.length - 1 - k) 0)).set (zs.length - 1 - k) (L.getD k 0)) := by
 refine ⟨by rw [List.length_set, List.length_set, h.len], fun t ht => ?_⟩
 have hL := h.len
 have h1 := h.at' t ht
 have h2 := h.at' k (by omega)
 have h3 := h.at' (zs.length - 1 - k) (by omega)
 rw [if_neg (by omega)] at h2 h3
 by_cases e1 : t = zs.length - 1 - k
 ·subst e1
  rw [if_pos (by omega)]
  have : ((L.set k (L.getD (zs.length - 1 - k) 0)).set (zs.length - 1 - k) (L.getD k 0)).getD (zs.length - 1 - k) 0 = L.getD k 0 := by
   rw [List.getD, List.getElem?_set_self (by rw [List.length_set]; omega)]; rfl
  rw [this, h2]
  congr 1
  omega
 ·by_cases e2 : t = k
  ·subst e2
   rw [if_pos (by omega)]
   have : ((L.set t (L.getD (zs.length - 1 - t) 0)).set (zs.length - 1 - t) (L.getD t 0)).getD t 0 = L.getD (zs.length - 1 - t) 0 := by
    rw [List.getD, List.getElem?_set_ne (by omega), List.getElem?_set_self (by omega)]; rfl
   rw [this, h3]
  ·have : ((L.set k (L.getD (zs.length - 1 - k) 0)).set (zs.length - 1 - k) (L.getD k 0)).getD t 0 = L.getD t 0 := by
     rw [List.getD, List.getElem?_set_ne (by omega), List.getElem?_set_ne (by omega)]; rfl
   rw [this, h1]
   by_cases e3 : t < k ∨ zs.length ≤ t + k
   ·rw [if_pos e3, if_pos (by omega)]
   ·rw [if_neg e3, if_neg (by omega)]
theorem jhF (zs : List Int) (base B : Nat) (w : World) (h : jfa 2 w base B zs) (hl : zs.length ≤ 1000000) : Calls Tryz.prog 76 #[.slice (some ⟨B, 0, none⟩) zs.length zs.length] w fun e w' => e = .returned (.tuple #[]) ∧ jfa 2 w' base B zs.reverse ∧ w.grownBy w' (some B) := by
 have H0 := jae h
 clear h
 go_enter Tryz.func76, Tryz.ntmps76
 go_wp2
 go_loopw [2, 3] (fun i j wr => ∃ (k : Nat) (L : List Int), k ≤ zs.length ∧ i = .int .i64 k ∧ j = .int .i64 ((zs.length : Int) - 1 - k) ∧ RevK zs k L ∧ jfa 2 wr base B L ∧ w.grownBy wr (some B)) (fun i _ _ => zs.length - (intOf i).toNat)
 case atStart => exact ⟨0, zs, Nat.zero_le _, rfl, by simp, RevK.start zs, H0.out, World.grownBy.refl _ _⟩
 case round =>
  obtain ⟨k, L, hk, rfl, rfl, hr, ho, hg⟩ := hrel
  have HR := jae hr
  have HO := jae ho
  have HG := jae hg
  clear hr ho hg
  by_cases hkl : (k : Int) < (zs.length : Int) - 1 - k
  ·obtain ⟨j, hj⟩ : ∃ j : Nat, j = zs.length - 1 - k := ⟨_, rfl⟩
   have ej : (zs.length : Int) - 1 - k = (j : Int) := by omega
   rw [ej] at hkl ⊢
   have hjl : j < zs.length := by omega
   have hne : k ≠ j := by omega
   have st := HR.out.step (by omega)
   rw [← hj] at st
   have hL := HR.out.len
   obtain ⟨c1, f1⟩ := HO.out.at (k := k) (by omega)
   obtain ⟨c2, f2⟩ := HO.out.at (k := j) (by omega)
   obtain ⟨x, hx⟩ : ∃ x, x = L.getD k 0 := ⟨_, rfl⟩
   obtain ⟨y, hy⟩ : ∃ y, y = L.getD j 0 := ⟨_, rfl⟩
   rw [← hx] at c1 st
   rw [← hy] at c2 st
   obtain ⟨s1, t1⟩ := HO.out.set k y
   obtain ⟨s2, t2⟩ := s1.set j x
   have ST := jae st
   have S2 := jae s2
   have T2 := jae (jbw HG.out (jbw t1 t2))
   have hej : Hid (j = zs.length - 1 - k) := hj
   clear hx hy st s1 s2 t1 t2 hj hL
   have hne2 := hne.symm
   go_wp2
   go_region
   go_wp2
   go_roundw
   case rel => exact ⟨k + 1, _, by omega, by go_num, by have := hej.out; congr 1; omega, ST.out, S2.out.new (jag (jaf _)), ⟨T2.out.os, T2.out.tape, T2.out.output, T2.out.size, T2.out.block⟩⟩
   case measure => simp [intOf]; omega
  ·have E : L = zs.reverse := HR.out.done (by omega)
   rw [E] at HO
   go_wp2
   go_end0
   exact ⟨rfl, HO.out, HG.out⟩
theorem jas {a b c : World} {B : Nat} (h : a.grownBy b none) (k : b.grownBy c (some B)) (hb : a.heap.size ≤ B) : a.grownBy c none := jah h k (fun r e => by cases e; exact hb)
theorem jiw (n : Nod) (A : At) (jaS : Nat) (w : World) (hn : NodeOk w n A) (hr : jaS ≤ 1000000) : Calls Tryz.prog 35 #[jaL n, .int .i64 jaS] w fun e w' => ∃ u : Sl, e = .returned u.v ∧ IsInts w' u.v (jeL A jaS) ∧ w.grownBy w' none := by
 have NK := jae hn
 obtain ⟨op, nam, ⟨ia, il, ic⟩, out, ⟨ao, al, cap⟩⟩ := n
 unfold jaL
 simp only
 obtain ⟨w0, hw0⟩ : ∃ w0, w0 = w.alloc (.cells #[.string op, .string nam, .slice ia il ic, .string out, .slice ao al cap] 35) := ⟨_, rfl⟩
 have g0 : Hid (w.grownBy w0 none) := by show w.grownBy w0 none; rw [hw0]; exact jab _ _
 have hb0 := heap_alloc_new w (.cells #[.string op, .string nam, .slice ia il ic, .string out, .slice ao al cap] 35)
 rw [← hw0] at hb0
 have BX : Hid (∀ wx, w0.grownBy wx none → wx.heap[w.heap.size]? = some (.cells #[.string op, .string nam, .slice ia il ic, .string out, .slice ao al cap] 35 (0, 0))) := fun wx hg => jad hb0 hg
 clear hb0 hn
 have U := jae (jfW jaS w0 (by omega))
 have RV := jae (fun (wx : World) (h : jfa 2 wx w0.heap.size w0.heap.size (jbh jaS)) => jhF (jbh jaS) w0.heap.size w0.heap.size wx h (by rw [jaO]; omega))
 rw [jaO] at RV
 have C := jae (fun (wx : World) (B : Nat) (hg : w.grownBy wx none) (hB : IsInts wx (.slice (some ⟨B, 0, none⟩) jaS jaS) (jbh jaS).reverse) => jca ⟨op, nam, ⟨ia, il, ic⟩, out, ⟨ao, al, cap⟩⟩ A ⟨#[112, 101, 114, 109]⟩ ⟨some ⟨B, 0, none⟩, jaS, jaS⟩ _ wx (NK.out.more hg) hB)
 unfold jaL at C
 simp only at C
 have HS : Hid (w0.heap.size = w.heap.size + 1) := by show _ = _; rw [hw0]; simp
 go_enter Tryz.func35, Tryz.ntmps35
 go_wp2_with fail
 rw [← hw0]
 clear hw0
 refine U.out.mono ?_
 rintro e w1 ⟨rfl, ho1, hg1⟩
 have HG1 := jae hg1
 have R1 := jae (RV.out w1 ho1)
 clear hg1 ho1 U RV
 go_wp2_with fail
 refine R1.out.mono ?_
 rintro e w2 ⟨rfl, ho2, hg2⟩
 have HG2 := jae (jas HG1.out hg2 (Nat.le_refl _))
 have HI : Hid (IsInts w2 (.slice (some ⟨w0.heap.size, 0, none⟩) jaS jaS) (jbh jaS).reverse) := by
  have h := ho2.ints (by rw [List.length_reverse, jaO]; omega) (fun z hz => by have := jeN (List.mem_reverse.1 hz); omega)
  rw [List.length_reverse, jaO] at h
  exact h
 obtain ⟨n0, n1, n2, n3, n4⟩ := jai (n := ⟨op, nam, ⟨ia, il, ic⟩, out, ⟨ao, al, cap⟩⟩) (BX.out w2 (HG2.out))
 clear ho2 hg2 R1 HG1
 go_wp2_with fail
 refine (C.out w2 _ (jaa g0.out HG2.out) HI.out).mono ?_
 rintro e w3 ⟨u, rfl, hu, hg3⟩
 go_wp2
 go_ret
 exact ⟨u, rfl, hu, jaa (jaa g0.out HG2.out) hg3⟩
theorem jeO (n : Nod) (A : At) (jaS : Nat) (w : World) (hn : NodeOk w n A) (hr : jaS ≤ 1000000) : Calls Tryz.prog 141 #[jaL n, .int .i64 jaS] w fun e w' => ∃ u : Sl, e = .returned u.v ∧ IsInts w' u.v (jdg A jaS) ∧ w.grownBy w' none := by
 have HOP := jae hn.op
 have RG := jae (fun nm z hz => hn.int nm z hz)
 have NK := jae hn
 obtain ⟨op, nam, ⟨ia, il, ic⟩, out, ⟨ao, al, cap⟩⟩ := n
 unfold jaL
 simp only
 obtain ⟨w0, hw0⟩ : ∃ w0, w0 = w.alloc (.cells #[.string op, .string nam, .slice ia il ic, .string out, .slice ao al cap] 35) := ⟨_, rfl⟩
 have g0 : Hid (w.grownBy w0 none) := by show w.grownBy w0 none; rw [hw0]; exact jab _ _
 have hb0 := heap_alloc_new w (.cells #[.string op, .string nam, .slice ia il ic, .string out, .slice ao al cap] 35)
 rw [← hw0] at hb0
 have BX : Hid (∀ wx, w0.grownBy wx none → wx.heap[w.heap.size]? = some (.cells #[.string op, .string nam, .slice ia il ic, .string out, .slice ao al cap] 35 (0, 0))) := fun wx hg => jad hb0 hg
 clear hb0 hn
 simp only at HOP
 have U := jae (fun (wx : World) => jfW jaS wx (by omega))
 have C := jae (fun (wx : World) (B : Nat) (hg : w.grownBy wx none) (hB : IsInts wx (.slice (some ⟨B, 0, none⟩) jaS jaS) (jbh jaS)) => jca ⟨op, nam, ⟨ia, il, ic⟩, out, ⟨ao, al, cap⟩⟩ A ⟨#[97, 120, 101, 115]⟩ ⟨some ⟨B, 0, none⟩, jaS, jaS⟩ _ wx (NK.out.more hg) hB)
 have I0 := jae (jdt ⟨op, nam, ⟨ia, il, ic⟩, out, ⟨ao, al, cap⟩⟩ A ⟨#[97, 120, 105, 115]⟩ 0 w0 (NK.out.more g0.out))
 have I1 := jae (jdt ⟨op, nam, ⟨ia, il, ic⟩, out, ⟨ao, al, cap⟩⟩ A ⟨#[97, 120, 105, 115]⟩ (-1) w0 (NK.out.more g0.out))
 unfold jaL at C I0 I1
 simp only at C I0 I1
 have HS : Hid (w0.heap.size = w.heap.size + 1) := by show _ = _; rw [hw0]; simp
 cases h1 : (op.toList == [65, 114, 103, 77, 97, 120]) with
 | true =>
  have E : Hid (jdg A jaS = [A.int ⟨#[97, 120, 105, 115]⟩ 0]) := by show jdg A jaS = _; unfold jdg; rw [HOP.out, if_pos (by simpa using h1)]
  have hb := RG.out ⟨#[97, 120, 105, 115]⟩ 0 (by omega)
  obtain ⟨z, hz⟩ : ∃ z, z = A.int ⟨#[97, 120, 105, 115]⟩ 0 := ⟨_, rfl⟩
  rw [← hz] at I0 E hb
  clear hz
  go_enter Tryz.func141, Tryz.ntmps141
  go_wp2_with fail
  rw [← hw0]
  clear hw0
  refine I0.out.mono ?_
  rintro e w1 ⟨rfl, hg1⟩
  have HG := jae (jaa g0.out hg1)
  clear hg1
  go_wp2
  go_ret
  exact ⟨⟨some ⟨w1.heap.size, 0, none⟩, 1, 1⟩, rfl, by rw [E.out]; exact jbO w1 [z] 2 (by simp) (fun y hy => by simp at hy; subst hy; exact hb), jaa HG.out (jab _ _)⟩
 | false =>
  cases h2 : (op.toList == [83, 111, 102, 116, 109, 97, 120]) with
  | true =>
   have E : Hid (jdg A jaS = [A.int ⟨#[97, 120, 105, 115]⟩ (-1)]) := by show jdg A jaS = _; unfold jdg; rw [HOP.out, if_neg (by simpa using h1), if_pos (by simpa using h2)]
   have hb := RG.out ⟨#[97, 120, 105, 115]⟩ (-1) (by omega)
   obtain ⟨z, hz⟩ : ∃ z, z = A.int ⟨#[97, 120, 105, 115]⟩ (-1) := ⟨_, rfl⟩
   rw [← hz] at I1 E hb
   clear hz
   go_enter Tryz.func141, Tryz.ntmps141
   go_wp2_with fail
   rw [← hw0]
   clear hw0
   refine I1.out.mono ?_
   rintro e w1 ⟨rfl, hg1⟩
   have HG := jae (jaa g0.out hg1)
   clear hg1
   go_wp2
   go_ret
   exact ⟨⟨some ⟨w1.heap.size, 0, none⟩, 1, 1⟩, rfl, by rw [E.out]; exact jbO w1 [z] 2 (by simp) (fun y hy => by simp at hy; subst hy; exact hb), jaa HG.out (jab _ _)⟩
  | false =>
   have E : Hid (jdg A jaS = A.ints ⟨#[97, 120, 101, 115]⟩ (jbh jaS)) := by show jdg A jaS = _; unfold jdg; rw [HOP.out, if_neg (by simpa using h1), if_neg (by simpa using h2)]
   obtain ⟨n0, n1, n2, n3, n4⟩ := jai (n := ⟨op, nam, ⟨ia, il, ic⟩, out, ⟨ao, al, cap⟩⟩) (BX.out w0 (jaf _))
   go_enter Tryz.func141, Tryz.ntmps141
   go_wp2_with fail
   rw [← hw0]
   clear hw0
   go_region_held3 (fun w' => w'.cell? ⟨w.heap.size, 0, none⟩ = some (.string op) ∧ w'.cell? ⟨w.heap.size, 1, none⟩ = some (.string nam) ∧ w'.cell? ⟨w.heap.size, 2, none⟩ = some (.slice ia il ic) ∧ w'.cell? ⟨w.heap.size, 3, none⟩ = some (.string out) ∧ w'.cell? ⟨w.heap.size, 4, none⟩ = some (.slice ao al cap)) (go_keep) (first | (go_at_call 75; refine (U.out _).mono ?_; rintro e w1 ⟨rfl, ho1, hg1⟩; have g1 : w0.grownBy w1 none := jaa (jag (jaf _)) hg1; obtain ⟨n0, n1, n2, n3, n4⟩ := jai (n := ⟨op, nam, ⟨ia, il, ic⟩, out, ⟨ao, al, cap⟩⟩) (BX.out w1 (g1))) | (go_at_call 61; refine (C.out _ _ (jaa g0.out g1) (by have h := ho1.ints (by rw [jaO]; omega) (fun z hz => by have := jeN hz; omega); rw [jaO] at h; exact h)).mono ?_; rintro e w2 ⟨u, rfl, hu, hg2⟩; have g2 : w0.grownBy w2 none := jaa g1 hg2; obtain ⟨n0, n1, n2, n3, n4⟩ := jai (n := ⟨op, nam, ⟨ia, il, ic⟩, out, ⟨ao, al, cap⟩⟩) (BX.out w2 (g2))) | fail)
   go_wp2
   go_ret
   exact ⟨u, rfl, by rw [E.out]; exact hu, jaa g0.out g2⟩
end Go.Proofs.YtkefdkboejimeaaGreatDoor
namespace Go.Proofs.YtkefdkboejimeaaGreatDoor
open Go.RowKit
def jc8 (zs : List Int) (v : Value) (w' : World) : Prop := ∃ s : Sl, v = s.v ∧ IsInts w' s.v zs
theorem jjk (u : Sl) (l : List Int) (jaS : Nat) (w : World) (hv : IsInts w u.v l) (hr : jaS ≤ 100000000000000) : Calls Tryz.prog 140 #[.slice u.a u.n u.c, .int .i64 jaS] w (jbj w (jgB l jaS) fun is v w' => ∃ B, v = .slice (some ⟨B, 0, none⟩) jaS jaS ∧ jc7 w' w.heap.size B is ∧ is.length = jaS) := by
 have F := jae (jmP u.v l jaS w hv hr)
 unfold jgB
 cases hx : jeK jaS l (List.replicate jaS false) with
 | none =>
  rw [hx] at F
  clear hx hv
  go_enter Tryz.func140, Tryz.ntmps140
  go_wp2_with (first | (go_at_call 171; refine F.out.mono ?_; rintro e w' ⟨hg, rfl⟩) | (go_at_call 118; refine (ja2 _).mono ?_; rintro e w' ⟨rfl, rfl⟩))
  exact ⟨rfl, hg, rfl⟩
 | some is =>
  rw [hx] at F
  clear hx hv
  go_enter Tryz.func140, Tryz.ntmps140
  go_wp2_with (first | (go_at_call 171; refine F.out.mono ?_; rintro e w' ⟨hg, B, rfl, ho, hl⟩) | (go_at_call 118; refine (jaT _).mono ?_; rintro e w' ⟨rfl, rfl⟩))
  go_ret
  exact ⟨hg, _, rfl, B, rfl, ho, hl⟩
end Go.Proofs.YtkefdkboejimeaaGreatDoor
namespace Go.Proofs.YtkefdkboejimeaaGreatDoor
open Go.RowKit
theorem jgD {jaS : Nat} : ∀ {l : List Int} {is r : List Bool}, jeK jaS l is = some r → ∀ a ∈ l, ∃ i, jcj a jaS = some i
 | [], _, _, _, a, ha => by simp at ha
 | b :: l, is, r, h, a, ha => by
  unfold jeK at h
  cases hb : jcj b jaS with
  | none => rw [hb] at h; cases h
  | some i =>
   rw [hb] at h
   simp only at h
   split at h
   ·cases h
   ·rcases List.mem_cons.1 ha with rfl | ha
    ·exact ⟨i, hb⟩
    ·exact jgD h a ha
theorem jkA {l : List Int} {jaS : Nat} {is : List Bool} (h : jgB l jaS = .ok is) : ∀ a ∈ l, ∃ i, jcj a jaS = some i := by
 unfold jgB at h
 cases hx : jeK jaS l (List.replicate jaS false) with
 | none => rw [hx] at h; cases h
 | some r => exact jgD hx
theorem jkB {a : Int} {jaS i : Nat} (h : jcj a jaS = some i) (ha : 0 ≤ a) : a.toNat < jaS := by
 have e : jbg a jaS = a := by unfold jbg; rw [if_neg (by omega)]
 unfold jcj at h
 rw [e] at h
 split at h
 ·cases h
 ·split at h
  ·cases h
  ·omega
def after (acc : List Int) (r : R (List Int)) : R (List Int) := match r with
 | .ok l => .ok (acc ++ l)
 | .error c => .error c
theorem jjl {x l : List Int} {k : Nat} (hk : k < l.length) (acc : List Int) : after acc (jdU x (l.drop k)) = if 0 ≤ l.getD k 0 then after (acc ++ [x.getD (l.getD k 0).toNat 0]) (jdU x (l.drop (k + 1))) else .error 4 := by
 rw [jbT l k hk]
 simp only [jdU]
 split
 ·cases jdU x (l.drop (k + 1)) <;> simp [Except.map, after]
 ·rfl
theorem jfi (n : Nod) (A : At) (u : Sl) (x : List Int) (w : World) (hn : NodeOk w n A) (hx : IsInts w u.v x) (hf : Fine x) : Calls Tryz.prog 145 #[jaL n, .slice u.a u.n u.c] w (jbj w (jaQ A x) jc8) := by
 obtain ⟨ux, uc, eu, c1, c2, c3⟩ := hx.sl
 obtain ⟨ua, un, uu⟩ := u
 simp only [Sl.v, Value.slice.injEq] at eu
 obtain ⟨rfl, rfl, rfl⟩ := eu
 have HX := jae hx
 have FEW := hf.few
 clear hx hf
 have NK := jae hn
 obtain ⟨op, nam, ⟨ia, il, ic⟩, out, ⟨ao, al, cap⟩⟩ := n
 unfold jaL
 simp only
 obtain ⟨w0, hw0⟩ : ∃ w0, w0 = w.alloc (.cells #[.string op, .string nam, .slice ia il ic, .string out, .slice ao al cap] 35) := ⟨_, rfl⟩
 have g0 : Hid (w.grownBy w0 none) := by show w.grownBy w0 none; rw [hw0]; exact jab _ _
 have hb0 := heap_alloc_new w (.cells #[.string op, .string nam, .slice ia il ic, .string out, .slice ao al cap] 35)
 rw [← hw0] at hb0
 have BX : Hid (∀ wx, w0.grownBy wx none → wx.heap[w.heap.size]? = some (.cells #[.string op, .string nam, .slice ia il ic, .string out, .slice ao al cap] 35 (0, 0))) := fun wx hg => jad hb0 hg
 clear hb0 hn
 have PM := jae (jiw ⟨op, nam, ⟨ia, il, ic⟩, out, ⟨ao, al, cap⟩⟩ A x.length w0 (NK.out.more g0.out) (by omega))
 unfold jaL at PM
 simp only at PM
 obtain ⟨l, hl⟩ : ∃ l, l = jeL A x.length := ⟨_, rfl⟩
 rw [← hl] at PM
 have E0 : Hid (jaQ A x = (jaz (decide (l.length = x.length))).bind (fun _ => (jgB l x.length).bind (fun _ => jdU x l))) := by show _ = _; rw [hl]; rfl
 clear hl
 go_enter Tryz.func145, Tryz.ntmps145
 go_wp2_with fail
 rw [← hw0]
 clear hw0
 refine PM.out.mono ?_
 rintro e w1 ⟨s, rfl, hs, hg1⟩
 have G1 := jae (jaa g0.out hg1)
 obtain ⟨sa, sc, es, d1, d2, d3⟩ := hs.sl
 obtain ⟨s1, s2, s3⟩ := s
 simp only [Sl.v, Value.slice.injEq] at es
 obtain ⟨rfl, rfl, rfl⟩ := es
 simp only [Sl.v] at hs ⊢
 have HS := jae hs
 clear hs hg1 PM
 by_cases hlen : l.length = x.length
 ·have b0 : ((l.length : Int) == (x.length : Int)) = true := by simp [hlen]
  have E1 : Hid (jaQ A x = (jgB l x.length).bind (fun _ => jdU x l)) := by show _ = _; rw [E0.out]; simp [jaz, hlen]; rfl
  have AX := jae (jjk ⟨s1, l.length, s3⟩ l x.length w1 HS.out (by omega))
  cases hk : jgB l x.length with
  | error c =>
   rw [hk] at AX
   have E2 : Hid (jaQ A x = .error c) := by show _ = _; rw [E1.out, hk]; rfl
   clear hk hlen
   go_wp2_with (first | (go_at_call 118; refine (jaT _).mono ?_; rintro e w' ⟨rfl, rfl⟩) | (go_at_call 140; refine AX.out.mono ?_; rintro e w' ⟨hg, rfl⟩))
   exact ⟨rfl, jam E2.out (jaa G1.out hg)⟩
  | ok gone =>
   rw [hk] at AX
   have ALL := jae (jkA hk)
   have E2 : Hid (jaQ A x = jdU x l) := by show _ = _; rw [E1.out, hk]; rfl
   have HLEN := jae hlen
   clear hk hlen
   go_wp2_with (first | (go_at_call 118; refine (jaT _).mono ?_; rintro e w' ⟨rfl, rfl⟩) | (go_at_call 140; refine AX.out.mono ?_; rintro e w3 ⟨hg3, v, rfl, B, rfl, ho, hl⟩))
   have G3 := jae (jaa G1.out hg3)
   have G13 := jae hg3
   clear hg3 ho hl b0
   go_loopw [6, 25] (fun s i wr => ∃ (k : Nat) (u : Sl) (acc : List Int), k ≤ l.length ∧ i = .int .i64 k ∧ s = .slice u.a u.n u.c ∧ Owns wr w3.heap.size u.v acc ∧ acc.length ≤ k ∧ after acc (jdU x (l.drop k)) = jdU x l ∧ w3.grownBy wr none) (fun _ i _ => l.length - (intOf i).toNat)
   case atStart => exact ⟨0, ⟨none, 0, 0⟩, [], Nat.zero_le _, rfl, rfl, jbY _ _, Nat.le_refl _, by rw [List.drop_zero]; cases jdU x l <;> rfl, jaf _⟩
   case round =>
    obtain ⟨k, ⟨qa, qn, qc⟩, acc, hk, rfl, rfl, ho, hal, hst, hg⟩ := hrel
    simp only
    have HO1 := jae ho
    have HG := jae hg
    have hsz := hg.size
    by_cases hkl : k < l.length
    ·obtain ⟨b, off, rfl, hc⟩ := HS.out.get hkl
     have hcell : wr.cell? ⟨b, off + k, none⟩ = some (.int .i64 (l.getD k 0)) := jac (hc k hkl) (jaa G13.out hg)
     have hmem : l.getD k 0 ∈ l := by simp [List.getD, hkl]
     obtain ⟨i, hi⟩ := ALL.out _ hmem
     rw [jjl hkl] at hst
     obtain ⟨p, hp0⟩ : ∃ p, p = l.getD k 0 := ⟨_, rfl⟩
     rw [← hp0] at hcell hst hi
     clear hc hp0 ho hmem
     by_cases hp : 0 ≤ p
     ·rw [if_pos hp] at hst
      have hlt := jkB hi hp
      obtain ⟨q, hq⟩ : ∃ q : Nat, q = p.toNat := ⟨_, rfl⟩
      have hpq : p = (q : Int) := by omega
      rw [← hq] at hst hlt
      clear hq
      subst hpq
      obtain ⟨b', off', e', hcx⟩ := HX.out.get (k := q) hlt
      cases e'
      have hcell2 : wr.cell? ⟨b', off' + q, none⟩ = some (.int .i64 (x.getD q 0)) := jac (hcx q hlt) (jaa G3.out hg)
      have hwf := HX.out.wf (x.getD q 0) (by simp [List.getD, hlt])
      have HST := jae hst
      obtain ⟨d, hd⟩ : ∃ d, d = x.getD q 0 := ⟨_, rfl⟩
      rw [← hd] at hcell2 hwf HST
      clear hst hd hi hcx hg
      go_wp2_with (first | (go_at_call 118; refine (jaT _).mono ?_; rintro e w' ⟨rfl, rfl⟩) | (at_builtin; refine jhE rfl (.tmp 32) (.tmp 37) rfl w3.heap.size _ _ rfl HO1.out d rfl hwf (by omega) (by omega) ?_; intro v' w4 hown hgrow))
      obtain ⟨⟨xa, xn, xc⟩, rfl⟩ := hown.sl
      have HO2 := jae hown
      have HG2 := jae (hgrow w3 (Nat.le_refl _) HG.out)
      clear hown hgrow
      go_roundw
      case rel => exact ⟨k + 1, ⟨xa, xn, xc⟩, _, by omega, by go_num, rfl, HO2.out, by simp; omega, HST.out, HG2.out⟩
      case measure => simp [intOf]; omega
     ·rw [if_neg hp] at hst
      have E3 : Hid (jaQ A x = .error 4) := by show _ = _; rw [E2.out, ← hst]
      clear hst hg hi
      go_wp2_with (go_at_call 118; refine (ja2 _).mono ?_; rintro e w' ⟨rfl, rfl⟩)
      exact ⟨rfl, jam E3.out (jaa G3.out HG.out)⟩
    ·have E3 : Hid (jaQ A x = .ok acc) := by
       show _ = _
       rw [E2.out, ← hst, List.drop_of_length_le (by omega)]
       simp [jdU, after]
     clear ho hg hst
     go_wp2
     go_ret
     exact jbc E3.out (jaa G3.out HG.out) ⟨⟨qa, qn, qc⟩, rfl, HO1.out.ints⟩
 ·have b0 : ((l.length : Int) == (x.length : Int)) = false := by simpa using (fun h => hlen (by omega) : ¬ (l.length : Int) = x.length)
  have E1 : Hid (jaQ A x = .error 4) := by show _ = _; rw [E0.out]; simp [jaz, hlen]; rfl
  clear hlen
  go_wp2_with (go_at_call 118; refine (ja2 _).mono ?_; rintro e w' ⟨rfl, rfl⟩)
  exact ⟨rfl, jam E1.out G1.out⟩
end Go.Proofs.YtkefdkboejimeaaGreatDoor
namespace Go.Proofs.YtkefdkboejimeaaGreatDoor
open Go.RowKit
theorem IsInts.tail {w : World} {b off n c : Nat} {zs : List Int} (h : IsInts w (.slice (some ⟨b, off, none⟩) n c) zs) (hp : 0 < zs.length) : IsInts w (.slice (if c = 1 then some ⟨b, off, none⟩ else some ⟨b, off + 1, none⟩) (n - 1) (c - 1)) zs.tail := by
 obtain ⟨ao, cap, e, h1, h2, h3, h4, h5, h6⟩ := h
 cases e
 have hl : zs.tail.length = zs.length - 1 := by simp
 have hm : ∀ z ∈ zs.tail, -9223372036854775808 ≤ z ∧ z ≤ 9223372036854775807 := fun z hz => h6 z (List.mem_of_mem_tail hz)
 by_cases hc : c = 1
 ·rw [if_pos hc]
  have : zs.length = 1 := by omega
  exact ⟨_, _, by rw [hl], by rw [hl]; omega, by omega, by rw [hl]; omega, (fun h => by cases h), fun h => (by rw [hl] at h; omega), hm⟩
 ·rw [if_neg hc]
  refine ⟨_, _, by rw [hl], by rw [hl]; omega, by omega, by rw [hl]; omega, (fun h => by cases h), fun _ => ⟨b, off + 1, rfl, fun k hk => ?_⟩, hm⟩
  rw [hl] at hk
  obtain ⟨b', off', e', hcx⟩ := h5 hp
  cases e'
  rw [Nat.add_assoc, Nat.add_comm 1 k, hcx (k + 1) (by omega), ← List.drop_one]
  simp [List.getD]
theorem Fine.le_each {x : List Int} (h : Fine x) {z : Int} (hz : z ∈ x) : z ≤ 65536 := by
 obtain ⟨k, hk, rfl⟩ := List.mem_iff_getElem.1 hz
 have h1 := jcJ h.pos k
 have h2 := jdb x k hk
 have h3 := Go.Proofs.YtkefdkboejimeaaGreatDoor.prod_pos _ (jcs h.pos (k + 1))
 have h4 : x.getD k 0 = x[k] := by simp [List.getD, hk]
 rw [h4] at h2
 have h5 := h.pos _ hz
 have h6 := jbS h3 (show 0 ≤ x[k] by omega)
 have := h.le
 omega
theorem jmQ (w : World) (a : Option Addr) (l c : Nat) : (binOp .eql 22 (.slice a l c) (.slice none 0 0)).run Tryz.prog w = .ok (.bool a.isNone) w := by
 cases a <;> kernel_rfl
theorem jhG (w : World) : Owns (w.alloc (.cells #[] 3)) w.heap.size (.slice (some ⟨w.heap.size, 0, none⟩) 0 0) [] :=
 ⟨⟨rfl, .inr ⟨w.heap.size, 0, #[], rfl, Nat.le_refl _, heap_alloc_new w _, Nat.le_refl _, by simp [maxLen], rfl, rfl⟩⟩, by simp, fun z hz => by simp at hz⟩
theorem jjm (u : Sl) (zs : List Int) (w : World) (h : IsInts w u.v zs) :
    Calls Tryz.prog 111 #[.slice u.a u.n u.c] w fun e w' => ∃ u : Sl, e = .returned (.slice u.a u.n u.c) ∧ Owns w' w.heap.size u.v zs ∧ w.grownBy w' none := by
     have H := jae h
     obtain ⟨ua, un, uc⟩ := u
     obtain ⟨ux, cc, eu, c1, c2, c3⟩ := h.sl
     simp only [Sl.v, Value.slice.injEq] at eu
     obtain ⟨rfl, rfl, rfl⟩ := eu
     simp only
     have q := jmQ w ua zs.length uc
     cases ua with
     | none =>
      obtain ⟨ao, cap, e, h1, h2, h3, h4, h5, h6⟩ := h
      cases e
      obtain ⟨rfl, rfl⟩ := h4 rfl
      clear h4 h5 h6
      simp only [List.length_nil] at q ⊢
      go_enter Tryz.func111, Tryz.ntmps111
      go_wp2
      go_ret
      exact ⟨⟨none, 0, 0⟩, rfl, jbY _ _, jaf _⟩
     | some ad =>
      clear h
      go_enter Tryz.func111, Tryz.ntmps111
      have OE := jae (jhG w)
      have HM : Hid (∀ o, IsInts (w.alloc o) (.slice (some ad) zs.length uc) zs) := fun o => H.out.more (jab _ _)
      clear H
      go_wp2_with (at_builtin; refine jdM rfl (.tmp 5) (.tmp 6) rfl w.heap.size (.slice (some ⟨w.heap.size, 0, none⟩) 0 0) [] rfl OE.out (.slice (some ad) zs.length uc) zs rfl (HM.out _) ?_ ?_ ?_; (simpa using c3); simp; intro v' w1 hown hgrow)
      go_ret
      obtain ⟨s, rfl⟩ := hown.sl
      exact ⟨s, rfl, by simpa using hown, jah (jab w (.cells #[] 3)) hgrow (fun r e => by cases e; exact Nat.le_refl _)⟩
theorem Owns.cells {w : World} {base g cap : Nat} {zs : List Int} (h : Owns w base (.slice (some ⟨g, 0, none⟩) zs.length cap) zs) {k : Nat} (hk : k < zs.length) : w.cell? ⟨g, k, none⟩ = some (.int .i64 (zs.getD k 0)) ∧ w.frozen? ⟨g, k, none⟩ = false := by
 refine ⟨?_, World.ownsRow.frozenAt h.1 k⟩
 obtain ⟨b, off, e, hc⟩ := h.ints.get hk
 cases e
 have := hc k hk
 rwa [Nat.zero_add] at this
theorem Owns.put {w : World} {base g cap : Nat} {zs : List Int} (h : Owns w base (.slice (some ⟨g, 0, none⟩) zs.length cap) zs) (k : Nat) (z : Int) (hz : -9223372036854775808 ≤ z ∧ z ≤ 9223372036854775807) : Owns (w.setCell ⟨g, k, none⟩ (.int .i64 z)) base (.slice (some ⟨g, 0, none⟩) zs.length cap) (zs.set k z) ∧ w.grownBy (w.setCell ⟨g, k, none⟩ (.int .i64 z)) (some g) := by
 have s := World.ownsRow.stored h.1 k (.int .i64 z)
 rw [← List.map_set] at s
 refine ⟨⟨?_, by rw [List.length_set]; exact h.2.1, fun y hy => ?_⟩, s.2⟩
 ·rw [List.length_set]
  exact s.1
 ·rcases List.mem_or_eq_of_mem_set hy with h1 | rfl
  ·exact h.2.2 y h1
  ·exact hz
end Go.Proofs.YtkefdkboejimeaaGreatDoor
namespace Go.Proofs.YtkefdkboejimeaaGreatDoor
open Go.RowKit
theorem Fine.take {zs : List Int} (h : Fine zs) (k : Nat) : Fine (zs.take k) :=
 ⟨jfB h.pos k, by have := h.few; simp; omega, Int.le_trans (jgf h.pos k) h.le⟩
theorem IsInts.front {w : World} {a : Option Addr} {n c : Nat} {zs : List Int} (h : IsInts w (.slice a n c) zs) {k : Nat} (hk : k ≤ zs.length) : IsInts w (.slice a k c) (zs.take k) := by
 obtain ⟨ao, cap, e, h1, h2, h3, h4, h5, h6⟩ := h
 cases e
 have hl : (zs.take k).length = k := by simp; omega
 refine ⟨a, c, by rw [hl], by rw [hl]; omega, h2, by rw [hl]; omega, fun h => ?_, fun hp => ?_, fun z hz => h6 z (List.mem_of_mem_take hz)⟩
 ·obtain ⟨rfl, rfl⟩ := h4 h
  exact ⟨by simp, rfl⟩
 ·rw [hl] at hp
  obtain ⟨b, off, rfl, hc⟩ := h5 (by omega)
  refine ⟨b, off, rfl, fun t ht => ?_⟩
  rw [hl] at ht
  rw [hc t (by omega)]
  simp [List.getD, ht]
end Go.Proofs.YtkefdkboejimeaaGreatDoor
namespace Go.Proofs.YtkefdkboejimeaaGreatDoor
open Go.RowKit
theorem jjn {w : World} {b1 b2 t1 t2 s1 s2 n1 n2 : Nat} {v1 v2 : Value} {c1 c2 : List Value} (h1 : w.ownsRow b1 t1 s1 v1 n1 c1) (h2 : w.ownsRow b2 t2 s2 v2 n2 c2) (ht : t1 ≠ t2) {g : Nat} (e1 : v1.ownBlock = some g) (e2 : v2.ownBlock = some g) : False := by
 rcases h1.2 with ⟨rfl, -⟩ | ⟨x, cap, cur, rfl, -, hx, -⟩
 ·cases e1
 ·rcases h2.2 with ⟨rfl, -⟩ | ⟨y, cap2, cur2, rfl, -, hy, -⟩
  ·cases e2
  ·obtain rfl : x = g := by simpa [Value.ownBlock] using e1
   obtain rfl : y = x := by simpa [Value.ownBlock] using e2
   rw [hx] at hy
   exact ht (Obj.cells.inj (Option.some.inj hy)).2.1
def joR : Sl := ⟨none, 0, 0⟩
structure Gr (w : World) (base Bw n : Nat) (R : List (List Int)) (rs : List Sl) : Prop where
 row : w.ownsRow base 22 1 (.slice (some ⟨Bw, 0, none⟩) n n) n (rs.map (fun s => .slice s.a s.n s.c))
 len : rs.length = n
 each : ∀ k, k < n → Owns w base (rs.getD k joR).v (R.getD k [])
 apart : ∀ k, k < n → ∀ g, (rs.getD k joR).v.ownBlock = some g → ∀ j, j < n → j ≠ k → (rs.getD j joR).v.ownBlock ≠ some g
theorem Gr.ne {w : World} {base Bw n : Nat} {R : List (List Int)} {rs : List Sl} (h : Gr w base Bw n R rs) {k : Nat} (hk : k < n) {g : Nat} (e : (rs.getD k joR).v.ownBlock = some g) : g ≠ Bw :=
 fun e2 => jjn (h.each k hk).1 h.row (by decide) e (by rw [e2]; rfl)
theorem Gr.new {w w' : World} {base Bw n : Nat} {R : List (List Int)} {rs : List Sl} (h : Gr w base Bw n R rs) (hg : w.grownBy w' none) : Gr w' base Bw n R rs :=
 ⟨World.ownsRow.kept h.row hg (Or.inr (by simp [Value.ownBlock])), h.len, fun k hk => (h.each k hk).new hg, h.apart⟩
theorem Gr.rd {w : World} {base Bw n : Nat} {R : List (List Int)} {rs : List Sl} (h : Gr w base Bw n R rs) {k : Nat} (hk : k < n) : w.cell? ⟨Bw, k, none⟩ = some (.slice (rs.getD k joR).a (rs.getD k joR).n (rs.getD k joR).c) ∧ w.frozen? ⟨Bw, k, none⟩ = false := by
 have hl := h.len
 refine ⟨?_, World.ownsRow.frozenAt h.row k⟩
 rw [World.ownsRow.cellAt h.row k (by omega), List.getElem?_map, List.getD, List.getElem?_eq_getElem (by omega)]
 rfl
end Go.Proofs.YtkefdkboejimeaaGreatDoor
