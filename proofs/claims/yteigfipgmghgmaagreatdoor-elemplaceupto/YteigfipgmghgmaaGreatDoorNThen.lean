/- What follows in a node, by the walk. -/
import Derived.Test.YteigfipgmghgmaaGreatDoorNOne
namespace Go.Proofs.YteigfipgmghgmaaGreatDoor
open Go.RowKit

/-- What stands between the commas. -/
def pcs : List UInt8 → List (List UInt8)
  | [] => [[]]
  | c :: l => if c = 44 then [] :: pcs l else match pcs l with
    | [] => [[c]]
    | p :: ps => (c :: p) :: ps

theorem pcs_miss : ∀ {l : List UInt8}, (∀ k : Nat, l[k]? ≠ some 44) → pcs l = [l]
  | [], _ => rfl
  | c :: l, h => by
    have h0 : c ≠ 44 := fun e => h 0 (by simp [e])
    have h1 : ∀ k : Nat, l[k]? ≠ some 44 := fun k => by have := h (k + 1); simpa using this
    rw [pcs, if_neg h0, pcs_miss h1]

theorem pcs_hit : ∀ {l : List UInt8} {i : Nat}, l[i]? = some 44 → (∀ k, k < i → l[k]? ≠ some 44) → pcs l = l.take i :: pcs (l.drop (i + 1))
  | [], i, h, _ => by simp at h
  | c :: l, 0, h, _ => by
    have h0 : c = 44 := by simpa using h
    rw [pcs, if_pos h0]
    simp
  | c :: l, i + 1, h, hn => by
    have h0 : c ≠ 44 := fun e => hn 0 (by omega) (by simp [e])
    have h1 := pcs_hit (l := l) (i := i) (by simpa using h) (fun k hk => by have := hn (k + 1) (by omega); simpa using this)
    rw [pcs, if_neg h0, h1]
    simp

theorem pcs_len : ∀ l : List UInt8, (pcs l).length ≤ l.length + 1
  | [] => Nat.le_refl _
  | c :: l => by
    have h := pcs_len l
    rw [pcs]
    split
    · simpa using h
    · split
      · simp
      · rename_i p ps e
        rw [e] at h
        simp at h ⊢
        omega

/-- A list of texts of the call's own. -/
abbrev scell (s : ByteArray) : List Value := [.string s]

abbrev OwnsS (w : World) (base : Nat) (v : Value) (xs : List ByteArray) : Prop := OwnsL 9 1 scell w base v xs

theorem infoStr : (Tryz.prog.info? 9).map (fun i => (i.zero, i.size, i.bytes)) = some (some (.string ⟨#[]⟩), 1, 16) := by kernel_rfl

def B (l : List UInt8) : ByteArray := ⟨l.toArray⟩

/-- What Then answers. -/
def thenE (o : Option Atr) : Int := match o with
  | none => 0
  | some a => if (pcs a.s.data.toList).all (fun p => isOne (B p)) then 0 else 4

def thenL (o : Option Atr) : List ByteArray := match o with
  | none => []
  | some a => if (pcs a.s.data.toList).all (fun p => isOne (B p)) then (pcs a.s.data.toList).map B else []

theorem B_extract0 (s : ByteArray) (i : Nat) : s.extract 0 i = B (s.data.toList.take i) := by
  unfold B
  rw [Lib.extract_eq]
  simp

theorem B_extract1 (s : ByteArray) (i : Nat) : s.extract i s.size = B (s.data.toList.drop i) := by
  unfold B
  rw [Lib.extract_eq]
  have : (s.data.toList.drop i).take (s.size - i) = s.data.toList.drop i := List.take_of_length_le (by simp)
  rw [this]

theorem B_size (l : List UInt8) : (B l).size = l.length := by show l.toArray.size = _; simp

theorem B_list (l : List UInt8) : (B l).data.toList = l := by simp [B]

theorem B_self (s : ByteArray) : B s.data.toList = s := Lib.mk_data s

theorem then_all {a : Atr} {acc : List (List UInt8)} (h : pcs a.s.data.toList = acc) (hall : acc.all (fun p => isOne (B p)) = true) : thenE (some a) = 0 ∧ thenL (some a) = acc.map B := by
  subst h
  unfold thenE thenL
  simp only [hall, if_true, and_self]

theorem then_not {a : Atr} {acc q : List (List UInt8)} {p : List UInt8} (h : pcs a.s.data.toList = acc ++ p :: q) (hp : isOne (B p) = false) : thenE (some a) = 4 ∧ thenL (some a) = [] := by
  have : (pcs a.s.data.toList).all (fun p => isOne (B p)) = false := by rw [h]; simp [hp]
  unfold thenE thenL
  simp [this]

theorem own_form {w : World} {base : Nat} {e : TypeId} {v : Value} {n : Nat} {xs : List Value} (h : w.ownsRow base e 1 v n xs) : ∃ a c, v = .slice a n c := by
  rcases h.2 with ⟨rfl, rfl⟩ | ⟨g, cap, cur, rfl, _⟩
  · exact ⟨_, _, rfl⟩
  · exact ⟨_, _, rfl⟩

theorem owns_snoc {w : World} {base : Nat} {v : Value} {acc : List (List UInt8)} {p : List UInt8} {n : Nat} (hn : n = (acc.map B).length + 1) (h : w.ownsRow base 9 1 v n ((acc.map B).flatMap scell ++ [.string (B p)])) : OwnsS w base v ((acc ++ [p]).map B) := by
  subst hn
  unfold OwnsS OwnsL
  simpa using h

set_option maxRecDepth 100000 in
set_option maxHeartbeats 1600000 in
theorem named_any (nm : ByteArray) (kd : Int) (w : World) :
    Calls Tryz.prog 58 #[.string nm, .int .i64 kd] w fun e w' => e = .returned (.func (.func 91) #[] #[.pointer (some ⟨w.heap.size, 0, none⟩), .pointer (some ⟨w.heap.size + 1, 0, none⟩)]) ∧ w'.heap[w.heap.size]? = some (.cells #[.string nm] 9 (0, 0)) ∧ w'.heap[w.heap.size + 1]? = some (.cells #[.int .i64 kd] 3 (0, 0)) ∧ w.grownBy w' none := by
  have BX := hide (two_boxes w (.cells #[.string nm] 9) (.cells #[.int .i64 kd] 3))
  go_enter Tryz.func58, Tryz.ntmps58
  go_wp2
  go_ret
  exact ⟨rfl, BX.out.1, BX.out.2, grown_trans (grown_new _ _) (grown_new _ _)⟩

set_option maxRecDepth 100000 in
set_option maxHeartbeats 6400000 in
theorem then_any (n : Nod) (xs : List Atr) (w : World) (hl : Laid w) (hv : IsAttrs w n.av.v xs) (hsz : ∀ a ∈ xs, a.s.size ≤ 4294967296) :
    Calls Tryz.prog 76 #[nval n] w fun e w' => ∃ v, e = .returned (.tuple #[v, .int .i64 (thenE (xs.find? (isA ⟨#[116, 104, 101, 110]⟩ 3)))]) ∧ OwnsS w' w.heap.size v (thenL (xs.find? (isA ⟨#[116, 104, 101, 110]⟩ 3))) ∧ w.grownBy w' none := by
  have HL := hide hl
  have HV := hide hv
  have FN := hide (fun (p q : Nat) (wx : World) (hg : w.grownBy wx none) (hp : wx.heap[p]? = some (.cells #[.string ⟨#[116, 104, 101, 110]⟩] 9 (0, 0))) (hq : wx.heap[q]? = some (.cells #[.int .i64 3] 3 (0, 0))) => first_named n xs p q ⟨#[116, 104, 101, 110]⟩ 3 wx (HV.out.more hg) hp hq)
  obtain ⟨op, nam, ⟨ia, il, ic⟩, out, ⟨ao, al, cap⟩⟩ := n
  unfold nval at FN ⊢
  simp only at FN ⊢
  clear hl hv
  obtain ⟨w0, hw0⟩ : ∃ w0, w0 = w.alloc (.cells #[.string op, .string nam, .slice ia il ic, .string out, .slice ao al cap] 25) := ⟨_, rfl⟩
  have g0 : w.grownBy w0 none := by rw [hw0]; exact grown_new _ _
  have hb0 := heap_alloc_new w (.cells #[.string op, .string nam, .slice ia il ic, .string out, .slice ao al cap] 25)
  rw [← hw0] at hb0
  have HZ0 : Hid (w0.heap.size = w.heap.size + 1) := by rw [hw0]; simp [Hid]
  have BX : Hid (∀ wx, w0.grownBy wx none → wx.heap[w.heap.size]? = some (.cells #[.string op, .string nam, .slice ia il ic, .string out, .slice ao al cap] 25 (0, 0))) := fun wx hg => box_kept hb0 hg
  clear hb0
  cases hf : xs.find? (isA ⟨#[116, 104, 101, 110]⟩ 3) with
  | none =>
    clear hsz
    rw [hf] at FN
    simp only [Option.getD_none, aval, noAtr, Option.isSome_none] at FN
    go_enter Tryz.func76, Tryz.ntmps76
    go_wp2
    rw [← hw0]
    clear hw0
    obtain ⟨n0, n1, n2, n3, n4⟩ := nod_cells (n := ⟨op, nam, ⟨ia, il, ic⟩, out, ⟨ao, al, cap⟩⟩) (BX.out w0 (grown_refl _))
    have gd := grown_drew (grown_refl w0)
    go_region_held3 (fun w' => w'.cell? ⟨w.heap.size, 0, none⟩ = some (.string op) ∧ w'.cell? ⟨w.heap.size, 1, none⟩ = some (.string nam) ∧ w'.cell? ⟨w.heap.size, 2, none⟩ = some (.slice ia il ic) ∧ w'.cell? ⟨w.heap.size, 3, none⟩ = some (.string out) ∧ w'.cell? ⟨w.heap.size, 4, none⟩ = some (.slice ao al cap)) (go_keep) (first | (go_at_call 58; refine (named_any _ _ _).mono ?_; rintro e w1 ⟨rfl, hp1, hq1, hg1⟩; have g01 : w0.grownBy w1 none := (by first | exact grown_trans gd hg1 | exact grown_trans (grown_trans gd (grown_new _ _)) hg1); obtain ⟨n0, n1, n2, n3, n4⟩ := nod_cells (n := ⟨op, nam, ⟨ia, il, ic⟩, out, ⟨ao, al, cap⟩⟩) (BX.out w1 g01); have hz1 : w.heap.size ≠ w1.heap.size := (by have := g01.size; have := HZ0.out; omega); have hzz : w.heap.size ≠ w0.heap.size := (by have := HZ0.out; omega); have hz1' := hz1.symm; have hzz' := hzz.symm; try (have hp2 : w1.heap[w0.heap.size + 1]? = some (.cells #[.string ⟨#[116, 104, 101, 110]⟩] 9 (0, 0)) := (by have h := hp1; rw [show ((w0.alloc (.cells #[.string ⟨#[]⟩, .int .i64 0, .int .i64 0, .int .i64 0, .string ⟨#[]⟩, .int .i64 0, .slice none 0 0, .slice none 0 0, .slice none 0 0] 92)).drew).heap.size = w0.heap.size + 1 by simp] at h; exact h)); try (have hq2 : w1.heap[w0.heap.size + 1 + 1]? = some (.cells #[.int .i64 3] 3 (0, 0)) := (by have h := hq1; rw [show ((w0.alloc (.cells #[.string ⟨#[]⟩, .int .i64 0, .int .i64 0, .int .i64 0, .string ⟨#[]⟩, .int .i64 0, .slice none 0 0, .slice none 0 0, .slice none 0 0] 92)).drew).heap.size = w0.heap.size + 1 by simp] at h; exact h)); try (have kz : w1.heap[w0.heap.size]? = some (.cells #[.string ⟨#[]⟩, .int .i64 0, .int .i64 0, .int .i64 0, .string ⟨#[]⟩, .int .i64 0, .slice none 0 0, .slice none 0 0, .slice none 0 0] 92 (0, 0)) := box_kept (show ((w0.alloc (.cells #[.string ⟨#[]⟩, .int .i64 0, .int .i64 0, .int .i64 0, .string ⟨#[]⟩, .int .i64 0, .slice none 0 0, .slice none 0 0, .slice none 0 0] 92)).drew).heap[w0.heap.size]? = _ from heap_alloc_new w0 _) hg1)) | (go_at_call 57; refine (FN.out _ _ _ (by first | exact grown_trans g0 g01 | exact grown_trans (grown_trans g0 g01) (grown_new _ _)) (by first | exact hp1 | exact hp2 | exact box_kept hp1 (grown_new _ _)) (by first | exact hq1 | exact hq2 | exact box_kept hq1 (grown_new _ _))).mono ?_; rintro e w2 ⟨rfl, hg2⟩; have g02 : w0.grownBy w2 none := (by first | exact grown_trans g01 hg2 | exact grown_trans (grown_trans g01 (grown_new _ _)) hg2); obtain ⟨n0, n1, n2, n3, n4⟩ := nod_cells (n := ⟨op, nam, ⟨ia, il, ic⟩, out, ⟨ao, al, cap⟩⟩) (BX.out w2 g02); try (first | have kz2 := box_kept kz hg2 | have kz2 : w2.heap[w1.heap.size]? = some (.cells #[.string ⟨#[]⟩, .int .i64 0, .int .i64 0, .int .i64 0, .string ⟨#[]⟩, .int .i64 0, .slice none 0 0, .slice none 0 0, .slice none 0 0] 92 (0, 0)) := box_kept (heap_alloc_new w1 _) hg2); try (obtain ⟨f0, f1, f2, f3, f4, f5, f6, f7, f8⟩ := atr_frozen kz2); try (obtain ⟨k0, k1, k2, k3, k4, k5, k6, k7, k8⟩ := atr_cells (a := noAtr) kz2)))
    · have gX := grown_trans (grown_trans g0 g02) (grown_new w2 (.cells #[.string ⟨#[]⟩, .int .i64 0, .int .i64 0, .int .i64 0, .string ⟨#[]⟩, .int .i64 0, .slice none 0 0, .slice none 0 0, .slice none 0 0] 92))
      have GX := hide gX
      clear gX
      go_wp2
      go_ret2
      exact ⟨_, rfl, OwnsL.nil _ _ _ _ _, GX.out⟩
    · obtain ⟨-, gX⟩ := store9 (.string ⟨#[]⟩) (.int .i64 0) (.int .i64 0) (.int .i64 0) (.string ⟨#[]⟩) (.int .i64 0) (.slice none 0 0) (.slice none 0 0) (.slice none 0 0) (grown_trans g0 g02) (show w.heap.size ≤ w1.heap.size by have := g01.size; have := HZ0.out; omega) kz2
      have GX := hide gX
      clear gX
      go_wp2
      go_ret2
      exact ⟨_, rfl, OwnsL.nil _ _ _ _ _, GX.out⟩
    · obtain ⟨-, gX⟩ := store9 (.string ⟨#[]⟩) (.int .i64 0) (.int .i64 0) (.int .i64 0) (.string ⟨#[]⟩) (.int .i64 0) (.slice none 0 0) (.slice none 0 0) (.slice none 0 0) (grown_trans g0 g02) (show w.heap.size ≤ w0.heap.size by have := HZ0.out; omega) kz2
      have GX := hide gX
      clear gX
      go_wp2
      go_ret2
      exact ⟨_, rfl, OwnsL.nil _ _ _ _ _, GX.out⟩
  | some a =>
    have hbig : a.s.size ≤ 4294967296 := hsz a (List.mem_of_find?_eq_some hf)
    rw [hf] at FN
    simp only [Option.getD_some, aval, Option.isSome_some] at FN
    clear hf hsz
    go_enter Tryz.func76, Tryz.ntmps76
    go_wp2
    rw [← hw0]
    clear hw0
    go_cut [4, 5] from 10 (fun p b wx => ∃ N : Nat, p = .pointer (some ⟨N, 0, none⟩) ∧ b = .bool true ∧ wx.heap[N]? = some (.cells #[.string a.name, .int .i64 a.kind, .int .i64 a.f, .int .i64 a.i, .string a.s, .int .i64 a.ty, .slice a.dv.a a.dv.n a.dv.c, .slice a.tv.a a.tv.n a.tv.c, .slice a.iv.a a.iv.n a.iv.c] 92 (0, 0)) ∧ w.grownBy wx none)
    case first =>
      obtain ⟨n0, n1, n2, n3, n4⟩ := nod_cells (n := ⟨op, nam, ⟨ia, il, ic⟩, out, ⟨ao, al, cap⟩⟩) (BX.out w0 (grown_refl _))
      have gd := grown_drew (grown_refl w0)
      go_region_held3 (fun w' => w'.cell? ⟨w.heap.size, 0, none⟩ = some (.string op) ∧ w'.cell? ⟨w.heap.size, 1, none⟩ = some (.string nam) ∧ w'.cell? ⟨w.heap.size, 2, none⟩ = some (.slice ia il ic) ∧ w'.cell? ⟨w.heap.size, 3, none⟩ = some (.string out) ∧ w'.cell? ⟨w.heap.size, 4, none⟩ = some (.slice ao al cap)) (go_keep) (first | (go_at_call 58; refine (named_any _ _ _).mono ?_; rintro e w1 ⟨rfl, hp1, hq1, hg1⟩; have g01 : w0.grownBy w1 none := (by first | exact grown_trans gd hg1 | exact grown_trans (grown_trans gd (grown_new _ _)) hg1); obtain ⟨n0, n1, n2, n3, n4⟩ := nod_cells (n := ⟨op, nam, ⟨ia, il, ic⟩, out, ⟨ao, al, cap⟩⟩) (BX.out w1 g01); have hz1 : w.heap.size ≠ w1.heap.size := (by have := g01.size; have := HZ0.out; omega); have hzz : w.heap.size ≠ w0.heap.size := (by have := HZ0.out; omega); have hz1' := hz1.symm; have hzz' := hzz.symm; try (have hp2 : w1.heap[w0.heap.size + 1]? = some (.cells #[.string ⟨#[116, 104, 101, 110]⟩] 9 (0, 0)) := (by have h := hp1; rw [show ((w0.alloc (.cells #[.string ⟨#[]⟩, .int .i64 0, .int .i64 0, .int .i64 0, .string ⟨#[]⟩, .int .i64 0, .slice none 0 0, .slice none 0 0, .slice none 0 0] 92)).drew).heap.size = w0.heap.size + 1 by simp] at h; exact h)); try (have hq2 : w1.heap[w0.heap.size + 1 + 1]? = some (.cells #[.int .i64 3] 3 (0, 0)) := (by have h := hq1; rw [show ((w0.alloc (.cells #[.string ⟨#[]⟩, .int .i64 0, .int .i64 0, .int .i64 0, .string ⟨#[]⟩, .int .i64 0, .slice none 0 0, .slice none 0 0, .slice none 0 0] 92)).drew).heap.size = w0.heap.size + 1 by simp] at h; exact h)); try (have kz : w1.heap[w0.heap.size]? = some (.cells #[.string ⟨#[]⟩, .int .i64 0, .int .i64 0, .int .i64 0, .string ⟨#[]⟩, .int .i64 0, .slice none 0 0, .slice none 0 0, .slice none 0 0] 92 (0, 0)) := box_kept (show ((w0.alloc (.cells #[.string ⟨#[]⟩, .int .i64 0, .int .i64 0, .int .i64 0, .string ⟨#[]⟩, .int .i64 0, .slice none 0 0, .slice none 0 0, .slice none 0 0] 92)).drew).heap[w0.heap.size]? = _ from heap_alloc_new w0 _) hg1)) | (go_at_call 57; refine (FN.out _ _ _ (by first | exact grown_trans g0 g01 | exact grown_trans (grown_trans g0 g01) (grown_new _ _)) (by first | exact hp1 | exact hp2 | exact box_kept hp1 (grown_new _ _)) (by first | exact hq1 | exact hq2 | exact box_kept hq1 (grown_new _ _))).mono ?_; rintro e w2 ⟨rfl, hg2⟩; have g02 : w0.grownBy w2 none := (by first | exact grown_trans g01 hg2 | exact grown_trans (grown_trans g01 (grown_new _ _)) hg2); obtain ⟨n0, n1, n2, n3, n4⟩ := nod_cells (n := ⟨op, nam, ⟨ia, il, ic⟩, out, ⟨ao, al, cap⟩⟩) (BX.out w2 g02); try (first | have kz2 := box_kept kz hg2 | have kz2 : w2.heap[w1.heap.size]? = some (.cells #[.string ⟨#[]⟩, .int .i64 0, .int .i64 0, .int .i64 0, .string ⟨#[]⟩, .int .i64 0, .slice none 0 0, .slice none 0 0, .slice none 0 0] 92 (0, 0)) := box_kept (heap_alloc_new w1 _) hg2); try (obtain ⟨f0, f1, f2, f3, f4, f5, f6, f7, f8⟩ := atr_frozen kz2); try (obtain ⟨k0, k1, k2, k3, k4, k5, k6, k7, k8⟩ := atr_cells (a := noAtr) kz2)))
      · have GG := hide (grown_trans g0 g02)
        go_wp2_with fail
        go_meet
        exact ⟨_, rfl, rfl, heap_alloc_new w2 _, grown_trans GG.out (grown_new w2 _)⟩
      · obtain ⟨hX, gX⟩ := store9 (.string a.name) (.int .i64 a.kind) (.int .i64 a.f) (.int .i64 a.i) (.string a.s) (.int .i64 a.ty) (.slice a.dv.a a.dv.n a.dv.c) (.slice a.tv.a a.tv.n a.tv.c) (.slice a.iv.a a.iv.n a.iv.c) (grown_trans g0 g02) (show w.heap.size ≤ w1.heap.size by have := g01.size; have := HZ0.out; omega) kz2
        have HX := hide hX
        have GX := hide gX
        clear hX gX
        go_wp2_with fail
        go_meet
        exact ⟨_, rfl, rfl, HX.out, GX.out⟩
      · obtain ⟨hX, gX⟩ := store9 (.string a.name) (.int .i64 a.kind) (.int .i64 a.f) (.int .i64 a.i) (.string a.s) (.int .i64 a.ty) (.slice a.dv.a a.dv.n a.dv.c) (.slice a.tv.a a.tv.n a.tv.c) (.slice a.iv.a a.iv.n a.iv.c) (grown_trans g0 g02) (show w.heap.size ≤ w0.heap.size by have := HZ0.out; omega) kz2
        have HX := hide hX
        have GX := hide gX
        clear hX gX
        go_wp2_with fail
        go_meet
        exact ⟨_, rfl, rfl, HX.out, GX.out⟩
    case rest =>
      obtain ⟨N, rfl, rfl, hN, hg⟩ := hcut
      obtain ⟨-, -, -, -, cS, -⟩ := atr_cells hN
      clear hN
      have LA := hide (HL.out.more hg)
      have HG := hide hg
      obtain ⟨i0, hi, hz0, hz1, hz2⟩ := info_parts infoStr
      clear hg HL HV FN BX HZ0 g0
      go_wp2_with fail
      go_loopg [6, 7, 8] (a.s.size + 1) (fun f lv rv mv wr => ∃ (acc : List (List UInt8)) (R : List UInt8) (more : Bool) (v : Value), lv = v ∧ rv = .string (B R) ∧ mv = .bool more ∧ f = (if more then R.length + 1 else 0) ∧ R.length ≤ a.s.size ∧ OwnsS wr wc.heap.size v (acc.map B) ∧ acc.all (fun p => isOne (B p)) = true ∧ pcs a.s.data.toList = acc ++ (if more then pcs R else []) ∧ wc.grownBy wr none)
      case atStart => exact ⟨[], a.s.data.toList, true, _, rfl, by rw [B_self], rfl, by simp, by simp, OwnsL.nil _ _ _ _ _, rfl, rfl, grown_refl _⟩
      case round =>
        obtain ⟨acc, R, more, v, rfl, rfl, rfl, rfl, hR, hown, hall, hpcs, hw⟩ := hrel
        have HO := hide hown
        have HA := hide hall
        have HP := hide hpcs
        obtain ⟨va, vc, ev⟩ := OwnsL.form hown
        rw [List.length_map] at ev
        subst ev
        have hlen : acc.length ≤ a.s.size + 1 := by
          have h1 := pcs_len a.s.data.toList
          rw [hpcs, List.length_append] at h1
          simp at h1
          omega
        clear hown hall hpcs cS
        cases more with
        | false =>
          have hpc : pcs a.s.data.toList = acc := by have := HP.out; simpa using this
          obtain ⟨t1, t2⟩ := then_all hpc HA.out
          have HT1 := hide t1
          have HT2 := hide t2
          clear hpc t1 t2
          go_wp2
          go_ret2
          exact ⟨_, by rw [HT1.out]; rfl, by rw [HT2.out]; exact HO.out.base_le HG.out.size, grown_trans HG.out hw⟩
        | true =>
          have hBs : (B R).size = R.length := B_size R
          have HBS := hide hBs
          have CU := hide (cut_any (B R) wr (by omega))
          clear hBs
          go_wp2_with fail
          refine CU.out.mono ?_
          rintro e w5 ⟨hc, hg5⟩
          have g5 := grown_trans hw hg5
          rcases hc with ⟨i, hi1, hi2, hi3, rfl⟩ | ⟨hno, rfl⟩
          · have eR : (B R).data.toList = R := B_list R
            rw [eR] at hi2 hi3
            rw [HBS.out] at hi1
            rw [B_extract0, B_extract1, eR]
            have HPC : Hid (pcs a.s.data.toList = acc ++ R.take i :: pcs (R.drop (i + 1))) := by
              have h1 := HP.out
              rw [if_pos trivial, pcs_hit hi2 hi3] at h1
              exact h1
            clear hi2 hi3 eR
            have OO := hide (fun (wx : World) (hx : wc.grownBy wx none) => ofone_any (B (R.take i)) wx (LA.out.more hx))
            have CL := hide (fun (wx : World) => strclone_any (B (R.take i)) wx (by rw [B_size]; simp; omega))
            go_wp2_with fail
            refine (OO.out w5 g5).mono ?_
            rintro e w6 ⟨rfl, hg6⟩
            have g6 := grown_trans g5 hg6
            cases ht : isOne (B (R.take i)) with
            | false =>
              obtain ⟨t1, t2⟩ := then_not HPC.out ht
              have HT1 := hide t1
              have HT2 := hide t2
              clear t1 t2 ht
              go_wp2
              go_ret2
              exact ⟨_, by rw [HT1.out]; rfl, by rw [HT2.out]; exact OwnsL.nil _ _ _ _ _, grown_trans HG.out g6⟩
            | true =>
              have HT := hide ht
              clear ht
              go_wp2_with fail
              refine (CL.out w6).mono ?_
              rintro e w7 ⟨rfl, hb7⟩
              have g7 := grown_trans g6 hb7
              have HO7 := hide (HO.out.more (grown_trans (grown_trans hg5 hg6) hb7))
              have hsz7 := g7.size
              go_wp2_with (at_builtin; refine wpList_append_own _ rfl (.tmp 30) (.tmp 33) 22 rfl wc.heap.size 9 i0 (.string ⟨#[]⟩) 1 16 Tryz.underlying22 hi hz0 hz1 hz2 rfl (by decide) _ _ _ rfl (by exact World.ownsRow.alloc HO7.out _) ⟨w7.heap.size, 0, none⟩ 1 1 [.string (B (R.take i))] rfl rfl (cell_one_new _ _ _) (by simp [Value.oneCell']) (by simp only [maxLen, List.length_map]; omega) (by simp only [List.length_map]; omega) (by simp; omega) ?_; intro v' w8 hown' hgrow _; obtain ⟨na, nc, rfl⟩ := own_form hown'; have HO8 := hide (owns_snoc rfl hown'); have g8 := grown_trans_row (grown_trans g7 (grown_new _ _)) hgrow (fun g hg' => (World.ownsRow.lt HO7.out g hg').1); clear hown' hgrow)
              go_wp2
              go_roundg ((R.drop (i + 1)).length + 1)
              case measure => simp; omega
              case rel => exact ⟨acc ++ [R.take i], R.drop (i + 1), true, _, rfl, rfl, rfl, by simp, by simp; omega, (by have h := HO8.out; rw [List.length_map] at h; exact h), by simp [HA.out, HT.out], by rw [HPC.out]; simp, g8⟩
          · have eR : (B R).data.toList = R := B_list R
            rw [eR] at hno
            have HPC : Hid (pcs a.s.data.toList = acc ++ R :: []) := by
              have h1 := HP.out
              rw [if_pos trivial, pcs_miss hno] at h1
              exact h1
            clear hno eR
            have OO := hide (fun (wx : World) (hx : wc.grownBy wx none) => ofone_any (B (R)) wx (LA.out.more hx))
            have CL := hide (fun (wx : World) => strclone_any (B (R)) wx (by rw [B_size]; omega))
            go_wp2_with fail
            refine (OO.out w5 g5).mono ?_
            rintro e w6 ⟨rfl, hg6⟩
            have g6 := grown_trans g5 hg6
            cases ht : isOne (B (R)) with
            | false =>
              obtain ⟨t1, t2⟩ := then_not HPC.out ht
              have HT1 := hide t1
              have HT2 := hide t2
              clear t1 t2 ht
              go_wp2
              go_ret2
              exact ⟨_, by rw [HT1.out]; rfl, by rw [HT2.out]; exact OwnsL.nil _ _ _ _ _, grown_trans HG.out g6⟩
            | true =>
              have HT := hide ht
              clear ht
              go_wp2_with fail
              refine (CL.out w6).mono ?_
              rintro e w7 ⟨rfl, hb7⟩
              have g7 := grown_trans g6 hb7
              have HO7 := hide (HO.out.more (grown_trans (grown_trans hg5 hg6) hb7))
              have hsz7 := g7.size
              go_wp2_with (at_builtin; refine wpList_append_own _ rfl (.tmp 30) (.tmp 33) 22 rfl wc.heap.size 9 i0 (.string ⟨#[]⟩) 1 16 Tryz.underlying22 hi hz0 hz1 hz2 rfl (by decide) _ _ _ rfl (by exact World.ownsRow.alloc HO7.out _) ⟨w7.heap.size, 0, none⟩ 1 1 [.string (B (R))] rfl rfl (cell_one_new _ _ _) (by simp [Value.oneCell']) (by simp only [maxLen, List.length_map]; omega) (by simp only [List.length_map]; omega) (by simp; omega) ?_; intro v' w8 hown' hgrow _; obtain ⟨na, nc, rfl⟩ := own_form hown'; have HO8 := hide (owns_snoc rfl hown'); have g8 := grown_trans_row (grown_trans g7 (grown_new _ _)) hgrow (fun g hg' => (World.ownsRow.lt HO7.out g hg').1); clear hown' hgrow)
              go_wp2
              go_roundg (0)
              case measure => simp
              case rel => exact ⟨acc ++ [R], [], false, _, rfl, rfl, rfl, by simp, by simp, (by have h := HO8.out; rw [List.length_map] at h; exact h), by simp [HA.out, HT.out], by rw [HPC.out]; simp, g8⟩
end Go.Proofs.YteigfipgmghgmaaGreatDoor
