/- A field, by the walk. -/
import Derived.Test.YtoadpjegdhlphaaWItem
namespace Go.Proofs.Ytoadpjegdhlphaa
open Go.RowKit

def fval (x : Fld) : Value := .agg #[.int .i64 x.num, .int .i64 x.kind, .int .u64 x.u, .string x.b]

/-- What field answers. -/
def Fldd (s : ByteArray) (p b : Nat) (w : World) (e : Ending) (w' : World) : Prop :=
  w.grownBy w' (some b) ∧ ((∃ x q, fd s p = some (x, q) ∧ e = .returned (fval x) ∧ Cur w' b s q) ∨ (fd s p = none ∧ e = .panicked bad))

theorem and7 (t : Nat) (h : t < 18446744073709551616) : bits .and .u64 (t : Int) 7 = ((t % 8 : Nat) : Int) := by
  have h7 := bits_and_u64_nat t 7 h (by omega)
  rw [show ((7 : Nat) : Int) = 7 from rfl] at h7
  rw [h7, show (7 : Nat) = 2 ^ 3 - 1 from rfl, Nat.and_two_pow_sub_one_eq_mod]

theorem box4 {w : World} {B : Nat} {a b c d : Value} {t : TypeId} (hb : w.heap[B]? = some (.cells #[a, b, c, d] t (0, 0))) :
    w.cell? ⟨B, 0, none⟩ = some a ∧ w.cell? ⟨B, 1, none⟩ = some b ∧ w.cell? ⟨B, 2, none⟩ = some c ∧ w.cell? ⟨B, 3, none⟩ = some d ∧ w.frozen? ⟨B, 0, none⟩ = false ∧ w.frozen? ⟨B, 1, none⟩ = false ∧ w.frozen? ⟨B, 2, none⟩ = false ∧ w.frozen? ⟨B, 3, none⟩ = false :=
  ⟨(cell_of_row _ _ 0 _ _ (0, 0) hb).trans rfl, (cell_of_row _ _ 1 _ _ (0, 0) hb).trans rfl, (cell_of_row _ _ 2 _ _ (0, 0) hb).trans rfl, (cell_of_row _ _ 3 _ _ (0, 0) hb).trans rfl, frozen_of_row w B 0 _ _ hb, frozen_of_row w B 1 _ _ hb, frozen_of_row w B 2 _ _ hb, frozen_of_row w B 3 _ _ hb⟩

theorem row_set {W w : World} {row : Option Nat} (h : W.grownBy w row) {B o : Nat} {v : Value} (hB : W.heap.size ≤ B) : W.grownBy (w.setCell ⟨B, o, none⟩ v) row :=
  ⟨h.os, h.tape, h.output, by simpa using h.size, fun i hi hne => ((grown_set w B o v).block i (Nat.lt_of_lt_of_le hi h.size) (fun e => by cases e; omega)).trans (h.block i hi hne)⟩

theorem Cur.past {w : World} {b : Nat} {s : ByteArray} {p : Nat} (h : Cur w b s p) {B o : Nat} {v : Value} (hB : b < B) : Cur (w.setCell ⟨B, o, none⟩ v) b s p :=
  h.kept (grown_set w B o v) (fun e => by cases e; omega)

theorem hem : (⟨#[]⟩ : ByteArray) = ByteArray.empty := rfl

set_option maxRecDepth 100000 in
set_option maxHeartbeats 3200000 in
theorem field_any (b : Nat) (s : ByteArray) (p : Nat) (w : World) (h : Cur w b s p) (hs : s.size ≤ 16777216) :
    Calls Try.prog 25 #[.pointer (some ⟨b, 0, none⟩)] w fun e w' => Fldd s p b w e w' := by
  have hbw := h.lt
  obtain ⟨w0, hw0⟩ : ∃ w0, w0 = w.alloc (.cells #[.int .i64 0, .int .i64 0, .int .u64 0, .string ⟨#[]⟩] 34) := ⟨_, rfl⟩
  have hg0 : w.grownBy w0 none := by rw [hw0]; exact grown_new _ _
  have B0 : w0.heap[w.heap.size]? = some (.cells #[.int .i64 0, .int .i64 0, .int .u64 0, .string ⟨#[]⟩] 34 (0, 0)) := by rw [hw0]; exact heap_alloc_new w _
  have V := hide (varint_any b s p w0 (h.more hg0))
  go_enter Try.func25, Try.ntmps25
  go_wp2_with fail
  rw [← hw0]
  clear hw0
  refine V.out.mono ?_
  rintro e w1 ⟨hg1, ⟨t, q, ht, rfl, hc⟩ | ⟨ht, rfl⟩⟩
  · have HT := hide ht
    have hsp := tk_spec ht
    have HC := hide hc
    have hg01 := row_trans (row_of_none (some b) hg0) hg1
    have hne : some w.heap.size ≠ some b := fun e => by cases e; omega
    have B1 := (hg1.block w.heap.size (World.block_lt_of_cell? w0 ⟨w.heap.size, 0, none⟩ (box4 B0).1) hne).trans B0
    clear ht hc
    by_cases hbad : 4294967295 < t ∨ t < 8
    · have hn : fd s p = none := by simp only [fd, HT.out, fdT, hbad, if_true]
      rcases hbad with hbad | hbad
      · go_wp2
        exact ⟨rfl, hg01, .inr ⟨hn, rfl⟩⟩
      · have hz : ((t : Int) / 8 == 0) = true := by rw [beq_iff_eq]; omega
        go_wp2
        exact ⟨rfl, hg01, .inr ⟨hn, rfl⟩⟩
    · have hz : ((t : Int) / 8 == 0) = false := by rw [beq_eq_false_iff_ne]; omega
      have ht1 : t ≤ 4294967295 := by omega
      have HB := hide hbad
      clear hbad
      have hm := and7 t (by omega)
      obtain ⟨k, hk⟩ : ∃ k, t % 8 = k := ⟨_, rfl⟩
      have hk8 : k < 8 := by omega
      rw [hk] at hm
      have HK := hide hk
      clear hk
      obtain ⟨w2, hw2⟩ : ∃ w2, w2 = w1.alloc (.cells #[.int .i64 ((t : Int) / 8), .int .i64 k, .int .u64 0, .string ⟨#[]⟩] 34) := ⟨_, rfl⟩
      have hg02 : w.grownBy w2 (some b) := by rw [hw2]; exact row_trans hg01 (grown_new _ _ |> row_of_none _)
      have B2 : Hid (∀ w3, w2.grownBy w3 (some b) → w3.heap[w.heap.size]? = some (.cells #[.int .i64 0, .int .i64 0, .int .u64 0, .string ⟨#[]⟩] 34 (0, 0)) ∧ w3.heap[w1.heap.size]? = some (.cells #[.int .i64 ((t : Int) / 8), .int .i64 k, .int .u64 0, .string ⟨#[]⟩] 34 (0, 0))) := by
        intro w3 h3
        have hx : w.heap.size < w1.heap.size := World.block_lt_of_cell? w1 ⟨w.heap.size, 0, none⟩ (box4 B1).1
        have hy : some w1.heap.size ≠ some b := fun e => by cases e; have := hg01.size; omega
        have hz : w2.heap.size = w1.heap.size + 1 := by rw [hw2]; simp
        refine ⟨(h3.block _ (by omega) hne).trans ?_, (h3.block _ (by omega) hy).trans ?_⟩
        · rw [hw2]; exact ((grown_new w1 _).block _ hx (by simp)).trans B1
        · rw [hw2]; exact heap_alloc_new w1 _
      have HC2 : Cur w2 b s q := by rw [hw2]; exact HC.out.more (grown_new _ _)
      have hx : w.heap.size < w1.heap.size := World.block_lt_of_cell? w1 ⟨w.heap.size, 0, none⟩ (box4 B1).1
      clear B1 B0
      by_cases k0 : k = 0
      · subst k0
        have V2 := hide (varint_any b s q w2 HC2)
        clear HC2
        go_wp2_with fail
        rw [← show w2 = w1.alloc (.cells #[.int .i64 ((t : Int) / 8), .int .i64 0, .int .u64 0, .string ⟨#[]⟩] 34) from hw2]
        clear hw2
        refine V2.out.mono ?_
        rintro e w3 ⟨hg3, ⟨u, r, hu, rfl, hc3⟩ | ⟨hu, rfl⟩⟩
        · obtain ⟨b0, b1⟩ := B2.out w3 hg3
          obtain ⟨c0, c1, c2, c3, f0, f1, f2, f3⟩ := box4 b0
          obtain ⟨d0, d1, d2, d3, -, -, e2, e3⟩ := box4 b1
          have HC4 := hide hc3
          have HU := hide hu
          clear hc3 hu b0 b1
          go_wp2
          refine bodyPost_ret (v := fval ⟨(t / 8 : Nat), 0, u, ByteArray.empty⟩) (by simp [results, Try.results25, go_sem, c0, c1, c2, c3, fval, hem]) rfl ?_
          refine ⟨row_set (row_set (row_set (row_set (row_set (row_trans hg02 hg3) ?_) ?_) ?_) ?_) ?_, .inl ⟨_, r, by simp [fd, fdT, HT.out, HB.out, HK.out, HU.out], rfl, ((((HC4.out.past ?_).past ?_).past ?_).past ?_).past ?_⟩⟩ <;> omega
        · go_wp2
          exact ⟨rfl, row_trans hg02 hg3, .inr ⟨by simp [fd, fdT, HT.out, HB.out, HK.out, hu], rfl⟩⟩
      by_cases k1 : k = 1
      · subst k1
        have V2 := hide (fixed_any b s q 8 w2 HC2 (by omega))
        clear HC2
        go_wp2_with fail
        rw [← show w2 = w1.alloc (.cells #[.int .i64 ((t : Int) / 8), .int .i64 1, .int .u64 0, .string ⟨#[]⟩] 34) from hw2]
        clear hw2
        refine V2.out.mono ?_
        rintro e w3 ⟨hg3, ⟨hu, rfl, hc3⟩ | ⟨hu, rfl⟩⟩
        · obtain ⟨b0, b1⟩ := B2.out w3 hg3
          obtain ⟨c0, c1, c2, c3, f0, f1, f2, f3⟩ := box4 b0
          obtain ⟨d0, d1, d2, d3, -, -, e2, e3⟩ := box4 b1
          have HC4 := hide hc3
          have HU := hide hu
          clear hc3 hu b0 b1
          go_wp2
          refine bodyPost_ret (v := fval ⟨(t / 8 : Nat), 1, (low s q 8 : Nat), ByteArray.empty⟩) (by simp [results, Try.results25, go_sem, c0, c1, c2, c3, fval, hem]) rfl ?_
          refine ⟨row_set (row_set (row_set (row_set (row_set (row_trans hg02 hg3) ?_) ?_) ?_) ?_) ?_, .inl ⟨_, q + 8, by simp [fd, fdT, HT.out, HB.out, HK.out, HU.out], rfl, ((((HC4.out.past ?_).past ?_).past ?_).past ?_).past ?_⟩⟩ <;> omega
        · go_wp2
          exact ⟨rfl, row_trans hg02 hg3, .inr ⟨by simp [fd, fdT, HT.out, HB.out, HK.out, Nat.not_le.2 hu], rfl⟩⟩
      by_cases k5 : k = 5
      · subst k5
        have V2 := hide (fixed_any b s q 4 w2 HC2 (by omega))
        clear HC2
        go_wp2_with fail
        rw [← show w2 = w1.alloc (.cells #[.int .i64 ((t : Int) / 8), .int .i64 5, .int .u64 0, .string ⟨#[]⟩] 34) from hw2]
        clear hw2
        refine V2.out.mono ?_
        rintro e w3 ⟨hg3, ⟨hu, rfl, hc3⟩ | ⟨hu, rfl⟩⟩
        · obtain ⟨b0, b1⟩ := B2.out w3 hg3
          obtain ⟨c0, c1, c2, c3, f0, f1, f2, f3⟩ := box4 b0
          obtain ⟨d0, d1, d2, d3, -, -, e2, e3⟩ := box4 b1
          have HC4 := hide hc3
          have HU := hide hu
          clear hc3 hu b0 b1
          go_wp2
          refine bodyPost_ret (v := fval ⟨(t / 8 : Nat), 5, (low s q 4 : Nat), ByteArray.empty⟩) (by simp [results, Try.results25, go_sem, c0, c1, c2, c3, fval, hem]) rfl ?_
          refine ⟨row_set (row_set (row_set (row_set (row_set (row_trans hg02 hg3) ?_) ?_) ?_) ?_) ?_, .inl ⟨_, q + 4, by simp [fd, fdT, HT.out, HB.out, HK.out, HU.out], rfl, ((((HC4.out.past ?_).past ?_).past ?_).past ?_).past ?_⟩⟩ <;> omega
        · go_wp2
          exact ⟨rfl, row_trans hg02 hg3, .inr ⟨by simp [fd, fdT, HT.out, HB.out, HK.out, Nat.not_le.2 hu], rfl⟩⟩
      by_cases k2 : k = 2
      · subst k2
        have V2 := hide (bytes_any b s q w2 HC2 hs)
        clear HC2
        go_wp2_with fail
        rw [← show w2 = w1.alloc (.cells #[.int .i64 ((t : Int) / 8), .int .i64 2, .int .u64 0, .string ⟨#[]⟩] 34) from hw2]
        clear hw2
        refine V2.out.mono ?_
        rintro e w3 ⟨hg3, ⟨n, r, hu, hle, rfl, hc3⟩ | ⟨hu, rfl⟩⟩
        · obtain ⟨b0, b1⟩ := B2.out w3 hg3
          obtain ⟨c0, c1, c2, c3, f0, f1, f2, f3⟩ := box4 b0
          obtain ⟨d0, d1, d2, d3, -, -, e2, e3⟩ := box4 b1
          have HC4 := hide hc3
          have HU := hide hu
          clear hc3 hu b0 b1
          go_wp2
          refine bodyPost_ret (v := fval ⟨(t / 8 : Nat), 2, 0, s.extract r (r + n)⟩) (by simp [results, Try.results25, go_sem, c0, c1, c2, c3, fval, hem]) rfl ?_
          refine ⟨row_set (row_set (row_set (row_set (row_set (row_trans hg02 hg3) ?_) ?_) ?_) ?_) ?_, .inl ⟨_, r + n, by simp [fd, fdT, HT.out, HB.out, HK.out, HU.out, hle], rfl, ((((HC4.out.past ?_).past ?_).past ?_).past ?_).past ?_⟩⟩ <;> omega
        · go_wp2
          exact ⟨rfl, row_trans hg02 hg3, .inr ⟨by rcases hu with hu | ⟨n, r, hu, hle⟩ <;> simp [fd, fdT, HT.out, HB.out, HK.out, hu] <;> omega, rfl⟩⟩
      have hn : fd s p = none := by simp [fd, fdT, HT.out, HB.out, HK.out, k0, k1, k2, k5]
      have j0 : ((k : Int) == 0) = false := by rw [beq_eq_false_iff_ne]; omega
      have j1 : ((k : Int) == 1) = false := by rw [beq_eq_false_iff_ne]; omega
      have j2 : ((k : Int) == 2) = false := by rw [beq_eq_false_iff_ne]; omega
      have j5 : ((k : Int) == 5) = false := by rw [beq_eq_false_iff_ne]; omega
      go_wp2
      rw [← hw2]
      exact ⟨rfl, hg02, .inr ⟨hn, rfl⟩⟩
  · go_wp2
    exact ⟨rfl, row_trans (row_of_none (some b) hg0) hg1, .inr ⟨by simp only [fd, ht], rfl⟩⟩
end Go.Proofs.Ytoadpjegdhlphaa
