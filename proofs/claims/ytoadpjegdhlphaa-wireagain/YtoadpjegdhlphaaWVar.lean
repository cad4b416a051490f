/- A number's bytes: appendVarint, Varint and the document's Varint, by the walk. -/
import Derived.Test.YtoadpjegdhlphaaWRAll
import Derived.Laws.BytesArg
namespace Go.Proofs.Ytoadpjegdhlphaa
open Go.RowKit

def bcells (c : Nat) : List Value := [.int .u8 c]

abbrev OwnsB (w : World) (base : Nat) (v : Value) (l : List Nat) : Prop := OwnsL 5 1 bcells w base v l

/-- A text of bytes. -/
def sof (l : List Nat) : ByteArray := strOfNums (l.map fun (n : Nat) => (n : Int))

theorem bcells_one (x : Nat) : ∀ u ∈ bcells x, u.oneCell' = true := by
  intro u hu; simp [bcells] at hu; rcases hu with rfl; rfl

theorem bcells_flat (l : List Nat) : l.flatMap bcells = l.map fun (n : Nat) => Value.int .u8 n := by
  induction l with
  | nil => rfl
  | cons a l ih => rw [List.flatMap_cons, ih]; rfl

theorem conv_own {w : World} {base : Nat} {v : Value} {l : List Nat} (h : OwnsB w base v l) : (convert 48 9 v).run Try.prog w = .ok (.string (sof l)) w := by
  have h0 := h
  rcases h.2 with ⟨rfl, hn⟩ | ⟨g, cap, cur, rfl, _, _, hnc, hcm, _, _⟩
  · obtain rfl : l = [] := List.length_eq_zero_iff.1 hn
    exact run_convert_bytes_nil (P := Try.prog) w 48 5 Try.underlying48 Try.underlying5 0 0 9 Try.underlying9
  · refine run_convert_bytes_arg (P := Try.prog) w 48 5 Try.underlying48 Try.underlying5 g 0 l.length cap (l.map fun (n : Nat) => (n : Int)) (by simp) ?_ 9 Try.underlying9
    intro i hi
    rw [Nat.zero_add, World.ownsRow.cellAt h0 i (by omega), bcells_flat]
    simp [hi]

theorem below_own {α : Type} {te : TypeId} {size : Nat} {f : α → List Value} {w w' : World} {base : Nat} {v : Value} {xs : List α} (h : OwnsL te size f w base v xs) (hb : base ≤ w.heap.size) (hg : w.grownBy w' v.ownBlock) : Below base w w' :=
  ⟨hg.os, hg.tape, hg.output, by have := hg.size; omega, fun k hk => hg.block k (by omega) (fun e => by have := World.ownsRow.lt h k e.symm; omega)⟩

theorem vbF_len (f : Nat) : ∀ u, 1 ≤ (vbF f u).length ∧ (vbF f u).length ≤ f + 1 := by
  induction f with
  | zero => intro u; simp [vbF]
  | succ f ih =>
    intro u
    unfold vbF
    split
    · simp
    · have := ih (u / 128)
      simp only [List.length_cons]; omega

theorem vbF_lt (f : Nat) : ∀ u, ∀ c ∈ vbF f u, c < 256 := by
  induction f with
  | zero => intro u c hc; simp [vbF] at hc; omega
  | succ f ih =>
    intro u c hc
    unfold vbF at hc
    split at hc
    · simp at hc; omega
    · rcases List.mem_cons.1 hc with rfl | hc
      · omega
      · exact ih _ c hc

theorem or128 (c : Nat) (h : c < 256) : bits .or .u8 (c : Int) 128 = ((c % 128 + 128 : Nat) : Int) := by
  have : ∀ c : Fin 256, bits .or .u8 ((c : Nat) : Int) 128 = (((c : Nat) % 128 + 128 : Nat) : Int) := by decide +kernel
  exact this ⟨c, h⟩

theorem vbF_big {f u : Nat} (h : ¬ u < 128) : vbF (f + 1) u = (u % 128 + 128) :: vbF f (u / 128) := by
  conv => lhs; unfold vbF
  rw [if_neg h]
theorem vbF_small {f u : Nat} (h : u < 128) : vbF f u = [u] := by
  cases f with
  | zero => simp [vbF]; omega
  | succ f => unfold vbF; rw [if_pos h]

/-- What is still to be written. -/
def VI (xs0 : List Nat) (u0 : Nat) (f U : Nat) (xs : List Nat) : Prop := U < 128 ^ (f + 1) ∧ xs0 ++ vb u0 = xs ++ vbF f U

theorem VI.start (xs : List Nat) (u : Nat) (hu : u < 18446744073709551616) : VI xs u 10 u xs := ⟨by simp; omega, rfl⟩
theorem VI.pos {xs0 : List Nat} {u0 f U : Nat} {xs : List Nat} (h : VI xs0 u0 f U xs) (hU : ¬ U < 128) : 0 < f := by
  rcases Nat.eq_zero_or_pos f with rfl | h0
  · have := h.1; simp at this; omega
  · exact h0
theorem VI.next {xs0 : List Nat} {u0 f U : Nat} {xs : List Nat} (h : VI xs0 u0 f U xs) (hU : ¬ U < 128) : VI xs0 u0 (f - 1) (U / 128) (xs ++ [U % 128 + 128]) := by
  have hp := h.pos hU
  obtain ⟨g, rfl⟩ : ∃ g, f = g + 1 := ⟨f - 1, by omega⟩
  refine ⟨?_, ?_⟩
  · have h1 := h.1
    rw [Nat.pow_succ] at h1
    rw [Nat.add_sub_cancel]
    omega
  · rw [h.2, vbF_big hU]; simp
theorem VI.done {xs0 : List Nat} {u0 f U : Nat} {xs : List Nat} (h : VI xs0 u0 f U xs) (hU : U < 128) : xs0 ++ vb u0 = xs ++ [U] := by rw [h.2, vbF_small hU]
theorem VI.len {xs0 : List Nat} {u0 f U : Nat} {xs : List Nat} (h : VI xs0 u0 f U xs) : xs.length + 1 ≤ xs0.length + 11 := by
  have h1 := vbF_len f U
  have h2 := vbF_len 10 u0
  have h3 := congrArg List.length h.2
  simp [vb] at h3
  omega

set_option maxRecDepth 100000 in
set_option maxHeartbeats 3200000 in
theorem appendVarint_any (v0 : Value) (xs0 : List Nat) (u : Nat) (base : Nat) (w : World) (h : OwnsB w base v0 xs0) (hb : base ≤ w.heap.size) (hu : u < 18446744073709551616) (hl : xs0.length ≤ 1099511627776) :
    Calls Try.prog 23 #[v0, .int .u64 u] w fun e w' => ∃ v', e = .returned v' ∧ OwnsB w' base v' (xs0 ++ vb u) ∧ Below base w w' ∧ w.heap.size ≤ w'.heap.size := by
  obtain ⟨i0, hi, hz0, hz1, hz2⟩ := info_parts infoByte
  obtain ⟨ao0, cap0, rfl⟩ := h.form
  go_enter Try.func23, Try.ntmps23
  go_wp2
  go_loopg [0, 1] 10 (fun f b x wr => ∃ v U xs, b = v ∧ x = .int .u64 (U : Nat) ∧ U < 18446744073709551616 ∧ VI xs0 u f U xs ∧ OwnsB wr base v xs ∧ Below base w wr ∧ w.heap.size ≤ wr.heap.size)
  case atStart => exact ⟨_, u, xs0, rfl, rfl, hu, VI.start _ _ hu, h, Below.refl _ _, Nat.le_refl _⟩
  case round =>
    obtain ⟨v, U, xs, rfl, rfl, hU, hvi, hown, hbel, hsz⟩ := hrel
    obtain ⟨ao, cap, rfl⟩ := hown.form
    have HV := hide hvi
    have HO := hide hown
    have hlen := hvi.len
    clear hvi hown h
    by_cases hsm : U < 128
    · go_wp2_with (at_builtin; refine wpList_push rfl (.tmp 15) (.tmp 18) 48 5 1 1 _ i0 bcells rfl Try.underlying48 hi hz0 hz1 hz2 rfl (by decide) base _ xs rfl (by exact HO.out.more (grown_new wr _)) wr.heap.size 1 U _ rfl (by exact heap_at _ _ _ rfl) rfl rfl (bcells_one U) (by omega) (by simp only [maxLen]; omega) (by simp; omega) ?_; intro v' w5 hown5 hg5)
      go_ret
      exact ⟨_, rfl, by rw [HV.out.done hsm]; exact hown5, (hbel.alloc (by omega) _).trans (below_own (HO.out.more (grown_new wr _)) (by simp; omega) hg5), by have := hg5.size; simp at this; omega⟩
    · have hm : bits .or .u8 ((U : Int) % 256) 128 = (U : Int) % 128 + 128 := by
        have h1 := or128 (U % 256) (by omega)
        have e : U % 256 % 128 = U % 128 := by omega
        rw [e] at h1
        simpa using h1
      go_wp2_with (at_builtin; refine wpList_push rfl (.tmp 7) (.tmp 11) 48 5 1 1 _ i0 bcells rfl Try.underlying48 hi hz0 hz1 hz2 rfl (by decide) base _ xs rfl (by exact HO.out.more (grown_new wr _)) wr.heap.size 1 (U % 128 + 128) _ rfl (by exact heap_at _ _ _ rfl) (by simp [bcells]) rfl (bcells_one _) (by omega) (by simp only [maxLen]; omega) (by simp; omega) ?_; intro v' w5 hown5 hg5)
      have hp := HV.out.pos hsm
      go_roundg (gk - 1)
      case measure => omega
      case rel => exact ⟨v', U / 128, _, rfl, by simp, by omega, HV.out.next hsm, hown5, (hbel.alloc (by omega) _).trans (below_own (HO.out.more (grown_new wr _)) (by simp; omega) hg5), by have := hg5.size; simp at this; omega⟩

theorem varintS_any (u : Nat) (w : World) (hu : u < 18446744073709551616) :
    Calls Try.prog 11 #[.int .u64 u] w fun e w' => e = .returned (.string (sof (vb u))) ∧ w.grownBy w' none := by
  have C := hide (appendVarint_any (.slice none 0 0) [] u w.heap.size w (OwnsL.nil _ _ _ _ _) (Nat.le_refl _) hu (by simp))
  go_enter Try.func11, Try.ntmps11
  go_wp2_with fail
  refine C.out.mono ?_
  rintro e w1 ⟨v', rfl, hown, hb, -⟩
  have hcv := conv_own hown
  rw [List.nil_append] at hcv
  go_wp2
  go_ret
  exact ⟨rfl, below_grown hb⟩

set_option maxRecDepth 100000 in
set_option maxHeartbeats 3200000 in
theorem refvarintS_any (u : Nat) (w : World) (hu : u < 18446744073709551616) :
    Calls Try.prog 12 #[.int .u64 u] w fun e w' => e = .returned (.string (sof (vb u))) ∧ w.grownBy w' none := by
  obtain ⟨i0, hi, hz0, hz1, hz2⟩ := info_parts infoByte
  go_enter Try.func12, Try.ntmps12
  go_wp2
  go_loopg [0, 3] 10 (fun f x b wr => ∃ v U xs, b = v ∧ x = .int .u64 (U : Nat) ∧ U < 18446744073709551616 ∧ VI [] u f U xs ∧ OwnsB wr w.heap.size v xs ∧ w.grownBy wr none)
  case atStart => exact ⟨_, u, [], rfl, rfl, hu, VI.start _ _ hu, OwnsL.nil _ _ _ _ _, grown_refl _⟩
  case round =>
    obtain ⟨v, U, xs, rfl, rfl, hU, hvi, hown, hg⟩ := hrel
    obtain ⟨ao, cap, rfl⟩ := hown.form
    have HV := hide hvi
    have HO := hide hown
    have hlen := hvi.len
    have hz := hg.size
    clear hvi hown
    simp at hlen
    by_cases hsm : U < 128
    · go_wp2_with (at_builtin; refine wpList_push rfl (.tmp 15) (.tmp 18) 48 5 1 1 _ i0 bcells rfl Try.underlying48 hi hz0 hz1 hz2 rfl (by decide) w.heap.size _ xs rfl (by exact HO.out.more (grown_new wr _)) wr.heap.size 1 U _ rfl (by exact heap_at _ _ _ rfl) rfl rfl (bcells_one U) (by omega) (by simp only [maxLen]; omega) (by simp; omega) ?_; intro v' w5 hown5 hg5; have hcv := conv_own hown5; rw [← HV.out.done hsm, List.nil_append] at hcv)
      go_ret
      exact ⟨rfl, own_row (HO.out.more (grown_new wr _)) (grown_trans hg (grown_new wr _)) (Nat.le_refl _) hg5⟩
    · go_wp2_with (at_builtin; refine wpList_push rfl (.tmp 6) (.tmp 11) 48 5 1 1 _ i0 bcells rfl Try.underlying48 hi hz0 hz1 hz2 rfl (by decide) w.heap.size _ xs rfl (by exact HO.out.more (grown_new wr _)) wr.heap.size 1 (U % 128 + 128) _ rfl (by exact heap_at _ _ _ rfl) (by simp [bcells]) rfl (bcells_one _) (by omega) (by simp only [maxLen]; omega) (by simp; omega) ?_; intro v' w5 hown5 hg5)
      have hp := HV.out.pos hsm
      go_roundg (gk - 1)
      case measure => omega
      case rel => exact ⟨v', U / 128, _, rfl, by simp, by omega, HV.out.next hsm, hown5, own_row (HO.out.more (grown_new wr _)) (grown_trans hg (grown_new wr _)) (Nat.le_refl _) hg5⟩
end Go.Proofs.Ytoadpjegdhlphaa
