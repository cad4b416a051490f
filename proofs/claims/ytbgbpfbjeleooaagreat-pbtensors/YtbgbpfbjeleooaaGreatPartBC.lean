/- A part. -/
import Derived.Test.YtbgbpfbjeleooaaGreatPartAO
import Derived.Laws.BytesArg
import Derived.Test.YtbgbpfbjeleooaaGreatPartAA
set_option maxHeartbeats 3200000
set_option maxRecDepth 100000
namespace Go.Proofs.YtbgbpfbjeleooaaGreat.Wr
open Go.RowKit
def bcells (c : Nat) : List Value := [.int .u8 c]
abbrev OwnsB (w : World) (base : Nat) (v : Value) (l : List Nat) : Prop := OwnsL 5 1 bcells w base v l
def sof (l : List Nat) : ByteArray := strOfNums (l.map fun (n : Nat) => (n : Int))
theorem bcells_one (x : Nat) : ∀ u ∈ bcells x, u.oneCell' = true := by
 intro u hu; simp [bcells] at hu; rcases hu with rfl; rfl
theorem je8 (l : List Nat) : l.flatMap bcells = l.map fun (n : Nat) => Value.int .u8 n := by
 induction l with
 | nil => rfl
 | cons a l ih => rw [List.flatMap_cons, ih]; rfl
theorem conv_own {w : World} {base : Nat} {v : Value} {l : List Nat} (h : OwnsB w base v l) : (convert 84 9 v).run Tryz.prog w = .ok (.string (sof l)) w := by
 have h0 := h
 rcases h.2 with ⟨rfl, hn⟩ | ⟨g, cap, cur, rfl, _, _, hnc, hcm, _, _⟩
 ·obtain rfl : l = [] := List.length_eq_zero_iff.1 hn
  exact run_convert_bytes_nil (P := Tryz.prog) w 84 5 Tryz.underlying84 Tryz.underlying5 0 0 9 Tryz.underlying9
 ·refine run_convert_bytes_arg (P := Tryz.prog) w 84 5 Tryz.underlying84 Tryz.underlying5 g 0 l.length cap (l.map fun (n : Nat) => (n : Int)) (by simp) ?_ 9 Tryz.underlying9
  intro i hi
  rw [Nat.zero_add, World.ownsRow.cellAt h0 i (by omega), je8]
  simp [hi]
theorem jeg {α : Type} {te : TypeId} {size : Nat} {f : α → List Value} {w w' : World} {base : Nat} {v : Value} {xs : List α} (h : OwnsL te size f w base v xs) (hb : base ≤ w.heap.size) (hg : w.grownBy w' v.ownBlock) : Below base w w' :=
 ⟨hg.os, hg.tape, hg.output, by have := hg.size; omega, fun k hk => hg.block k (by omega) (fun e => by have := World.ownsRow.lt h k e.symm; omega)⟩
theorem vbF_len (f : Nat) : ∀ u, 1 ≤ (vbF f u).length ∧ (vbF f u).length ≤ f + 1 := by
 induction f with
 | zero => intro u; simp [vbF]
 | succ f ih =>
  intro u
  unfold vbF
  split
  ·simp
  ·have := ih (u / 128)
   simp only [List.length_cons]; omega
theorem jkZ (c : Nat) (h : c < 256) : bits .or .u8 (c : Int) 128 = ((c % 128 + 128 : Nat) : Int) := by
 have : ∀ c : Fin 256, bits .or .u8 ((c : Nat) : Int) 128 = (((c : Nat) % 128 + 128 : Nat) : Int) := by decide +kernel
 exact this ⟨c, h⟩
theorem jiL {f u : Nat} (h : ¬ u < 128) : vbF (f + 1) u = (u % 128 + 128) :: vbF f (u / 128) := by
 conv => lhs; unfold vbF
 rw [if_neg h]
theorem jgx {f u : Nat} (h : u < 128) : vbF f u = [u] := by
 cases f with
 | zero => simp [vbF]; omega
 | succ f => unfold vbF; rw [if_pos h]
def VI (xs0 : List Nat) (u0 : Nat) (f U : Nat) (xs : List Nat) : Prop := U < 128 ^ (f + 1) ∧ xs0 ++ vb u0 = xs ++ vbF f U
theorem VI.start (xs : List Nat) (u : Nat) (hu : u < 18446744073709551616) : VI xs u 10 u xs := ⟨by simp; omega, rfl⟩
theorem VI.pos {xs0 : List Nat} {u0 f U : Nat} {xs : List Nat} (h : VI xs0 u0 f U xs) (hU : ¬ U < 128) : 0 < f := by
 rcases Nat.eq_zero_or_pos f with rfl | h0
 ·have := h.1; simp at this; omega
 ·exact h0
theorem VI.next {xs0 : List Nat} {u0 f U : Nat} {xs : List Nat} (h : VI xs0 u0 f U xs) (hU : ¬ U < 128) : VI xs0 u0 (f - 1) (U / 128) (xs ++ [U % 128 + 128]) := by
 have hp := h.pos hU
 obtain ⟨g, rfl⟩ : ∃ g, f = g + 1 := ⟨f - 1, by omega⟩
 refine ⟨?_, ?_⟩
 ·have h1 := h.1
  rw [Nat.pow_succ] at h1
  rw [Nat.add_sub_cancel]
  omega
 ·rw [h.2, jiL hU]; simp
theorem VI.done {xs0 : List Nat} {u0 f U : Nat} {xs : List Nat} (h : VI xs0 u0 f U xs) (hU : U < 128) : xs0 ++ vb u0 = xs ++ [U] := by rw [h.2, jgx hU]
theorem VI.len {xs0 : List Nat} {u0 f U : Nat} {xs : List Nat} (h : VI xs0 u0 f U xs) : xs.length + 1 ≤ xs0.length + 11 := by
 have h1 := vbF_len f U
 have h2 := vbF_len 10 u0
 have h3 := congrArg List.length h.2
 simp [vb] at h3
 omega
theorem jeC (v0 : Value) (xs0 : List Nat) (u : Nat) (base : Nat) (w : World) (h : OwnsB w base v0 xs0) (hb : base ≤ w.heap.size) (hu : u < 18446744073709551616) (hl : xs0.length ≤ 1099511627776) :
    Calls Tryz.prog 151 #[v0, .int .u64 u] w fun e w' => ∃ v', e = .returned v' ∧ OwnsB w' base v' (xs0 ++ vb u) ∧ Below base w w' ∧ w.heap.size ≤ w'.heap.size := by
     obtain ⟨i0, hi, hz0, hz1, hz2⟩ := info_parts infoByte
     obtain ⟨ao0, cap0, rfl⟩ := h.form
     go_enter Tryz.func151, Tryz.ntmps151
     go_wp2
     go_loopg [0, 1] 10 (fun f b x wr => ∃ v U xs, b = v ∧ x = .int .u64 (U : Nat) ∧ U < 18446744073709551616 ∧ VI xs0 u f U xs ∧ OwnsB wr base v xs ∧ Below base w wr ∧ w.heap.size ≤ wr.heap.size)
     case atStart => exact ⟨_, u, xs0, rfl, rfl, hu, VI.start _ _ hu, h, Below.refl _ _, Nat.le_refl _⟩
     case round =>
      obtain ⟨v, U, xs, rfl, rfl, hU, hvi, hown, hbel, hsz⟩ := hrel
      obtain ⟨ao, cap, rfl⟩ := hown.form
      have HV := jac hvi
      have HO := jac hown
      have hlen := hvi.len
      clear hvi hown h
      by_cases hsm : U < 128
      ·go_wp2_with (at_builtin; refine wpList_push rfl (.tmp 15) (.tmp 18) 84 5 1 1 _ i0 bcells rfl Tryz.underlying84 hi hz0 hz1 hz2 rfl (by decide) base _ xs rfl (by exact HO.out.more (jab wr _)) wr.heap.size 1 U _ rfl (by exact jcv _ _ _ rfl) rfl rfl (bcells_one U) (by omega) (by simp only [maxLen]; omega) (by simp; omega) ?_; intro v' w5 hown5 hg5)
       go_ret
       exact ⟨_, rfl, by rw [HV.out.done hsm]; exact hown5, (hbel.alloc (by omega) _).trans (jeg (HO.out.more (jab wr _)) (by simp; omega) hg5), by have := hg5.size; simp at this; omega⟩
      ·have hm : bits .or .u8 ((U : Int) % 256) 128 = (U : Int) % 128 + 128 := by
         have h1 := jkZ (U % 256) (by omega)
         have e : U % 256 % 128 = U % 128 := by omega
         rw [e] at h1
         simpa using h1
       go_wp2_with (at_builtin; refine wpList_push rfl (.tmp 7) (.tmp 11) 84 5 1 1 _ i0 bcells rfl Tryz.underlying84 hi hz0 hz1 hz2 rfl (by decide) base _ xs rfl (by exact HO.out.more (jab wr _)) wr.heap.size 1 (U % 128 + 128) _ rfl (by exact jcv _ _ _ rfl) (by simp [bcells]) rfl (bcells_one _) (by omega) (by simp only [maxLen]; omega) (by simp; omega) ?_; intro v' w5 hown5 hg5)
       have hp := HV.out.pos hsm
       go_roundg (gk - 1)
       case measure => omega
       case rel => exact ⟨v', U / 128, _, rfl, by simp, by omega, HV.out.next hsm, hown5, (hbel.alloc (by omega) _).trans (jeg (HO.out.more (jab wr _)) (by simp; omega) hg5), by have := hg5.size; simp at this; omega⟩
theorem varintS_any (u : Nat) (w : World) (hu : u < 18446744073709551616) :
    Calls Tryz.prog 160 #[.int .u64 u] w fun e w' => e = .returned (.string (sof (vb u))) ∧ w.grownBy w' none := by
     have C := jac (jeC (.slice none 0 0) [] u w.heap.size w (OwnsL.nil _ _ _ _ _) (Nat.le_refl _) hu (by simp))
     go_enter Tryz.func160, Tryz.ntmps160
     go_wp2_with fail
     refine C.out.mono ?_
     rintro e w1 ⟨v', rfl, hown, hb, -⟩
     have hcv := conv_own hown
     rw [List.nil_append] at hcv
     go_wp2
     go_ret
     exact ⟨rfl, below_grown hb⟩
end Go.Proofs.YtbgbpfbjeleooaaGreat.Wr
namespace Go.Proofs.YtbgbpfbjeleooaaGreat.Wr
open Go.RowKit
def lo (u : Nat) : Nat → List Nat
 | 0 => []
 | n + 1 => u % 256 :: lo (u / 256) n
theorem jhr (n : Nat) : ∀ u, (lo u n).length = n := by
 induction n with
 | zero => intro u; rfl
 | succ n ih => intro u; simp [lo, ih]
def bytesOf (s : ByteArray) : List Nat := s.data.toList.map UInt8.toNat
theorem jc9 (s : ByteArray) : (bytesOf s).length = s.size := by
 unfold bytesOf
 rw [List.length_map]
 exact Array.length_toList
def jcK (x : Fld) : Nat := x.num.toNat * 8 + x.kind.toNat
def jcl (x : Fld) : List Nat :=
 if x.kind = 0 then vb x.u.toNat else if x.kind = 1 then lo x.u.toNat 8 else if x.kind = 5 then lo x.u.toNat 4 else vb x.b.size ++ bytesOf x.b
def fb (x : Fld) : List Nat := vb (jcK x) ++ jcl x
def fok (x : Fld) : Bool :=
 decide (1 ≤ x.num ∧ x.num ≤ 536870911) && (if x.kind = 0 ∨ x.kind = 1 then decide (x.b.size = 0) else if x.kind = 5 then decide (x.b.size = 0 ∧ x.u < 4294967296) else if x.kind = 2 then decide (x.u = 0) else false)
def FldIn (x : Fld) : Prop := -9223372036854775808 ≤ x.num ∧ x.num ≤ 9223372036854775807 ∧ -9223372036854775808 ≤ x.kind ∧ x.kind ≤ 9223372036854775807 ∧ 0 ≤ x.u ∧ x.u < 18446744073709551616 ∧ x.b.size ≤ 140737488351232
theorem jiM {x : Fld} (h : fok x = true) : 1 ≤ x.num ∧ x.num ≤ 536870911 := by
 unfold fok at h
 simp only [Bool.and_eq_true, decide_eq_true_eq] at h
 exact h.1
theorem jeh {x : Fld} (h : fok x = true) : (x.kind = 0 ∧ x.b.size = 0) ∨ (x.kind = 1 ∧ x.b.size = 0) ∨ (x.kind = 5 ∧ x.b.size = 0 ∧ x.u < 4294967296) ∨ (x.kind = 2 ∧ x.u = 0) := by
 unfold fok at h
 simp only [Bool.and_eq_true] at h
 obtain ⟨_, h⟩ := h
 split at h
 ·rename_i hk
  simp only [decide_eq_true_eq] at h
  omega
 ·split at h
  ·simp only [decide_eq_true_eq] at h; omega
  ·split at h
   ·simp only [decide_eq_true_eq] at h; omega
   ·cases h
theorem jke {x : Fld} (h : fok x = true) : jcK x < 4294967296 ∧ 8 ≤ jcK x ∧ jcK x / 8 = x.num.toNat ∧ jcK x % 8 = x.kind.toNat := by
 have h1 := jiM h
 have h2 := jeh h
 unfold jcK
 omega
theorem jk0 {x : Fld} : 2 ≤ (fb x).length ∧ (fb x).length ≤ 22 + x.b.size := by
 have h1 := vbF_len 10 (jcK x)
 have h2 := vbF_len 10 x.u.toNat
 have h3 := vbF_len 10 x.b.size
 have h4 := jc9 x.b
 have h5 := jhr 8 x.u.toNat
 have h6 := jhr 4 x.u.toNat
 unfold fb jcl vb
 rw [List.length_append]
 split
 ·omega
 ·split
  ·omega
  ·split
   ·omega
   ·rw [List.length_append]; omega
end Go.Proofs.YtbgbpfbjeleooaaGreat.Wr
namespace Go.Proofs.YtbgbpfbjeleooaaGreat.Wr
open Go.RowKit
def s1 : ByteArray := ⟨#[172, 2]⟩
def s2 : ByteArray := ⟨#[8, 150, 1, 18, 2, 97, 98]⟩
def s3 : ByteArray := ⟨#[11]⟩
end Go.Proofs.YtbgbpfbjeleooaaGreat.Wr
namespace Go.Proofs.YtbgbpfbjeleooaaGreat.Wr
theorem sof_size (l : List Nat) : (sof l).size = l.length := by
 unfold sof
 rw [strOfNums_size]; simp
end Go.Proofs.YtbgbpfbjeleooaaGreat.Wr
