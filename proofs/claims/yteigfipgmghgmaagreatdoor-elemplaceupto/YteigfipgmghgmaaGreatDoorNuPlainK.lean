/- What an operation on floats gives, whatever comes: the bits, and how many answers it draws. Nothing here names the program. -/
import Derived.Test.YteigfipgmghgmaaGreatDoorNuPlainU
namespace Go.Proofs.YteigfipgmghgmaaGreatDoor.Nu
open Go.RowKit

/-- The bits that come of an operation, of a NaN the ones that are drawn. -/
def fval (op : BinOp) (k : FloatKind) (x y : Nat) (w : World) : Nat :=
  match floatBits op k x y with
  | some r => r
  | none => (Question.nanBits k x y).cut (w.tape w.drawn (.nanBits k x y))
def fdr (op : BinOp) (k : FloatKind) (x y : Nat) : Nat :=
  match floatBits op k x y with
  | some _ => 0
  | none => 1

theorem run_fval {P : Program} (w : World) (op : BinOp) (t : TypeId) (k : FloatKind) (x y : Nat) (ho : op = .add ∨ op = .sub ∨ op = .mul ∨ op = .quo) :
    (binOp op t (.float k x) (.float k y)).run P w = .ok (.float k (fval op k x y w)) (w.drewN (fdr op k x y)) := by
  cases h : floatBits op k x y with
  | some r => rw [run_float_arith w op t k x y r h]; simp only [fval, fdr, h]; rfl
  | none =>
    simp only [fval, fdr, h]
    unfold floatBits at h
    rcases ho with rfl | rfl | rfl | rfl <;> simp only at h <;> simp [binOp, Op.floatArith, h, Question.forced] <;> rfl

section
variable {P : Program} (w : World) (t : TypeId) (k : FloatKind) (x y : Nat)
theorem run_fadd : (binOp .add t (.float k x) (.float k y)).run P w = .ok (.float k (fval .add k x y w)) (w.drewN (fdr .add k x y)) := run_fval w .add t k x y (by decide)
theorem run_fsub : (binOp .sub t (.float k x) (.float k y)).run P w = .ok (.float k (fval .sub k x y w)) (w.drewN (fdr .sub k x y)) := run_fval w .sub t k x y (by decide)
theorem run_fmul : (binOp .mul t (.float k x) (.float k y)).run P w = .ok (.float k (fval .mul k x y w)) (w.drewN (fdr .mul k x y)) := run_fval w .mul t k x y (by decide)
theorem run_fquo : (binOp .quo t (.float k x) (.float k y)).run P w = .ok (.float k (fval .quo k x y w)) (w.drewN (fdr .quo k x y)) := run_fval w .quo t k x y (by decide)
end

theorem fval_lt (op : BinOp) (x y : Nat) (w : World) : fval op .f32 x y w < 4294967296 := by
  unfold fval
  split
  · rename_i r h
    have := floatBits_wf h
    simpa [Lit.wf] using this
  · exact nb_lt x y _

/-- The bits of a float as one of the other kind. -/
def cq (s k : FloatKind) (b : Nat) : Question := if (s.decode b).isNaN then .nanConv k b else .floatToFloat b
def cval (s k : FloatKind) (b : Nat) (w : World) : Nat :=
  match floatToFloatBits s b k with
  | some r => r
  | none => (cq s k b).cut (w.tape w.drawn (cq s k b))
def cdr (s k : FloatKind) (b : Nat) : Nat :=
  match floatToFloatBits s b k with
  | some _ => 0
  | none => 1

theorem run_cval {P : Program} (w : World) (src dst : TypeId) (s k : FloatKind) (b : Nat) (hs : (P.underlying src).isSome = true) (hd : P.underlying dst = some (.float k)) :
    (convert src dst (.float s b)).run P w = .ok (.float k (cval s k b w)) (w.drewN (cdr s k b)) := by
  cases h : floatToFloatBits s b k with
  | some r => rw [run_convert_float_float w src dst s k b r hs hd h]; simp only [cval, cdr, h]; rfl
  | none =>
    simp only [cval, cdr, h]
    obtain ⟨u, hs'⟩ := Option.isSome_iff_exists.1 hs
    unfold floatToFloatBits at h
    split at h
    · cases h
    · rename_i ne
      split at h
      · rename_i a c he
        cases u <;> simp [convert, run_underlying hs', run_underlying hd, Conv.floatToFloat, ne, he, cq, Ieee.Datum.isNaN, Question.forced] <;> rfl
      · cases h
      · rename_i sg m e he
        split at h
        · rename_i ho
          cases u <;> simp [convert, run_underlying hs', run_underlying hd, Conv.floatToFloat, ne, he, ho, cq, Ieee.Datum.isNaN, Question.forced] <;> rfl
        · cases h

theorem cval_lt (b : Nat) (w : World) : cval .f64 .f32 b w < 4294967296 := by
  unfold cval
  split
  · rename_i r h
    unfold floatToFloatBits at h
    rw [if_neg (by decide)] at h
    split at h
    · cases h
    · cases h; have := encode_wf .f32 (.infinity ‹_›); simpa [Lit.wf] using this
    · split at h
      · cases h
      · cases h; rename_i a b c _ _; have := encode_wf .f32 (.number a b c); simpa [Lit.wf] using this
  · unfold cq
    split
    · exact nb_lt b b _
    · show _ % 2 ^ 32 < _
      exact Nat.mod_lt _ (by decide)

/-- The whole number of a float; and how many answers are drawn for it. -/
def ival (s : FloatKind) (k : IntKind) (b : Nat) (w : World) : Int :=
  match floatToIntVal s b k with
  | some n => n
  | none => k.wrap ((Question.floatToInt s b k).cut (w.tape w.drawn (.floatToInt s b k)))
def idr (s : FloatKind) (k : IntKind) (b : Nat) : Nat :=
  match floatToIntVal s b k with
  | some _ => 0
  | none => 1

theorem run_ival {P : Program} (w : World) (src dst : TypeId) (s : FloatKind) (k : IntKind) (b : Nat) (hs : (P.underlying src).isSome = true) (hd : P.underlying dst = some (.int k)) :
    (convert src dst (.float s b)).run P w = .ok (.int k (ival s k b w)) (w.drewN (idr s k b)) := by
  cases h : floatToIntVal s b k with
  | some r => rw [run_convert_float_int w src dst s k b r hs hd h]; simp only [ival, idr, h]; rfl
  | none =>
    simp only [ival, idr, h]
    obtain ⟨u, hs'⟩ := Option.isSome_iff_exists.1 hs
    unfold floatToIntVal at h
    split at h
    · rename_i m he
      split at h
      · cases h
      · rename_i hb
        cases u <;> simp [convert, run_underlying hs', run_underlying hd, Conv.floatToInt, he, hb, Question.forced] <;> rfl
    · rename_i he
      cases u <;> simp [convert, run_underlying hs', run_underlying hd, Conv.floatToInt, he, Question.forced] <;> rfl
end Go.Proofs.YteigfipgmghgmaaGreatDoor.Nu
