/- Offset, by the walk: of the code, and the document's. -/
import Derived.Test.YteigfipgmghgmaaGreatDoorSCrd
namespace Go.Proofs.YteigfipgmghgmaaGreatDoor
open Go.RowKit

def offE (zs cs : List Int) : Int := if cntE zs ≠ 0 then cntE zs else if inside zs cs = true then 0 else 1
def offN (zs cs : List Int) : Int := if offE zs cs = 0 then offs zs cs else 0

theorem inside_length : ∀ {zs cs : List Int}, inside zs cs = true → cs.length = zs.length
  | [], [], _ => rfl
  | z :: zs, x :: cs, h => by
    simp only [inside, Bool.and_eq_true] at h
    simpa using inside_length h.2
  | [], _ :: _, h => by simp [inside] at h
  | _ :: _, [], h => by simp [inside] at h

theorem inside_of : ∀ {zs cs : List Int}, cs.length = zs.length → (∀ t, t < zs.length → 0 ≤ cs.getD t 0 ∧ cs.getD t 0 < zs.getD t 0) → inside zs cs = true
  | [], [], _, _ => rfl
  | z :: zs, x :: cs, hl, h => by
    have h0 := h 0 (by simp)
    simp [List.getD] at h0
    simp only [inside, Bool.and_eq_true, decide_eq_true_eq]
    refine ⟨h0, inside_of (by simpa using hl) fun t ht => ?_⟩
    have := h (t + 1) (by simpa using ht)
    simpa [List.getD] using this
  | [], _ :: _, hl, _ => by simp at hl
  | _ :: _, [], hl, _ => by simp at hl

theorem inside_at : ∀ {zs cs : List Int}, inside zs cs = true → ∀ t, t < zs.length → 0 ≤ cs.getD t 0 ∧ cs.getD t 0 < zs.getD t 0
  | z :: zs, x :: cs, h, t, ht => by
    simp only [inside, Bool.and_eq_true, decide_eq_true_eq] at h
    cases t with
    | zero => simpa [List.getD] using h.1
    | succ t =>
      have := inside_at h.2 t (by simpa using ht)
      simpa [List.getD] using this
  | [], _, _, t, ht => by simp at ht
  | _ :: _, [], h, _, _ => by simp [inside] at h

theorem offs_drop_step {zs cs : List Int} (hl : cs.length = zs.length) {k : Nat} (hk : k < zs.length) :
    offs (zs.drop k) (cs.drop k) = cs.getD k 0 * (strd zs).getD k 0 + offs (zs.drop (k + 1)) (cs.drop (k + 1)) := by
  rw [drop_step zs k hk, drop_step cs k (by omega), strd_at zs k hk]
  rfl

theorem offs_snoc : ∀ (zs cs : List Int) (d c : Int), cs.length = zs.length → offs (zs ++ [d]) (cs ++ [c]) = offs zs cs * d + c
  | [], [], d, c, _ => by simp [offs, prod]
  | z :: zs, x :: cs, d, c, hl => by
    have ih := offs_snoc zs cs d c (by simpa using hl)
    simp only [List.cons_append, offs, ih, prod_append, prod, Int.mul_one, Int.add_mul, Int.mul_assoc]
    omega
  | [], _ :: _, _, _, hl => by simp at hl
  | _ :: _, [], _, _, hl => by simp at hl

theorem offs_lt : ∀ {zs cs : List Int}, inside zs cs = true → 0 ≤ offs zs cs ∧ offs zs cs < prod zs
  | [], [], _ => by simp [offs, prod]
  | z :: zs, x :: cs, h => by
    simp only [inside, Bool.and_eq_true, decide_eq_true_eq] at h
    obtain ⟨h1, h2⟩ := offs_lt h.2
    have h3 : 0 ≤ x * prod zs := Int.mul_nonneg h.1.1 (by omega)
    have h4 : (x + 1) * prod zs ≤ z * prod zs := Int.mul_le_mul_of_nonneg_right (by omega) (by omega)
    rw [Int.add_mul, Int.one_mul] at h4
    simp only [offs, prod]
    omega
  | [], _ :: _, h => by simp [inside] at h
  | _ :: _, [], h => by simp [inside] at h

theorem inside_take {zs cs : List Int} {k : Nat} (hl : cs.length = zs.length) (hk : k ≤ zs.length) (h : ∀ t, t < k → 0 ≤ cs.getD t 0 ∧ cs.getD t 0 < zs.getD t 0) : inside (zs.take k) (cs.take k) = true := by
  refine inside_of (by simp; omega) fun t ht => ?_
  have ht' : t < k := by simp at ht; omega
  have := h t ht'
  simpa [List.getD, ht'] using this

theorem not_inside {zs cs : List Int} {k : Nat} (hk : k < zs.length) {c d : Int} (hc : c = cs.getD k 0) (hd : d = zs.getD k 0) (h : c < 0 ∨ d ≤ c) : inside zs cs = false := by
  rw [Bool.eq_false_iff]
  intro hi
  have := inside_at hi k hk
  omega

theorem ret_off {zs cs : List Int} {e n : Int} (he : offE zs cs = e) (hn : offN zs cs = n) : Ending.returned (.tuple #[.int .i64 n, .int .i64 e]) = Ending.returned (.tuple #[.int .i64 (offN zs cs), .int .i64 (offE zs cs)]) := by rw [he, hn]

theorem ret_off1 {zs cs : List Int} (hE : cntE zs = 0) (hi : inside zs cs = false) : Ending.returned (.tuple #[.int .i64 0, .int .i64 1]) = Ending.returned (.tuple #[.int .i64 (offN zs cs), .int .i64 (offE zs cs)]) := by
  have e1 : offE zs cs = 1 := by simp [offE, hE, hi]
  exact ret_off e1 (by simp [offN, e1])

theorem ret_off0 {zs cs : List Int} (hE : cntE zs = 0) (hi : inside zs cs = true) {n : Int} (hn : n = offs zs cs) : Ending.returned (.tuple #[.int .i64 n, .int .i64 0]) = Ending.returned (.tuple #[.int .i64 (offN zs cs), .int .i64 (offE zs cs)]) := by
  have e1 : offE zs cs = 0 := by simp [offE, hE, hi]
  exact ret_off e1 (by simp [offN, e1, hn])

/-- c times the stride there. -/
theorem step_le {zs : List Int} (hF : Fine zs) {k : Nat} (hk : k < zs.length) {c : Int} (h0 : 0 ≤ c) (h1 : c < zs.getD k 0) : 0 ≤ c * (strd zs).getD k 0 ∧ c * (strd zs).getD k 0 ≤ 65536 := by
  rw [strd_at zs k hk]
  have hp := (hF.drop (k + 1)).prod_pos
  have hl := (hF.drop k).le
  rw [prod_drop_step zs k hk] at hl
  have h3 : 0 ≤ c * prod (zs.drop (k + 1)) := Int.mul_nonneg h0 (by omega)
  have h4 : c * prod (zs.drop (k + 1)) ≤ zs.getD k 0 * prod (zs.drop (k + 1)) := Int.mul_le_mul_of_nonneg_right (by omega) (by omega)
  omega

end Go.Proofs.YteigfipgmghgmaaGreatDoor
