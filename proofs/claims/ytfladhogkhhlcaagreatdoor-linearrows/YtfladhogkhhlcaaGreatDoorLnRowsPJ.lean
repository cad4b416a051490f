/- LinearRows, over plain lists. -/
import Derived.Test.YtfladhogkhhlcaaGreatDoorPartW
namespace Go.Proofs.YtfladhogkhhlcaaGreatDoor
open Go.RowKit

/-- What holds of the shapes and of the elements, once MatMul of two matrices answers. -/
theorem mm_inv {tx ty t : Int} {x y xs ys l zs : List Int} (hx : x.length = 2) (hy : y.length = 2) (h : mmR tx ty x y xs ys = .ok (t, l, zs)) :
    ∃ a k b : Nat, ShpM x y [] a k b ∧ x = [(a : Int), (k : Int)] ∧ y = [(k : Int), (b : Int)] ∧ t = 1 ∧ tx = 1 ∧ ty = 1 ∧ l = [(a : Int), (b : Int)] ∧ zs = matL xs (ytL y ys) 1 a k b ∧ xs.length = a * k ∧ pbE 1 x xs = 0 ∧ pbE 1 y ys = 0 := by
  unfold mmR doR at h
  split at h
  · rename_i ty' l' hn
    obtain ⟨hall, ho⟩ := node_inv hn
    obtain ⟨e1, e2, e3, c1, c2, hp, c3⟩ := outM_inv ho
    cases h
    subst e1 e2 e3
    have ht : Twin x y := by
      match x, y, hx, hy with
      | [p0, q0], [p1, q1], _, _ => exact ⟨[], p0, q0, p1, q1, by simp, rfl, rfl⟩
    obtain ⟨A, a, k, b, hs, hle⟩ := twin_shp ht c1 c2 hp c3
    obtain rfl : A = [] := by
      have := hs.len.1
      rw [hx] at this
      exact List.length_eq_zero_iff.1 (by omega)
    simp only [tq, okT, List.all_cons, List.all_nil, Bool.and_true, Bool.and_eq_true, beq_iff_eq] at hall
    have hxe : x = [(a : Int), (k : Int)] := by have := hs.ex; simpa using this
    have hye : y = [(k : Int), (b : Int)] := by have := hs.ey; simpa using this
    have lx := (pb_inv hall.1).2
    refine ⟨a, k, b, hs, hxe, hye, rfl, rfl, rfl, hle, by rw [hs.mm]; rfl, ?_, hall.1, hall.2⟩
    rw [hxe, show prod [(a : Int), (k : Int)] = ((a * k : Nat) : Int) from by simp [prod]] at lx
    omega
  · cases h

theorem pb_parts {ty : Int} {x xs : List Int} (h : pbE ty x xs = 0) : ty = ty ∧ xs.all (chk ty) = true := by
  refine ⟨rfl, ?_⟩
  unfold pbE at h
  split at h
  · omega
  · split at h
    · rename_i h1; exact absurd h h1
    · split at h
      · omega
      · split at h
        · assumption
        · omega

theorem pb_mk {x xs : List Int} (hc : cntE x = 0) (hl : (xs.length : Int) = prod x) (ha : xs.all (chk 1) = true) : pbE 1 x xs = 0 := by
  unfold pbE
  rw [if_neg (by simp [chk]), if_neg (by simp [hc]), if_neg (by rw [cnt, if_pos hc, hl]; simp), if_pos ha]

/-- MatMul answers where all is well. -/
theorem mm_ok {a k b : Nat} {xs ys : List Int} (hs : ShpM [(a : Int), (k : Int)] [(k : Int), (b : Int)] [] a k b) (px : pbE 1 [(a : Int), (k : Int)] xs = 0) (py : pbE 1 [(k : Int), (b : Int)] ys = 0) : mmR 1 1 [(a : Int), (k : Int)] [(k : Int), (b : Int)] xs ys = .ok (1, [(a : Int), (b : Int)], matL xs (ytL [(k : Int), (b : Int)] ys) 1 a k b) := by
  have hn : nodeP [tq 1 [(a : Int), (k : Int)] xs, tq 1 [(k : Int), (b : Int)] ys] (outM 1 1 [(a : Int), (k : Int)] [(k : Int), (b : Int)] (productP [(a : Int), (k : Int)] [(k : Int), (b : Int)])) = .ok (1, [(a : Int), (b : Int)]) := by
    unfold nodeP
    rw [if_pos (by simp [tq, okT, px, py])]
    have e := prod_twin [] (a : Int) k k b (by decide)
    simp only [List.nil_append, if_true] at e
    rw [e]
    unfold outM
    rw [show countP [(a : Int), (k : Int)] = .ok (prod [(a : Int), (k : Int)]) from if_pos hs.cx, show countP [(k : Int), (b : Int)] = .ok (prod [(k : Int), (b : Int)]) from if_pos hs.cy]
    show (Except.bind (countP [(a : Int), (b : Int)]) fun _ => (Except.ok (1, [(a : Int), (b : Int)]) : R (Int × List Int))) = _
    rw [show countP [(a : Int), (b : Int)] = .ok (prod [(a : Int), (b : Int)]) from if_pos hs.cz]
    rfl
  unfold mmR doR
  rw [hn]
  simp only [hs.mm, Except.map]
  rfl

/-- What LinearRows says. -/
theorem rows_answer {a k b row : Nat} {xs ys : List Int} (hs : ShpM [(a : Int), (k : Int)] [(k : Int), (b : Int)] [] a k b) (px : pbE 1 [(a : Int), (k : Int)] xs = 0) (py : pbE 1 [(k : Int), (b : Int)] ys = 0) (hl : xs.length = a * k) (hr : row < a) :
    mmR 1 1 [1, (k : Int)] [(k : Int), (b : Int)] ((xs.drop (row * k)).take k) ys = .ok (1, [1, (b : Int)], ((matL xs (ytL [(k : Int), (b : Int)] ys) 1 a k b).drop (row * b)).take b) := by
  have F1 := fine_of hs.cx
  have F2 := fine_of hs.cy
  have f1 : (1 : Int) ≤ a := F1.pos _ (by simp)
  have f2 : (1 : Int) ≤ k := F1.pos _ (by simp)
  have f3 : (1 : Int) ≤ b := F2.pos _ (by simp)
  have small : ∀ p q : Nat, (1 : Int) ≤ p → (1 : Int) ≤ q → ∀ r : Nat, (1 : Int) ≤ r → cntE [(r : Int), (q : Int)] = 0 → cntE [((1 : Nat) : Int), (q : Int)] = 0 := by
    intro p q hp hq r hr h
    have F := fine_of h
    refine cntE_ok (by intro z hz; simp at hz; omega) (by simp) ?_
    have h1 := F.le
    simp only [prod, Int.mul_one] at h1 ⊢
    have := le_mul_left hr (show (0 : Int) ≤ q by omega)
    omega
  have c1 : cntE [((1 : Nat) : Int), (k : Int)] = 0 := small 1 k (by omega) f2 a f1 hs.cx
  have c3 : cntE [((1 : Nat) : Int), (b : Int)] = 0 := small 1 b (by omega) f3 a f1 hs.cz
  have hs' : ShpM [((1 : Nat) : Int), (k : Int)] [(k : Int), (b : Int)] [] 1 k b := ⟨rfl, rfl, by simp, c1, hs.cy, c3⟩
  have hrk : row * k + k ≤ a * k := by
    rw [show row * k + k = (row + 1) * k from by rw [Nat.add_mul]; omega]
    exact Nat.mul_le_mul_right _ hr
  have px' : pbE 1 [((1 : Nat) : Int), (k : Int)] ((xs.drop (row * k)).take k) = 0 := by
    refine pb_mk c1 ?_ ?_
    · rw [List.length_take, List.length_drop, hl]
      simp [prod]
      omega
    · rw [List.all_eq_true]
      intro z hz
      exact List.all_eq_true.1 (pb_parts px).2 z (List.mem_of_mem_drop (List.mem_of_mem_take hz))
  have h := mm_ok hs' px' py
  rw [rows_law xs (ytL [(k : Int), (b : Int)] ys) a k b row hr]
  exact h
end Go.Proofs.YtfladhogkhhlcaaGreatDoor
