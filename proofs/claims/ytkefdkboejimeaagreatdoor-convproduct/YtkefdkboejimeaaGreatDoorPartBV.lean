/- Joined texts: CvPm, CvPq. -/
import Derived.Test.YtkefdkboejimeaaGreatDoorPartBU
import Derived.Test.YtkefdkboejimeaaGreatDoorPartAL
import Derived.Test.YtkefdkboejimeaaGreatDoorPartBH
namespace Go.Proofs.YtkefdkboejimeaaGreatDoor

theorem wpl_oneC (W h v : Nat) : wpl W 1 1 h v = [(0, h * W + v)] := by
  simp [wpl]

theorem dotF_snocC : ∀ (a b : List Int) (s x y : Int), a.length = b.length → dotF s (a ++ [x]) (b ++ [y]) = fadd (dotF s a b) (fmul x y)
  | [], [], _, _, _, _ => rfl
  | [], _ :: _, _, _, _, h => by cases h
  | _ :: _, [], _, _, _, h => by cases h
  | p :: a, q :: b, s, x, y, h => by
    show dotF (fadd s (fmul p q)) (a ++ [x]) (b ++ [y]) = fadd (dotF (fadd s (fmul p q)) a b) (fmul x y)
    exact dotF_snocC a b _ x y (Nat.succ.inj h)

def colC (xs : List Int) (S p k : Nat) : List Int := (List.range k).map fun c => xs.getD (c * S + p) 0

def rowC (ys : List Int) (C m k : Nat) : List Int := (List.range k).map fun c => ys.getD (m * C + c) 0

theorem prod_oneC (xs ys : List Int) (S C m p : Nat) (hp : p < S) : ∀ k, k ≤ C → prodW (imgsL xs S C) (kersL ys 1 C m) [(0, p)] k = dotF 0 (colC xs S p k) (rowC ys C m k)
  | 0, _ => rfl
  | k + 1, hk => by
    have ih := prod_oneC xs ys S C m p hp k (by omega)
    have e1 : (imgsL xs S C).getD k [] = imgL xs S k := by simp [imgsL, List.getD, show k < C by omega]
    have e2 : (kersL ys 1 C m).getD k [] = imgL ys 1 (m * C + k) := by simp [kersL, List.getD, show k < C by omega]
    have e3 : colC xs S p (k + 1) = colC xs S p k ++ [xs.getD (k * S + p) 0] := by simp [colC, List.range_succ]
    have e4 : rowC ys C m (k + 1) = rowC ys C m k ++ [ys.getD (m * C + k) 0] := by simp [rowC, List.range_succ]
    rw [e3, e4, dotF_snocC _ _ _ _ _ (by simp [colC, rowC]), ← ih]
    show fadd (prodW (imgsL xs S C) (kersL ys 1 C m) [(0, p)] k) (fmul (((imgsL xs S C).getD k []).getD p 0) (((kersL ys 1 C m).getD k []).getD 0 0)) = _
    rw [e1, e2, imgL_at hp, imgL_at (by omega), Nat.mul_one, Nat.add_zero]

theorem each_flat (g : Nat → Int) (W : Nat) : ∀ H, eachW (fun h v => g (h * W + v)) H W = (List.range (H * W)).map g
  | 0 => by simp [eachW]
  | H + 1 => by
    have ih := each_flat g W H
    have e : eachW (fun h v => g (h * W + v)) (H + 1) W = eachW (fun h v => g (h * W + v)) H W ++ (List.range W).map (fun v => g (H * W + v)) := by simp [eachW, List.range_succ]
    rw [e, ih, Nat.succ_mul, List.range_add, List.map_append, List.map_map]
    rfl

theorem eachW_congr {f g : Nat → Nat → Int} {oh ow : Nat} (h : ∀ i k, i < oh → k < ow → f i k = g i k) : eachW f oh ow = eachW g oh ow := by
  unfold eachW
  refine congrArg List.flatten (List.map_congr_left fun i hi => List.map_congr_left fun k hk => ?_)
  exact h i k (List.mem_range.1 hi) (List.mem_range.1 hk)

theorem mat_at (xs ys : List Int) (P C M p m : Nat) (hp : p < P) (hm : m < M) : (matL xs ys 1 P C M).getD (p * M + m) 0 = dotF 0 ((xs.drop (p * C)).take C) ((ys.drop (m * C)).take C) := by
  rw [mat_one]
  have h := tms_row (blk xs 0 P C) (blk ys 0 M C) p (by rw [blk_length]; exact hp)
  rw [blk_length, blk_row _ _ _ _ _ hp] at h
  have e1 : (((tms (blk xs 0 P C) (blk ys 0 M C)).drop (p * M)).take M).getD m 0 = (tms (blk xs 0 P C) (blk ys 0 M C)).getD (p * M + m) 0 := by
    simp only [List.getD]
    rw [List.getElem?_take_of_lt hm, List.getElem?_drop]
  rw [← e1, h]
  simp [blk, List.getD, hm]

theorem take_rowC {ys : List Int} {C M m : Nat} (hl : ys.length = M * C) (hm : m < M) : (ys.drop (m * C)).take C = rowC ys C m C := by
  have h2 := Nat.mul_le_mul_right C hm
  rw [Nat.succ_mul] at h2
  refine List.ext_getElem (by simp [rowC]; omega) fun i h1 h3 => ?_
  have hi : i < C := by simp [rowC] at h3; exact h3
  simp [rowC, List.getD, show m * C + i < ys.length by omega]

theorem product_law (xs ys : List Int) (H W C M : Nat) (hl : ys.length = M * C) : convL xs ys H W 1 1 H W C M = trn (H * W) M (matL (trn C (H * W) xs) (trn C M (trn M C ys)) 1 (H * W) C M) := by
  rw [trn_trn M C ys hl]
  unfold convL trn
  refine congrArg List.flatten (List.map_congr_left fun m hm => ?_)
  have hm := List.mem_range.1 hm
  rw [eachW_congr (g := fun h v => (fun p => dotF 0 (colC xs (H * W) p C) (rowC ys C m C)) (h * W + v)) (fun h v hh hv => ?_), each_flat (fun p => dotF 0 (colC xs (H * W) p C) (rowC ys C m C)) W H]
  · refine List.map_congr_left fun p hp => ?_
    have hp := List.mem_range.1 hp
    show _ = (matL (trn C (H * W) xs) ys 1 (H * W) C M).getD (p * M + m) 0
    rw [mat_at _ _ _ _ _ _ _ hp hm, trn_row _ _ _ _ hp, take_rowC hl hm]
    rfl
  · rw [wpl_oneC, prod_oneC xs ys (H * W) C m (h * W + v) ?_ C (Nat.le_refl _)]
    have h2 := Nat.mul_le_mul_right W hh
    rw [Nat.succ_mul] at h2
    omega

end Go.Proofs.YtkefdkboejimeaaGreatDoor

namespace Go.Proofs.YtkefdkboejimeaaGreatDoor

theorem tr_okC {k b : Nat} {xs : List Int} (cx : cntE [(k : Int), (b : Int)] = 0) (cl : cntE [(b : Int), (k : Int)] = 0) (px : pbE 1 [(k : Int), (b : Int)] xs = 0) : trR 1 [(k : Int), (b : Int)] xs = .ok (1, [(b : Int), (k : Int)], trn k b xs) := by
  have hn : nodeP [tq 1 [(k : Int), (b : Int)] xs] (outT 1 [(k : Int), (b : Int)] (transposedP ⟨⟨#[84, 114, 97, 110, 115, 112, 111, 115, 101]⟩, [], []⟩ [(k : Int), (b : Int)])) = .ok (1, [(b : Int), (k : Int)]) := by
    unfold nodeP
    rw [if_pos (by simp [tq, okT, px]), trans_two]
    unfold outT
    rw [show countP [(k : Int), (b : Int)] = .ok (prod [(k : Int), (b : Int)]) from if_pos cx]
    show (Except.bind (countP [(b : Int), (k : Int)]) fun _ => (Except.ok (1, [(b : Int), (k : Int)]) : R (Int × List Int))) = _
    rw [show countP [(b : Int), (k : Int)] = .ok (prod [(b : Int), (k : Int)]) from if_pos cl]
    rfl
  unfold trR doR
  rw [hn]
  simp only [yt_two cx (pb_inv px).2, Except.map]

theorem cnt_two {a b : Nat} (ha : 1 ≤ a) (hb : 1 ≤ b) (h : a * b ≤ 65536) : cntE [(a : Int), (b : Int)] = 0 := by
  refine cntE_ok (fun z hz => ?_) (by simp) ?_
  · simp only [List.mem_cons, List.not_mem_nil, or_false] at hz
    rcases hz with rfl | rfl <;> omega
  · have e : prod [(a : Int), (b : Int)] = ((a * b : Nat) : Int) := by simp [prod]
    rw [e]
    omega

theorem pb_two {a b : Nat} {xs : List Int} (hc : cntE [(a : Int), (b : Int)] = 0) (hl : xs.length = a * b) (ha : ∀ z ∈ xs, Nu.chk 1 z = true) : pbE 1 [(a : Int), (b : Int)] xs = 0 := by
  refine pb_mk hc ?_ (List.all_eq_true.2 ha)
  rw [hl]
  simp [prod]

theorem trn_chk {k b : Nat} {xs : List Int} (h : ∀ z ∈ xs, Nu.chk 1 z = true) : ∀ z ∈ trn k b xs, Nu.chk 1 z = true := by
  intro z hz
  unfold trn at hz
  obtain ⟨j, -, hz⟩ := List.mem_flatMap.1 hz
  obtain ⟨i, -, rfl⟩ := List.mem_map.1 hz
  by_cases hi : i * b + j < xs.length
  · rw [List.getD, List.getElem?_eq_getElem hi, Option.getD_some]
    exact h _ (List.getElem_mem _)
  · rw [List.getD, List.getElem?_eq_none (by omega)]
    decide

theorem turned_convC {xs ys : List Int} {C M H W P : Nat} (hP : P = H * W) (C1 : 1 ≤ C) (M1 : 1 ≤ M) (P1 : 1 ≤ P) (b1 : C * P ≤ 65536) (b2 : M * C ≤ 65536) (b3 : M * P ≤ 65536) (lx : xs.length = C * P) (ly : ys.length = M * C) (hx : ∀ z ∈ xs, Nu.chk 1 z = true) (hy : ∀ z ∈ ys, Nu.chk 1 z = true) :
    ∃ B : List Int, trR 1 [(C : Int), (P : Int)] xs = .ok (1, [(P : Int), (C : Int)], trn C P xs) ∧ trR 1 [(M : Int), (C : Int)] ys = .ok (1, [(C : Int), (M : Int)], trn M C ys) ∧ mmR 1 1 [(P : Int), (C : Int)] [(C : Int), (M : Int)] (trn C P xs) (trn M C ys) = .ok (1, [(P : Int), (M : Int)], B) ∧ trR 1 [(P : Int), (M : Int)] B = .ok (1, [(M : Int), (P : Int)], convL xs ys H W 1 1 H W C M) := by
  have c1 := cnt_two C1 P1 b1
  have c2 := cnt_two P1 C1 (by rw [Nat.mul_comm]; exact b1)
  have c3 := cnt_two M1 C1 b2
  have c4 := cnt_two C1 M1 (by rw [Nat.mul_comm]; exact b2)
  have c5 := cnt_two M1 P1 b3
  have c6 := cnt_two P1 M1 (by rw [Nat.mul_comm]; exact b3)
  have lt : (trn M C ys).length = C * M := trn_length _ _ _
  refine ⟨matL (trn C P xs) (ytL [(C : Int), (M : Int)] (trn M C ys)) 1 P C M, tr_okC c1 c2 (pb_two c1 lx hx), tr_okC c3 c4 (pb_two c3 ly hy), mm_ok ⟨rfl, rfl, by simp, c2, c4, c6⟩ (pb_two c2 (trn_length _ _ _) (trn_chk hx)) (pb_two c4 lt (trn_chk hy)), ?_⟩
  have lm : (matL (trn C P xs) (ytL [(C : Int), (M : Int)] (trn M C ys)) 1 P C M).length = P * M := by rw [mat_one, tms_length, blk_length, blk_length]
  rw [tr_okC c6 c5 (pb_two c6 lm (fun z hz => (mat_all _ _ _ _ _ _ z hz).1)), yt_two c4 (by rw [lt]; simp [prod]), product_law xs ys H W C M ly, hP]

theorem product_answerC {tx ty t : Int} {x y xs ys l zs : List Int} (hx0 : x.getD 0 0 = 1) (hy2 : y.getD 2 0 = 1) (hy3 : y.getD 3 0 = 1) (h : cvG tx ty x y xs ys = .ok (t, l, zs)) :
    ∃ (C M H W P : Nat) (B : List Int), x = [1, (C : Int), H, W] ∧ y = [(M : Int), C, 1, 1] ∧ tx = 1 ∧ ty = 1 ∧ P = H * W ∧ P ≤ 65536 ∧ xs.length = C * P ∧ ys.length = M * C ∧ zs.length = M * P ∧ trR 1 [(C : Int), (P : Int)] xs = .ok (1, [(P : Int), (C : Int)], trn C P xs) ∧ trR 1 [(M : Int), (C : Int)] ys = .ok (1, [(C : Int), (M : Int)], trn M C ys) ∧ mmR 1 1 [(P : Int), (C : Int)] [(C : Int), (M : Int)] (trn C P xs) (trn M C ys) = .ok (1, [(P : Int), (M : Int)], B) ∧ trR 1 [(P : Int), (M : Int)] B = .ok (1, [(M : Int), (P : Int)], zs) := by
  unfold cvG doR at h
  split at h
  · rename_i ty' l' hn
    obtain ⟨hall, ho⟩ := node_inv hn
    obtain ⟨-, rfl, rfl, cx, cy, hp, cl⟩ := outM_inv ho
    cases h
    simp only [tq, okT, List.all_cons, List.all_nil, Bool.and_true, Bool.and_eq_true, beq_iff_eq] at hall
    obtain ⟨D0, C, M, H, W, kh, kw, oh, ow, Q⟩ := conv_inv (fine_of cx) (fine_of cy) (by kernel_rfl) (by kernel_rfl) (by kernel_rfl) (by kernel_rfl) hp
    have lx := xs_len Q.ex (pb_inv hall.1).2
    have ly := xs_len Q.ey (pb_inv hall.2).2
    have hbx : xs.length ≤ 65536 := by have h1 := (pb_inv hall.1).2; have h2 := (fine_of cx).le; omega
    have hby : ys.length ≤ 65536 := by have h1 := (pb_inv hall.2).2; have h2 := (fine_of cy).le; omega
    have h2 := (fine_of cl).le
    rw [Q.ex] at hx0
    rw [Q.ey] at hy2 hy3
    simp only [List.getD_cons_zero, List.getD_cons_succ] at hx0 hy2 hy3
    obtain rfl : D0 = 1 := by omega
    obtain rfl : kh = 1 := by omega
    obtain rfl : kw = 1 := by omega
    obtain rfl : oh = H := by have := Q.e1; omega
    obtain rfl : ow = W := by have := Q.e2; omega
    rw [Q.el, show prod [((1 : Nat) : Int), M, oh, ow] = ((M * (oh * ow) : Nat) : Int) from by simp [prod]] at h2
    rw [Nat.one_mul] at lx
    rw [Nat.mul_one] at ly
    have P1 : 1 ≤ oh * ow := Nat.mul_le_mul Q.o1 Q.o2
    rw [cvX_eq Q]
    obtain ⟨B, r1, r2, r3, r4⟩ := turned_convC (H := oh) (W := ow) rfl Q.c1 Q.m1 P1 (by omega) (by omega) (by omega) lx ly (List.all_eq_true.1 (pb_parts hall.1).2) (List.all_eq_true.1 (pb_parts hall.2).2)
    exact ⟨C, M, oh, ow, oh * ow, B, Q.ex, Q.ey, rfl, rfl, rfl, by have h9 := Nat.le_mul_of_pos_left (oh * ow) Q.c1; omega, lx, ly, by rw [convL_len], r1, r2, r3, r4⟩
  · cases h

end Go.Proofs.YtkefdkboejimeaaGreatDoor
