/- ElemDouble, over plain lists; and what Mul does at a place. -/
import Derived.Test.YtnifbdcgobnjeaaGreatDoorPartV
import Derived.Deep.QuietTactic
import Derived.BigQuiet
namespace Go.Proofs.YtnifbdcgobnjeaaGreatDoor
open Go.RowKit

set_option maxRecDepth 100000 in
set_option maxHeartbeats 4000000 in
theorem work2_Mul (n : Nod) (hop : n.op = ⟨#[77, 117, 108]⟩) (p1 p2 B : Nat) (ub uo un uc : Nat) (ty x y : Int) (w : World) (hn : w.heap[p1]? = some (.cells #[.string n.op, .string n.name, .slice n.iv.a n.iv.n n.iv.c, .string n.out, .slice n.av.a n.av.n n.av.c] 35 (0, 0))) (hi : w.heap[p2]? = some (.cells #[.slice (some ⟨ub, uo, none⟩) un uc] 27 (0, 0))) (hun : 0 < un) (ht : w.cell? ⟨ub, uo, none⟩ = some (.int .i64 ty)) (hx : w.cell? ⟨B, 0, none⟩ = some (.int .i64 x)) (hy : w.cell? ⟨B, 1, none⟩ = some (.int .i64 y)) :
    Calls Tryz.prog 21 #[.slice (some ⟨B, 0, none⟩) 2 2, .pointer (some ⟨p1, 0, none⟩), .pointer (some ⟨p2, 0, none⟩)] w fun e w' => e = .returned (.tuple #[.int .i64 (Nu.bin 2 ty x y).1, .int .i64 (Nu.bin 2 ty x y).2]) ∧ ∃ q, w' = w.drewN q := by
  obtain ⟨n0, -, -, -, -⟩ := nod_cells hn
  rw [hop] at n0
  have c8 := one_cell hi
  have hun' : (0 : Int) < (un : Int) := by omega
  have i1 : (1 : Int) < 2 := by decide
  have i0 : (0 : Int) < 2 := by decide
  have BB := hide (fun (wx : World) => Nu.binary2 ty x y wx)
  clear hn hi hop
  go_enter Tryz.func21, Tryz.ntmps21
  go_wp2_with fail
  go_quiet (first | (go_at_call 22; refine (BB.out _).mono ?_; rintro e w' ⟨rfl, q, rfl⟩; exact ⟨rfl, _, World.drewN_drewN _ _ _⟩) | fail)
  go_wp2
  go_ret2
  exact ⟨rfl, _, rfl⟩

theorem wMul : Work2 ⟨#[77, 117, 108]⟩ 2 := fun n hop p1 p2 B ub uo un uc ty x y w hn hi hun ht hx hy => work2_Mul n hop p1 p2 B ub uo un uc ty x y w hn hi hun ht hx hy

theorem log2_scaled (m j : Nat) (h : m ≠ 0) : (m * 2 ^ j).log2 = m.log2 + j := by
  have h1 := Nat.log2_self_le h
  have h2 : m < 2 ^ (m.log2 + 1) := Nat.lt_log2_self
  have p := Nat.two_pow_pos j
  have h0 : m * 2 ^ j ≠ 0 := Nat.mul_ne_zero h (by omega)
  rw [Nat.log2_eq_iff h0]
  constructor
  · rw [Nat.pow_add]; exact Nat.mul_le_mul_right _ h1
  · have := Nat.mul_lt_mul_of_pos_right h2 p
    rw [show m.log2 + j + 1 = m.log2 + 1 + j from by omega, Nat.pow_add]
    exact this

theorem cut_nil (way : Ieee.Toward) (s : Bool) (n : Nat) : way.cut s n 0 = n := by
  unfold Ieee.Toward.cut
  have e : min 0 (n.log2 + 2) = 0 := by omega
  rw [e]
  have e2 : (1 : Nat) <<< 0 = 1 := rfl
  rw [e2]
  simp only [Nat.mod_one, Nat.div_one]
  cases way <;> simp

/-- A cut hangs on the value alone. -/
theorem cut_scaled (way : Ieee.Toward) (s : Bool) (n j d : Nat) (hn : n ≠ 0) : way.cut s (n * 2 ^ j) (d + j) = way.cut s n d := by
  unfold Ieee.Toward.cut
  rw [log2_scaled n j hn]
  have p := Nat.two_pow_pos j
  have eg : (1 : Nat) <<< min (d + j) (n.log2 + j + 2) = (1 <<< min d (n.log2 + 2)) * 2 ^ j := by
    rw [Nat.shiftLeft_eq, Nat.shiftLeft_eq, Nat.one_mul, Nat.one_mul, ← Nat.pow_add]
    congr 1
    omega
  rw [eg]
  generalize (1 : Nat) <<< min d (n.log2 + 2) = g
  have e1 : n * 2 ^ j / (g * 2 ^ j) = n / g := Nat.mul_div_mul_right _ _ p
  have e2 : n * 2 ^ j % (g * 2 ^ j) = n % g * 2 ^ j := Nat.mul_mod_mul_right _ _ _
  simp only [e1, e2]
  generalize n % g = r
  generalize n / g = l
  generalize 2 ^ j = q at p
  have c1 : (g * q < 2 * (r * q)) ↔ (g < 2 * r) := by
    rw [← Nat.mul_assoc]; exact Nat.mul_lt_mul_right p
  have c2 : (g * q == 2 * (r * q)) = (g == 2 * r) := by
    rw [← Nat.mul_assoc, Bool.eq_iff_iff, beq_iff_eq, beq_iff_eq]
    exact ⟨fun e => Nat.eq_of_mul_eq_mul_right p e, fun e => by rw [e]⟩
  have c3 : (r * q != 0) = (r != 0) := by
    rw [Bool.eq_iff_iff, bne_iff_ne, bne_iff_ne]
    exact ⟨fun e h => e (by rw [h, Nat.zero_mul]), fun e => Nat.mul_ne_zero e (by omega)⟩
  cases way <;> simp [c1, c2, c3]

theorem cut_exact (way : Ieee.Toward) (s : Bool) (n j d : Nat) (hn : n ≠ 0) (h : d ≤ j) : way.cut s (n * 2 ^ j) d = n * 2 ^ (j - d) := by
  have e : n * 2 ^ j = n * 2 ^ (j - d) * 2 ^ d := by
    rw [Nat.mul_assoc, ← Nat.pow_add]; congr 2; omega
  rw [e]
  have h0 : n * 2 ^ (j - d) ≠ 0 := Nat.mul_ne_zero hn (by have := Nat.two_pow_pos (j - d); omega)
  have := cut_scaled way s (n * 2 ^ (j - d)) d 0 h0
  rw [Nat.zero_add] at this
  rw [this, cut_nil]

/-- A number shifted and cut: by its value alone. -/
theorem cut_place (way : Ieee.Toward) (s : Bool) (m j : Nat) (p : Int) (hm : m ≠ 0) : way.cut s ((m * 2 ^ j) <<< p.toNat) (-p).toNat = way.cut s (m <<< (p + j).toNat) (-(p + j)).toNat := by
  rw [Nat.shiftLeft_eq, Nat.shiftLeft_eq]
  by_cases h1 : 0 ≤ p
  · have a1 : (-p).toNat = 0 := by omega
    have a2 : (-(p + (j : Int))).toNat = 0 := by omega
    have a3 : (p + (j : Int)).toNat = j + p.toNat := by omega
    rw [a1, a2, a3, cut_nil, cut_nil, Nat.mul_assoc, ← Nat.pow_add]
  · have a1 : p.toNat = 0 := by omega
    rw [a1, Nat.pow_zero, Nat.mul_one]
    by_cases h2 : 0 ≤ p + (j : Int)
    · have a2 : (-(p + (j : Int))).toNat = 0 := by omega
      rw [a2, cut_nil, cut_exact way s m j (-p).toNat hm (by omega)]
      congr 2
      omega
    · have a2 : (p + (j : Int)).toNat = 0 := by omega
      have a3 : (-p).toNat = (-(p + (j : Int))).toNat + j := by omega
      rw [a2, Nat.pow_zero, Nat.mul_one, a3, cut_scaled way s m j _ hm]

/-- The nearest word hangs on the value alone. -/
theorem nearest_scaled (f : Ieee.Format) (s : Bool) (m j : Nat) (p : Int) (hm : m ≠ 0) : f.nearest s (m * 2 ^ j) p = f.nearest s m (p + j) := by
  have h0 : m * 2 ^ j ≠ 0 := Nat.mul_ne_zero hm (by have := Nat.two_pow_pos j; omega)
  unfold Ieee.Format.nearest
  rw [if_neg h0, if_neg hm, log2_scaled m j hm]
  have e1 : p + ((m.log2 + j : Nat) : Int) - (f.fractionBits : Int) = p + (j : Int) + (m.log2 : Int) - (f.fractionBits : Int) := by omega
  simp only [e1]
  generalize max (p + (j : Int) + (m.log2 : Int) - (f.fractionBits : Int)) f.leastPlace = last
  have e2 := cut_place .even s m j (p - last) hm
  rw [show -(p - last) = last - p from by omega, show p - last + (j : Int) = p + j - last from by omega, show -(p + (j : Int) - last) = last - (p + j) from by omega] at e2
  rw [e2]

/-- What a number is, made whole downwards. -/
def fl (s : Bool) (m : Nat) (i : Int) : Nat := Ieee.Toward.down.cut s (m <<< i.toNat) (-i).toNat

theorem near_nilD (f : Ieee.Format) (s : Bool) (p : Int) : f.nearest s 0 p = f.word s 0 := by unfold Ieee.Format.nearest; rw [if_pos rfl]

theorem dbl_bits (b : Nat) : floatBits .add .f32 b b = floatBits .mul .f32 b 1073741824 := by
  have h2 : FloatKind.f32.format.read 1073741824 = .number false 8388608 (-22) := by decide +kernel
  show ((FloatKind.f32.format.read b).sum (FloatKind.f32.format.read b)).map FloatKind.f32.format.write = ((FloatKind.f32.format.read b).product (FloatKind.f32.format.read 1073741824)).map FloatKind.f32.format.write
  rw [h2]
  cases FloatKind.f32.format.read b with
  | nan s q => rfl
  | infinity s => simp [Ieee.Datum.sum, Ieee.Datum.product]
  | number s m i =>
    simp only [Ieee.Datum.sum, Ieee.Datum.product, Option.map_some, Ieee.Format.write, Int.min_self, Int.sub_self, Int.toNat_zero, Bool.xor_false, Bool.and_self]
    congr 1
    by_cases hm : m = 0
    · subst hm
      simp [Ieee.signed, near_nilD]
    · have e1 : (Ieee.signed s m 0 + Ieee.signed s m 0).natAbs = m * 2 ^ 1 := by
        unfold Ieee.signed
        cases s <;> simp <;> omega
      have e2 : (if Ieee.signed s m 0 + Ieee.signed s m 0 = 0 then s else decide (Ieee.signed s m 0 + Ieee.signed s m 0 < 0)) = s := by
        unfold Ieee.signed
        cases s
        · simp; omega
        · simp; omega
      rw [e1, e2, show m * 8388608 = m * 2 ^ 23 from rfl, nearest_scaled _ _ _ _ _ hm, nearest_scaled _ _ _ _ _ hm]
      congr 1
      omega

theorem dbl_el (a : Int) : Nu.bin 0 1 a a = Nu.bin 2 1 a 1073741824 := by
  unfold Nu.bin
  rw [show Nu.chk 1 1073741824 = true from by decide, Bool.and_true, Bool.and_self]
  split
  · rw [if_pos rfl, if_pos rfl]
    simp only [Nu.binFl]
    rw [show Nu.fb 1073741824 = 1073741824 from by decide, dbl_bits]
  · rfl

theorem tob_rng (o : Option Nat) (h : ∀ r, o = some r → r < 4294967296) : -9223372036854775808 ≤ Nu.tobO o ∧ Nu.tobO o ≤ 9223372036854775807 := by
  cases o with
  | none => simp [Nu.tobO]
  | some r =>
    have := h r rfl
    simp only [Nu.tobO, Nu.tob]
    split
    · omega
    · omega

theorem bits_lt {op : BinOp} {x y r : Nat} (h : floatBits op .f32 x y = some r) : r < 4294967296 := by
  have := floatBits_wf h
  simpa [Lit.wf] using this

theorem add1_rng (a b : Int) : -9223372036854775808 ≤ (Nu.bin 0 1 a b).1 ∧ (Nu.bin 0 1 a b).1 ≤ 9223372036854775807 := by
  unfold Nu.bin
  split
  · exact tob_rng _ fun r h => bits_lt h
  · simp

theorem mul1_rng (a b : Int) : -9223372036854775808 ≤ (Nu.bin 2 1 a b).1 ∧ (Nu.bin 2 1 a b).1 ≤ 9223372036854775807 := by
  unfold Nu.bin
  split
  · exact tob_rng _ fun r h => bits_lt h
  · simp

theorem evL_congr {F G : List Int → Int × Int} {cs ds : List (List Int)} : ∀ (m k : Nat), (∀ j, k ≤ j → j < k + m → F (cs.map (·.getD j 0)) = G (ds.map (·.getD j 0))) → evL F cs k m = evL G ds k m
  | 0, _, _ => rfl
  | m + 1, k, h => by
    have ih := evL_congr (F := F) (G := G) (cs := cs) (ds := ds) m (k + 1) (fun j h1 h2 => h j (by omega) (by omega))
    simp only [evL]
    rw [h k (Nat.le_refl _) (by omega), ih]

theorem bh_nil (k : Nat) : bh [] k = 1 := by simp [bh]

theorem bc_nil {x : List Int} (h : cntE x = 0) : bcE x [] = 0 ∧ bcR x [] = x ∧ bcE [] x = 0 ∧ bcR [] x = x := by
  have hf := fine_of h
  have pos : ∀ k, k < x.length → 1 ≤ bh x k := by
    intro k hk
    simp only [bh]
    rw [List.getD, List.getElem?_eq_getElem (by omega)]
    simp
    split
    · omega
    · exact hf.pos _ (List.getElem_mem _)
  have l1 : ∀ k, k ≤ x.length → bcL x [] k = bcL x x k ∧ bcL [] x k = bcL x x k := by
    intro k
    induction k with
    | zero => intro _; exact ⟨rfl, rfl⟩
    | succ k ih =>
      intro hk
      obtain ⟨i1, i2⟩ := ih (by omega)
      have := pos k (by omega)
      simp only [bcL, bh_nil, i1, i2]
      constructor <;> congr 1 <;> omega
  have b1 : ∀ k, bcBad x [] k = false ∧ bcBad [] x k = false := by
    intro k
    induction k with
    | zero => exact ⟨rfl, rfl⟩
    | succ k ih => simp [bcBad, apartAt, bh_nil, ih.1, ih.2]
  have e1 : bcL x [] (rank x []) = x := by
    rw [rank, List.length_nil, Nat.max_zero, (l1 _ (Nat.le_refl _)).1, bcL_self x _ (Nat.le_refl _)]
    simp
  have e2 : bcL [] x (rank [] x) = x := by
    rw [rank, List.length_nil, Nat.zero_max, (l1 _ (Nat.le_refl _)).2, bcL_self x _ (Nat.le_refl _)]
    simp
  have c0 : cntE [] = 0 := by decide
  have h1 : bcE x [] = 0 := by
    unfold bcE
    rw [if_neg (by simp [h]), if_neg (by simp [c0]), (b1 _).1, if_neg (by simp), e1, h]
  have h2 : bcE [] x = 0 := by
    unfold bcE
    rw [if_neg (by simp [c0]), if_neg (by simp [h]), (b1 _).2, if_neg (by simp), e2, h]
  exact ⟨h1, by rw [bcR, if_pos h1, e1], h2, by rw [bcR, if_pos h2, e2]⟩

theorem zeros_spr (x : List Int) : ∀ s ∈ Vw.spr [] (strd []) x, s = 0 := by
  intro s hs
  obtain ⟨j, -, rfl⟩ := List.mem_map.1 hs
  split
  · simp [strd]
  · rfl

theorem lst_zero : ∀ (ds ss : List Int), (∀ s ∈ ss, s = 0) → Vw.lst ds ss = 0
  | [], ss, _ => by simp [Vw.lst]
  | d :: ds, [], _ => by simp [Vw.lst]
  | d :: ds, s :: ss, h => by
    have ih := lst_zero ds ss (fun t ht => h t (by simp [ht]))
    have h0 := h s (by simp)
    simp [Vw.lst, ih, h0]

/-- A scalar, spread. -/
theorem as_scalar {x : List Int} (c : Int) (h : cntE x = 0) : asE [] [c] x = 0 ∧ ∀ j, j < (prod x).toNat → (asL [] [c] x).getD j 0 = c := by
  obtain ⟨-, -, b1, b2⟩ := bc_nil h
  have hz := zeros_spr x
  have hl : Vw.lst x (Vw.spr [] (strd []) x) = 0 := lst_zero _ _ hz
  have hm : Vw.MayV 0 x (Vw.spr [] (strd []) x) := ⟨fine_of h, by rw [Vw.spr_length], by omega, by omega, fun s hs => by rw [hz s hs]; omega⟩
  have hok : Vw.rdOk 0 x (Vw.spr [] (strd []) x) [c] = true := by
    unfold Vw.rdOk
    rw [Vw.mayB_iff.2 hm, hl]
    simp
  have h0 : cntE [] = 0 := by decide
  have hE : asE [] [c] x = 0 := by
    unfold asE
    rw [if_neg (by simp [h0]), if_neg (by simp [b1]), if_pos b2, Vw.rdE, if_pos hok]
  refine ⟨hE, fun j hj => ?_⟩
  obtain ⟨-, e⟩ := asE_inv hE
  obtain ⟨n1, -⟩ := asL_len hE
  have hj' : j < (asL [] [c] x).length := by omega
  rw [List.getD, List.getElem?_eq_getElem hj']
  have hmem := List.getElem_mem hj'
  have key : ∀ z ∈ asL [] [c] x, z = c := by
    intro z hz'
    rw [e] at hz'
    obtain ⟨p, hp, rfl⟩ := List.mem_map.1 hz'
    obtain ⟨g1, g2⟩ := Vw.plc_mem x _ 0 (fun y hy => (hm.str y hy).1) hm.fine.pos p hp
    have : p.toNat = 0 := by omega
    simp [this]
  exact key _ hmem

theorem pb1_two : pbE 1 [] [1073741824] = 0 := by decide

theorem pb_inv {ty : Int} {x xs : List Int} (h : pbE ty x xs = 0) : cntE x = 0 ∧ (xs.length : Int) = prod x := by
  unfold pbE at h
  split at h
  · omega
  · split at h
    · rename_i h1; exact absurd h h1
    · rename_i h1
      have h1' : cntE x = 0 := by omega
      split at h
      · omega
      · rename_i h2
        refine ⟨h1', ?_⟩
        have : (xs.length : Int) = cnt x := by omega
        rw [this, cnt, if_pos h1']

/-- What ElemDouble says. -/
theorem dbl_law (x xs : List Int) : el2 ⟨#[65, 100, 100]⟩ 0 1 1 x x xs xs = el2 ⟨#[77, 117, 108]⟩ 2 1 1 x [] xs [1073741824] := by
  by_cases hp : pbE 1 x xs = 0
  · obtain ⟨cx, lx⟩ := pb_inv hp
    obtain ⟨a1, a2⟩ := as_self cx lx
    obtain ⟨s1, s2⟩ := as_scalar 1073741824 cx
    obtain ⟨b1, b2⟩ := bc_self cx
    obtain ⟨d1, d2, -, -⟩ := bc_nil cx
    have c0 : countP [] = .ok (prod []) := by rfl
    have n1 : nodeP [tq 1 x xs, tq 1 x xs] (out2F ⟨#[65, 100, 100]⟩ 1 1 x x) = .ok (1, x) := by
      unfold nodeP
      rw [if_pos (by simp [tq, okT, hp])]
      unfold out2F
      rw [show twoOK (ByteArray.toList ⟨#[65, 100, 100]⟩) = twoOK [65, 100, 100] from by rw [show ByteArray.toList ⟨#[65, 100, 100]⟩ = [65, 100, 100] from by kernel_rfl], show countP x = .ok (prod x) from if_pos cx, show spreadP x x = .ok x from by unfold spreadP; rw [if_pos b1, b2]]
      show (Except.bind (countP x) fun _ => (Except.ok (1, x) : R (Int × List Int))) = .ok (1, x)
      rw [show countP x = .ok (prod x) from if_pos cx]
      rfl
    have n2 : nodeP [tq 1 x xs, tq 1 [] [1073741824]] (out2F ⟨#[77, 117, 108]⟩ 1 1 x []) = .ok (1, x) := by
      unfold nodeP
      rw [if_pos (by simp [tq, okT, hp, pb1_two])]
      unfold out2F
      rw [show twoOK (ByteArray.toList ⟨#[77, 117, 108]⟩) = twoOK [77, 117, 108] from by rw [show ByteArray.toList ⟨#[77, 117, 108]⟩ = [77, 117, 108] from by kernel_rfl], show countP x = .ok (prod x) from if_pos cx, c0, show spreadP x [] = .ok x from by unfold spreadP; rw [if_pos d1, d2]]
      show (Except.bind (countP x) fun _ => (Except.ok (1, x) : R (Int × List Int))) = .ok (1, x)
      rw [show countP x = .ok (prod x) from if_pos cx]
      rfl
    have m1 : madeR (F2 0 1) [tq 1 x xs, tq 1 x xs] x (prod x).toNat = madeR (F2 2 1) [tq 1 x xs, tq 1 [] [1073741824]] x (prod x).toNat := by
      unfold madeR
      rw [if_pos (by simp [tq, asOk, a1]), if_pos (by simp [tq, asOk, a1, s1])]
      refine evL_congr _ _ fun j _ hj => ?_
      simp only [tq, colP, List.map_cons, List.map_nil, a2]
      rw [s2 j (by omega)]
      unfold F2
      simp only [List.getD_cons_zero, List.getD_cons_succ]
      exact dbl_el _
    unfold el2 doR
    rw [n1, n2]
    simp only [m1]
  · have e1 : nodeP [tq 1 x xs, tq 1 x xs] (out2F ⟨#[65, 100, 100]⟩ 1 1 x x) = .error 1 := by
      unfold nodeP
      rw [if_neg (by simp [tq, okT, hp])]
    have e2 : nodeP [tq 1 x xs, tq 1 [] [1073741824]] (out2F ⟨#[77, 117, 108]⟩ 1 1 x []) = .error 1 := by
      unfold nodeP
      rw [if_neg (by simp [tq, okT, hp])]
    unfold el2 doR
    rw [e1, e2]
end Go.Proofs.YtnifbdcgobnjeaaGreatDoor
