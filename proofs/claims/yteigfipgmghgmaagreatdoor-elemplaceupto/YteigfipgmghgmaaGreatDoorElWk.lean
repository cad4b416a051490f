/- What is done at a place by any operator of elem, told by relations, by the walk (mkElWk.py). -/
import Derived.Test.YteigfipgmghgmaaGreatDoorElMa
import Derived.Test.YteigfipgmghgmaaGreatDoorETu
import Derived.Test.YteigfipgmghgmaaGreatDoorNuWalkK3
import Derived.Test.YteigfipgmghgmaaGreatDoorNuWalkWc
namespace Go.Proofs.YteigfipgmghgmaaGreatDoor
open Go.RowKit

/-- A number of 64 bits. -/
def W64 (x : Int) : Prop := -9223372036854775808 ≤ x ∧ x ≤ 9223372036854775807

theorem un_rng (k : Nat) (t x : Int) (hx : W64 x) : W64 (Nu.un k t x).1 := by
  unfold Nu.un
  split
  · rename_i hc
    split
    · exact hx
    · split
      · unfold Nu.unFl
        split
        · exact tob_rngE _ (Nu.negF_lt _ (fb_ltE x))
        · exact tob_rngE _ (Nu.absF_lt _)
        · exact tob_rngE _ (Nu.reluF_lt _ (fb_ltE x))
        · exact ⟨by decide, by decide⟩
      · split
        · rename_i h9
          subst h9
          unfold Nu.unBo
          split
          · rcases chk9E hc with rfl | rfl <;> exact ⟨by decide, by decide⟩
          · exact ⟨by decide, by decide⟩
        · unfold Nu.unIn
          split
          · exact wrapT_rng _ _ (w64_rng _)
          · show W64 (Nu.absI t x)
            unfold Nu.absI
            split
            · exact wrapT_rng _ _ (w64_rng _)
            · exact hx
          · exact ⟨by decide, by decide⟩
  · exact ⟨by decide, by decide⟩

theorem chk1_rng {v : Int} (h : Nu.chk 1 v = true) : W64 v := by
  have h2 : (0 ≤ v ∧ v < 4294967296) := by
    unfold Nu.chk at h
    simp at h
    omega
  exact ⟨by omega, by omega⟩

theorem b2i_chkE (b : Bool) : Nu.chk 9 (Nu.b2i b) = true := by cases b <;> decide

theorem f2i_rng (t : Int) (b : Nat) : W64 (Nu.f2i t b) := by
  have hv : W64 ((floatToIntVal .f64 (Nu.cv b) .i64).getD 0) := by
    cases h : floatToIntVal .f64 (Nu.cv b) .i64 with
    | none => exact ⟨by decide, by decide⟩
    | some n => exact Nu.val_bd _ n h
  unfold Nu.f2i
  split
  · exact ⟨by decide, by decide⟩
  · split
    · split
      · exact ⟨by decide, by decide⟩
      · split
        · exact ⟨by decide, by decide⟩
        · exact hv
    · split
      · exact ⟨by decide, by decide⟩
      · split
        · exact ⟨by decide, by decide⟩
        · exact hv

theorem f2i_6 (b : Nat) (hb : b < 4294967296) : Nu.chk 6 (Nu.f2i 6 b) = true := by
  have key : -2147483648 ≤ Nu.f2i 6 b ∧ Nu.f2i 6 b ≤ 2147483647 := by
    unfold Nu.f2i
    split
    · decide
    · rename_i hn
      simp only [if_true]
      rcases Nu.int_cases b hb (Nu.not_nan_le b hb (by simpa using hn)) with ⟨h1, -⟩ | ⟨h1, h2, -⟩ | ⟨h1, h2, -, -, n, h3, h4, h5⟩
      · rw [if_pos h1]; decide
      · rw [if_neg (by rw [h1]; decide), if_pos h2]; decide
      · rw [if_neg (by rw [h1]; decide), if_neg (by rw [h2]; decide), h3]; exact ⟨h4, h5⟩
  unfold Nu.chk
  simp only
  simp
  omega

theorem cst_rng (f t x : Int) (hx : W64 x) : W64 (Nu.cst f t x).1 := by
  unfold Nu.cst
  split
  · split
    · exact hx
    · split
      · exact b2i_rng _
      · split
        · exact f2i_rng _ _
        · split
          · exact b2i_rng _
          · split
            · exact tob_rngE _ (Nu.foi_lt x)
            · exact wrapT_rng _ _ hx
  · exact ⟨by decide, by decide⟩

theorem cst_chk (f t x : Int) (h : (Nu.cst f t x).2 = 0) : Nu.chk t (Nu.cst f t x).1 = true := by
  unfold Nu.cst at h ⊢
  split at h
  · rename_i hc
    rw [if_pos hc]
    rw [Bool.and_eq_true] at hc
    have ht := Nu.isT_cases t hc.2
    split
    · rename_i e; rw [← e]; exact hc.1
    · rename_i e1
      split
      · rename_i e2; rw [e2.2]; exact b2i_chkE _
      · rename_i e2
        split
        · rename_i e3
          rcases ht with rfl | rfl | rfl | rfl
          · exact absurd e3 e1
          · exact f2i_6 _ (fb_ltE x)
          · simp [Nu.chk]
          · exact absurd ⟨e3, rfl⟩ e2
        · split
          · rename_i e4; rw [e4]; exact b2i_chkE _
          · split
            · rename_i e4; rw [e4]; exact Nu.chk_tob _ (Nu.foi_lt x)
            · rename_i e4 e5
              exact Nu.wrapT_stays t x (by rcases ht with rfl | rfl | rfl | rfl <;> simp_all)
  · cases h

theorem bin_rng (k : Nat) (t x y : Int) (hx : W64 x) (hy : W64 y) : W64 (Nu.bin k t x y).1 := by
  have h := G2_rng k t [x, y]
  unfold G2 at h
  rw [if_pos (by exact ⟨hx, hy⟩)] at h
  exact h

theorem tobO_chkE (op : BinOp) (x y : Nat) : Nu.chk 1 (Nu.tobO (floatBits op .f32 x y)) = true := by
  cases h : floatBits op .f32 x y with
  | none => decide
  | some r =>
    have := floatBits_wf h
    exact Nu.chk_tob r (by simpa [Lit.wf] using this)

theorem maxF_chkE (x y : Nat) (hx : x < 4294967296) (hy : y < 4294967296) : Nu.chk 1 (Nu.maxF x y) = true := by
  unfold Nu.maxF
  split
  · decide
  · exact Nu.chk_tob y hy
  · exact Nu.chk_tob x hx
  · split
    · exact Nu.chk_tob y hy
    · exact Nu.chk_tob x hx

theorem minF_chkE (x y : Nat) (hx : x < 4294967296) (hy : y < 4294967296) : Nu.chk 1 (Nu.minF x y) = true := by
  unfold Nu.minF
  split
  · decide
  · exact Nu.chk_tob x hx
  · exact Nu.chk_tob y hy
  · split
    · exact Nu.chk_tob x hx
    · exact Nu.chk_tob y hy

/-- The type of what two elements make. -/
def outT (k : Nat) (t : Int) : Int := if 9 ≤ k then 9 else t

theorem bin_chk (k : Nat) (t x y : Int) (hk : k < 12) (h0 : (Nu.bin k t x y).2 = 0) : Nu.chk (outT k t) (Nu.bin k t x y).1 = true := by
  have h := h0
  unfold Nu.bin at h ⊢
  split at h
  case isFalse => cases h
  rename_i hc
  rw [if_pos hc]
  rw [Bool.and_eq_true] at hc
  have hk' : k = 0 ∨ k = 1 ∨ k = 2 ∨ k = 3 ∨ k = 4 ∨ k = 5 ∨ k = 6 ∨ k = 7 ∨ k = 8 ∨ k = 9 ∨ k = 10 ∨ k = 11 := by omega
  have hlx := fb_ltE x
  have hly := fb_ltE y
  by_cases h1 : t = 1
  · subst h1
    rw [if_pos rfl] at h ⊢
    rcases hk' with rfl | rfl | rfl | rfl | rfl | rfl | rfl | rfl | rfl | rfl | rfl | rfl
    · exact tobO_chkE _ _ _
    · exact tobO_chkE _ _ _
    · exact tobO_chkE _ _ _
    · exact tobO_chkE _ _ _
    · exact maxF_chkE _ _ hlx hly
    · exact minF_chkE _ _ hlx hly
    · cases h
    · cases h
    · cases h
    · exact b2i_chkE _
    · exact b2i_chkE _
    · exact b2i_chkE _
  · rw [if_neg h1] at h ⊢
    by_cases h9 : t = 9
    · subst h9
      rw [if_pos rfl] at h ⊢
      rcases chk9E hc.1 with rfl | rfl <;> rcases chk9E hc.2 with rfl | rfl <;> rcases hk' with rfl | rfl | rfl | rfl | rfl | rfl | rfl | rfl | rfl | rfl | rfl | rfl <;> revert h <;> decide
    · rw [if_neg h9] at h ⊢
      have ht := Nu.ints_of t x hc.1 h1 h9
      rcases hk' with rfl | rfl | rfl | rfl | rfl | rfl | rfl | rfl | rfl | rfl | rfl | rfl
      · exact Nu.wrapT_stays t _ ht
      · exact Nu.wrapT_stays t _ ht
      · exact Nu.wrapT_stays t _ ht
      · by_cases h0 : y = 0
        · simp [Nu.binIn, h0] at h
        · simp only [Nu.binIn, h0, if_false]; exact Nu.wrapT_stays t _ ht
      · exact Nu.wrapT_stays t _ ht
      · exact Nu.wrapT_stays t _ ht
      · cases h
      · cases h
      · cases h
      · exact b2i_chkE _
      · exact b2i_chkE _
      · exact b2i_chkE _

theorem two_ways {c : Int} {A : Prop} (h0 : c = 0) (h : c = 0 ∧ A ∨ c = 1) : A := h.elim (·.2) (fun e => absurd (h0.symm.trans e) (by decide))

/-- num.Unary of any operator of one. -/
theorem un_rel (op : ByteArray) (hop : op ∈ ([⟨#[73, 100, 101, 110, 116, 105, 116, 121]⟩, ⟨#[78, 101, 103]⟩, ⟨#[65, 98, 115]⟩, ⟨#[78, 111, 116]⟩, ⟨#[82, 101, 108, 117]⟩, ⟨#[83, 113, 114, 116]⟩, ⟨#[70, 108, 111, 111, 114]⟩, ⟨#[69, 120, 112]⟩, ⟨#[83, 105, 103, 109, 111, 105, 100]⟩, ⟨#[84, 97, 110, 104]⟩] : List ByteArray)) (t x : Int) (hx : W64 x) (hf : op ∈ ([⟨#[83, 113, 114, 116]⟩, ⟨#[70, 108, 111, 111, 114]⟩, ⟨#[69, 120, 112]⟩, ⟨#[83, 105, 103, 109, 111, 105, 100]⟩, ⟨#[84, 97, 110, 104]⟩] : List ByteArray) → t = 1) (w : World) : Calls Tryz.prog 29 #[.string op, .int .i64 t, .int .i64 x] w (OneQ (fun v => Nu.chk t v = true) w) := by
  simp only [List.mem_cons, List.not_mem_nil, or_false] at hop
  rcases hop with rfl | rfl | rfl | rfl | rfl | rfl | rfl | rfl | rfl | rfl
  · refine (Nu.unary0 t x w).mono ?_
    rintro e w' ⟨rfl, rfl⟩
    exact ⟨_, _, rfl, fun h => ⟨un_rng 0 t x hx, two_ways h (Nu.un_stays 0 t x (by decide))⟩, 0, rfl⟩
  · refine (Nu.unary1 t x w).mono ?_
    rintro e w' ⟨rfl, rfl⟩
    exact ⟨_, _, rfl, fun h => ⟨un_rng 1 t x hx, two_ways h (Nu.un_stays 1 t x (by decide))⟩, 0, rfl⟩
  · refine (Nu.unary2 t x w).mono ?_
    rintro e w' ⟨rfl, rfl⟩
    exact ⟨_, _, rfl, fun h => ⟨un_rng 2 t x hx, two_ways h (Nu.un_stays 2 t x (by decide))⟩, 0, rfl⟩
  · refine (Nu.unary3 t x w).mono ?_
    rintro e w' ⟨rfl, rfl⟩
    exact ⟨_, _, rfl, fun h => ⟨un_rng 3 t x hx, two_ways h (Nu.un_stays 3 t x (by decide))⟩, 0, rfl⟩
  · refine (Nu.unary4 t x w).mono ?_
    rintro e w' ⟨rfl, rfl⟩
    exact ⟨_, _, rfl, fun h => ⟨un_rng 4 t x hx, two_ways h (Nu.un_stays 4 t x (by decide))⟩, 0, rfl⟩
  · obtain rfl : t = 1 := hf (by simp)
    refine (Nu.stay_un5 1 x w).mono ?_
    rintro e w' ⟨v, c, q, hc, rfl, rfl⟩
    exact ⟨v, c, rfl, fun h => ⟨chk1_rng (two_ways h hc), two_ways h hc⟩, q, rfl⟩
  · obtain rfl : t = 1 := hf (by simp)
    refine (Nu.stay_un6 1 x w).mono ?_
    rintro e w' ⟨v, c, q, hc, rfl, rfl⟩
    exact ⟨v, c, rfl, fun h => ⟨chk1_rng (two_ways h hc), two_ways h hc⟩, q, rfl⟩
  · obtain rfl : t = 1 := hf (by simp)
    refine (Nu.stay_un7 1 x w).mono ?_
    rintro e w' ⟨v, c, q, hc, rfl, rfl⟩
    exact ⟨v, c, rfl, fun h => ⟨chk1_rng (two_ways h hc), two_ways h hc⟩, q, rfl⟩
  · obtain rfl : t = 1 := hf (by simp)
    refine (Nu.stay_un8 1 x w).mono ?_
    rintro e w' ⟨v, c, q, hc, rfl, rfl⟩
    exact ⟨v, c, rfl, fun h => ⟨chk1_rng (two_ways h hc), two_ways h hc⟩, q, rfl⟩
  · obtain rfl : t = 1 := hf (by simp)
    refine (Nu.stay_un9 1 x w).mono ?_
    rintro e w' ⟨v, c, q, hc, rfl, rfl⟩
    exact ⟨v, c, rfl, fun h => ⟨chk1_rng (two_ways h hc), two_ways h hc⟩, q, rfl⟩

/-- num.Binary of any operator of two. -/
theorem bin_of {op : ByteArray} {k : Nat} (h : kOf op = some k) (t x y : Int) (w : World) : Calls Tryz.prog 31 #[.string op, .int .i64 t, .int .i64 x, .int .i64 y] w fun e w' => e = .returned (.tuple #[.int .i64 (Nu.bin k t x y).1, .int .i64 (Nu.bin k t x y).2]) ∧ ∃ q, w' = w.drewN q := by
  have h12 := kOf_12 h
  simp only [List.mem_cons, List.not_mem_nil, or_false] at h12
  rcases h12 with rfl | rfl | rfl | rfl | rfl | rfl | rfl | rfl | rfl | rfl | rfl | rfl
  · obtain rfl : k = 0 := Option.some.inj (h.symm.trans (show kOf ⟨#[65, 100, 100]⟩ = some 0 by kernel_rfl))
    exact Nu.binary0 t x y w
  · obtain rfl : k = 1 := Option.some.inj (h.symm.trans (show kOf ⟨#[83, 117, 98]⟩ = some 1 by kernel_rfl))
    exact Nu.binary1 t x y w
  · obtain rfl : k = 2 := Option.some.inj (h.symm.trans (show kOf ⟨#[77, 117, 108]⟩ = some 2 by kernel_rfl))
    exact Nu.binary2 t x y w
  · obtain rfl : k = 3 := Option.some.inj (h.symm.trans (show kOf ⟨#[68, 105, 118]⟩ = some 3 by kernel_rfl))
    exact Nu.binary3 t x y w
  · obtain rfl : k = 4 := Option.some.inj (h.symm.trans (show kOf ⟨#[77, 97, 120]⟩ = some 4 by kernel_rfl))
    exact Nu.binary4 t x y w
  · obtain rfl : k = 5 := Option.some.inj (h.symm.trans (show kOf ⟨#[77, 105, 110]⟩ = some 5 by kernel_rfl))
    exact Nu.binary5 t x y w
  · obtain rfl : k = 6 := Option.some.inj (h.symm.trans (show kOf ⟨#[65, 110, 100]⟩ = some 6 by kernel_rfl))
    exact Nu.binary6 t x y w
  · obtain rfl : k = 7 := Option.some.inj (h.symm.trans (show kOf ⟨#[79, 114]⟩ = some 7 by kernel_rfl))
    exact Nu.binary7 t x y w
  · obtain rfl : k = 8 := Option.some.inj (h.symm.trans (show kOf ⟨#[88, 111, 114]⟩ = some 8 by kernel_rfl))
    exact Nu.binary8 t x y w
  · obtain rfl : k = 9 := Option.some.inj (h.symm.trans (show kOf ⟨#[69, 113, 117, 97, 108]⟩ = some 9 by kernel_rfl))
    exact Nu.binary9 t x y w
  · obtain rfl : k = 10 := Option.some.inj (h.symm.trans (show kOf ⟨#[76, 101, 115, 115]⟩ = some 10 by kernel_rfl))
    exact Nu.binary10 t x y w
  · obtain rfl : k = 11 := Option.some.inj (h.symm.trans (show kOf ⟨#[71, 114, 101, 97, 116, 101, 114]⟩ = some 11 by kernel_rfl))
    exact Nu.binary11 t x y w

theorem k_lt {op : ByteArray} {k : Nat} (h : kOf op = some k) : k < 12 := by
  unfold kOf at h
  rw [List.idxOf?_eq_some_iff] at h
  exact h.1

set_option maxRecDepth 100000 in
set_option maxHeartbeats 8000000 in
theorem work1_rel (n : Nod) (P : Int → Prop) (p1 p2 B m : Nat) (ub uo un uc : Nat) (ty x : Int) (w : World) (hm : 0 < m) (hn : w.heap[p1]? = some (.cells #[.string n.op, .string n.name, .slice n.iv.a n.iv.n n.iv.c, .string n.out, .slice n.av.a n.av.n n.av.c] 25 (0, 0))) (hi : w.heap[p2]? = some (.cells #[.slice (some ⟨ub, uo, none⟩) un uc] 26 (0, 0))) (hun : 0 < un) (ht : w.cell? ⟨ub, uo, none⟩ = some (.int .i64 ty)) (hx : w.cell? ⟨B, 0, none⟩ = some (.int .i64 x))
    (UC : ∀ wx, Calls Tryz.prog 29 #[.string n.op, .int .i64 ty, .int .i64 x] wx (OneQ P wx)) :
    Calls Tryz.prog 28 #[.slice (some ⟨B, 0, none⟩) m m, .pointer (some ⟨p1, 0, none⟩), .pointer (some ⟨p2, 0, none⟩)] w (OneQ P w) := by
  obtain ⟨n0, -, -, -, -⟩ := nod_cells hn
  have c8 := one_cell hi
  have hun' : (0 : Int) < (un : Int) := by omega
  have i0 : (0 : Int) < (m : Int) := by omega
  have BB := hide UC
  clear hn hi UC
  go_enter Tryz.func28, Tryz.ntmps28
  go_wp2_with fail
  go_region_held3 (fun w' => w'.cell? ⟨p1, 0, none⟩ = some (.string n.op) ∧ w'.cell? ⟨p2, 0, none⟩ = some (.slice (some ⟨ub, uo, none⟩) un uc) ∧ w'.cell? ⟨ub, uo, none⟩ = some (.int .i64 ty) ∧ w'.cell? ⟨B, 0, none⟩ = some (.int .i64 x)) (go_keep) (first | (go_at_call 29; refine (BB.out _).mono ?_; rintro e w1 ⟨v, c, rfl, hP, q, rfl⟩; have HP := hide hP; clear hP) | fail)
  go_wp2
  go_ret2
  exact ⟨v, c, rfl, HP.out, _, by first | rfl | exact World.drewN_drewN _ _ _⟩

set_option maxRecDepth 100000 in
set_option maxHeartbeats 8000000 in
theorem work2_rel (n : Nod) (k : Nat) (hk : kOf n.op = some k) (p1 p2 B m : Nat) (ub uo un uc : Nat) (ty x y : Int) (w : World) (hm : 1 < m) (hn : w.heap[p1]? = some (.cells #[.string n.op, .string n.name, .slice n.iv.a n.iv.n n.iv.c, .string n.out, .slice n.av.a n.av.n n.av.c] 25 (0, 0))) (hi : w.heap[p2]? = some (.cells #[.slice (some ⟨ub, uo, none⟩) un uc] 26 (0, 0))) (hun : 0 < un) (ht : w.cell? ⟨ub, uo, none⟩ = some (.int .i64 ty)) (hx : w.cell? ⟨B, 0, none⟩ = some (.int .i64 x)) (hy : w.cell? ⟨B, 1, none⟩ = some (.int .i64 y)) (rx : W64 x) (ry : W64 y) :
    Calls Tryz.prog 30 #[.slice (some ⟨B, 0, none⟩) m m, .pointer (some ⟨p1, 0, none⟩), .pointer (some ⟨p2, 0, none⟩)] w (OneQ (fun v => Nu.chk (outT k ty) v = true) w) := by
  obtain ⟨n0, -, -, -, -⟩ := nod_cells hn
  have c8 := one_cell hi
  have hun' : (0 : Int) < (un : Int) := by omega
  have i1 : (1 : Int) < (m : Int) := by omega
  have i0 : (0 : Int) < (m : Int) := by omega
  have BB := hide (fun (wx : World) => bin_of hk ty x y wx)
  have RR := hide (show W64 (Nu.bin k ty x y).1 ∧ ((Nu.bin k ty x y).2 = 0 → Nu.chk (outT k ty) (Nu.bin k ty x y).1 = true) from ⟨bin_rng k ty x y rx ry, bin_chk k ty x y (k_lt hk)⟩)
  obtain ⟨r1, e1⟩ : ∃ r, r = (Nu.bin k ty x y).1 := ⟨_, rfl⟩
  obtain ⟨r2, e2⟩ : ∃ r, r = (Nu.bin k ty x y).2 := ⟨_, rfl⟩
  rw [← e1, ← e2] at BB RR
  clear hn hi hk rx ry e1 e2
  go_enter Tryz.func30, Tryz.ntmps30
  go_wp2_with fail
  go_quiet (first | (go_at_call 31; refine (BB.out _).mono ?_; rintro e w' ⟨rfl, q, rfl⟩; exact ⟨rfl, _, World.drewN_drewN _ _ _⟩) | fail)
  go_wp2
  go_ret2
  exact ⟨r1, r2, rfl, fun h => ⟨RR.out.1, RR.out.2 h⟩, _, rfl⟩

set_option maxRecDepth 100000 in
set_option maxHeartbeats 8000000 in
/-- Where. -/
theorem choose_rel (B m : Nat) (x y z : Int) (w : World) (hm : 2 < m) (hx : w.cell? ⟨B, 0, none⟩ = some (.int .i64 x)) (hy : w.cell? ⟨B, 1, none⟩ = some (.int .i64 y)) (hz : w.cell? ⟨B, 2, none⟩ = some (.int .i64 z)) (ry : W64 y) (rz : W64 z) :
    Calls Tryz.prog 32 #[.slice (some ⟨B, 0, none⟩) m m] w (OneQ (fun v => v = y ∨ v = z) w) := by
  have i2 : (2 : Int) < (m : Int) := by omega
  have i1 : (1 : Int) < (m : Int) := by omega
  have i0 : (0 : Int) < (m : Int) := by omega
  have RY := hide ry
  have RZ := hide rz
  clear ry rz
  go_enter Tryz.func32, Tryz.ntmps32
  by_cases h : x = 1
  · have hb : (x == 1) = true := by simp [h]
    clear h
    go_wp2
    go_ret2
    exact ⟨y, 0, rfl, fun _ => ⟨RY.out, .inl rfl⟩, 0, rfl⟩
  · have hb : (x == 1) = false := by simp [h]
    clear h
    go_wp2
    go_ret2
    exact ⟨z, 0, rfl, fun _ => ⟨RZ.out, .inr rfl⟩, 0, rfl⟩

end Go.Proofs.YteigfipgmghgmaaGreatDoor
