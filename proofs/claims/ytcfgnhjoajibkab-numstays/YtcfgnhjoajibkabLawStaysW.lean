/- The walk of the statement that what comes out stays an element: it answers true, whatever the operators, the type and the numbers. -/
import Derived.Test.YtcfgnhjoajibkabWalkK3
import Derived.Test.YtcfgnhjoajibkabOps1
import Derived.Test.YtcfgnhjoajibkabOps2
import Derived.Test.YtcfgnhjoajibkabPlainM
import Derived.Deep.RegionWith
import Derived.Deep.DeepCutAuto
namespace Go.Proofs.Ytcfgnhjoajibkab
open Go.RowKit

theorem b2i_chk (b : Bool) : chk 9 (b2i b) = true := by cases b <;> decide

theorem tobO_chk (op : BinOp) (x y : Nat) : chk 1 (tobO (floatBits op .f32 x y)) = true := by
  cases h : floatBits op .f32 x y with
  | none => decide
  | some r =>
    have := floatBits_wf h
    exact chk_tob r (by simpa [Lit.wf] using this)

theorem maxF_chk (x y : Nat) (hx : x < 4294967296) (hy : y < 4294967296) : chk 1 (maxF x y) = true := by
  unfold maxF
  split
  · decide
  · exact chk_tob y hy
  · exact chk_tob x hx
  · split
    · exact chk_tob y hy
    · exact chk_tob x hx
theorem minF_chk (x y : Nat) (hx : x < 4294967296) (hy : y < 4294967296) : chk 1 (minF x y) = true := by
  unfold minF
  split
  · decide
  · exact chk_tob x hx
  · exact chk_tob y hy
  · split
    · exact chk_tob x hx
    · exact chk_tob y hy

def outT (k : Nat) (t : Int) : Int := if 9 ≤ k then 9 else t

theorem bin_stays (k : Nat) (t x y : Int) (hk : k < 12) : ((bin k t x y).2 != 0) = true ∨ (bin k t x y).2 = 0 ∧ chk (outT k t) (bin k t x y).1 = true := by
  cases hx : chk t x with
  | false => left; simp [bin, hx]
  | true =>
    cases hy : chk t y with
    | false => left; simp [bin, hy]
    | true =>
      have hk' : k = 0 ∨ k = 1 ∨ k = 2 ∨ k = 3 ∨ k = 4 ∨ k = 5 ∨ k = 6 ∨ k = 7 ∨ k = 8 ∨ k = 9 ∨ k = 10 ∨ k = 11 := by omega
      have hlx := fb_lt x
      have hly := fb_lt y
      by_cases h1 : t = 1
      · subst h1
        have e : bin k 1 x y = binFl k (fb x) (fb y) := by simp [bin, hx, hy]
        rw [e]
        rcases hk' with rfl | rfl | rfl | rfl | rfl | rfl | rfl | rfl | rfl | rfl | rfl | rfl
        · exact .inr ⟨rfl, tobO_chk _ _ _⟩
        · exact .inr ⟨rfl, tobO_chk _ _ _⟩
        · exact .inr ⟨rfl, tobO_chk _ _ _⟩
        · exact .inr ⟨rfl, tobO_chk _ _ _⟩
        · exact .inr ⟨rfl, maxF_chk _ _ hlx hly⟩
        · exact .inr ⟨rfl, minF_chk _ _ hlx hly⟩
        · exact .inl rfl
        · exact .inl rfl
        · exact .inl rfl
        · exact .inr ⟨rfl, b2i_chk _⟩
        · exact .inr ⟨rfl, b2i_chk _⟩
        · exact .inr ⟨rfl, b2i_chk _⟩
      · by_cases h9 : t = 9
        · subst h9
          have e : bin k 9 x y = binBo k x y := by simp [bin, hx, hy]
          rw [e]
          rcases chk9 x hx with rfl | rfl <;> rcases chk9 y hy with rfl | rfl <;> rcases hk' with rfl | rfl | rfl | rfl | rfl | rfl | rfl | rfl | rfl | rfl | rfl | rfl <;> decide
        · have ht := ints_of t x hx h1 h9
          have e : bin k t x y = binIn k t x y := by simp [bin, hx, hy, h1, h9]
          rw [e]
          rcases hk' with rfl | rfl | rfl | rfl | rfl | rfl | rfl | rfl | rfl | rfl | rfl | rfl
          · exact .inr ⟨rfl, wrapT_stays t _ ht⟩
          · exact .inr ⟨rfl, wrapT_stays t _ ht⟩
          · exact .inr ⟨rfl, wrapT_stays t _ ht⟩
          · by_cases h0 : y = 0
            · left; simp [binIn, h0]
            · right; simp only [binIn, h0, if_false]; exact ⟨trivial, wrapT_stays t _ ht⟩
          · exact .inr ⟨rfl, wrapT_stays t _ ht⟩
          · exact .inr ⟨rfl, wrapT_stays t _ ht⟩
          · exact .inl rfl
          · exact .inl rfl
          · exact .inl rfl
          · exact .inr ⟨rfl, b2i_chk _⟩
          · exact .inr ⟨rfl, b2i_chk _⟩
          · exact .inr ⟨rfl, b2i_chk _⟩

/-- The name of an operator of one, by a number. -/
def name1 (n : Int) : ByteArray :=
  if idx1 n = 0 then ⟨#[73, 100, 101, 110, 116, 105, 116, 121]⟩
  else if idx1 n = 1 then ⟨#[78, 101, 103]⟩
  else if idx1 n = 2 then ⟨#[65, 98, 115]⟩
  else if idx1 n = 3 then ⟨#[78, 111, 116]⟩
  else if idx1 n = 4 then ⟨#[82, 101, 108, 117]⟩
  else if idx1 n = 5 then ⟨#[83, 113, 114, 116]⟩
  else if idx1 n = 6 then ⟨#[70, 108, 111, 111, 114]⟩
  else if idx1 n = 7 then ⟨#[69, 120, 112]⟩
  else if idx1 n = 8 then ⟨#[83, 105, 103, 109, 111, 105, 100]⟩
  else ⟨#[84, 97, 110, 104]⟩

theorem name1_0 (n : Int) (h : idx1 n = 0) : name1 n = ⟨#[73, 100, 101, 110, 116, 105, 116, 121]⟩ := by simp [name1, h]
theorem name1_1 (n : Int) (h : idx1 n = 1) : name1 n = ⟨#[78, 101, 103]⟩ := by simp [name1, h]
theorem name1_2 (n : Int) (h : idx1 n = 2) : name1 n = ⟨#[65, 98, 115]⟩ := by simp [name1, h]
theorem name1_3 (n : Int) (h : idx1 n = 3) : name1 n = ⟨#[78, 111, 116]⟩ := by simp [name1, h]
theorem name1_4 (n : Int) (h : idx1 n = 4) : name1 n = ⟨#[82, 101, 108, 117]⟩ := by simp [name1, h]
theorem name1_5 (n : Int) (h : idx1 n = 5) : name1 n = ⟨#[83, 113, 114, 116]⟩ := by simp [name1, h]
theorem name1_6 (n : Int) (h : idx1 n = 6) : name1 n = ⟨#[70, 108, 111, 111, 114]⟩ := by simp [name1, h]
theorem name1_7 (n : Int) (h : idx1 n = 7) : name1 n = ⟨#[69, 120, 112]⟩ := by simp [name1, h]
theorem name1_8 (n : Int) (h : idx1 n = 8) : name1 n = ⟨#[83, 105, 103, 109, 111, 105, 100]⟩ := by simp [name1, h]
theorem name1_9 (n : Int) (h : idx1 n = 9) : name1 n = ⟨#[84, 97, 110, 104]⟩ := by simp [name1, h]

theorem ops1_any (n : Int) (w : World) (hn : -9223372036854775808 ≤ n ∧ n ≤ 9223372036854775807) : Calls Try.prog 18 #[.int .i64 n] w fun e w' => e = .returned (.string (name1 n)) ∧ ∃ cs T, w' = w.alloc (.cells cs T) := by
  rcases idx1_cases n with h | h | h | h | h | h | h | h | h | h
  · rw [name1_0 n h]; exact ops1_0 n w hn h
  · rw [name1_1 n h]; exact ops1_1 n w hn h
  · rw [name1_2 n h]; exact ops1_2 n w hn h
  · rw [name1_3 n h]; exact ops1_3 n w hn h
  · rw [name1_4 n h]; exact ops1_4 n w hn h
  · rw [name1_5 n h]; exact ops1_5 n w hn h
  · rw [name1_6 n h]; exact ops1_6 n w hn h
  · rw [name1_7 n h]; exact ops1_7 n w hn h
  · rw [name1_8 n h]; exact ops1_8 n w hn h
  · rw [name1_9 n h]; exact ops1_9 n w hn h

theorem stay_any (n t x : Int) (w : World) : Calls Try.prog 9 #[.string (name1 n), .int .i64 t, .int .i64 x] w fun e w' => ∃ (v c : Int) (n : Nat), (c = 0 ∧ chk t v = true ∨ c = 1) ∧ e = .returned (.tuple #[.int .i64 v, .int .i64 c]) ∧ w' = w.drewN n := by
  rcases idx1_cases n with h | h | h | h | h | h | h | h | h | h
  · rw [name1_0 n h]; exact stay_un0 t x w
  · rw [name1_1 n h]; exact stay_un1 t x w
  · rw [name1_2 n h]; exact stay_un2 t x w
  · rw [name1_3 n h]; exact stay_un3 t x w
  · rw [name1_4 n h]; exact stay_un4 t x w
  · rw [name1_5 n h]; exact stay_un5 t x w
  · rw [name1_6 n h]; exact stay_un6 t x w
  · rw [name1_7 n h]; exact stay_un7 t x w
  · rw [name1_8 n h]; exact stay_un8 t x w
  · rw [name1_9 n h]; exact stay_un9 t x w

/-- The name of an operator of two, by a number; and the type of what it gives. -/
def name2 (n : Int) : ByteArray :=
  if idx2 n = 0 then ⟨#[65, 100, 100]⟩
  else if idx2 n = 1 then ⟨#[83, 117, 98]⟩
  else if idx2 n = 2 then ⟨#[77, 117, 108]⟩
  else if idx2 n = 3 then ⟨#[68, 105, 118]⟩
  else if idx2 n = 4 then ⟨#[77, 97, 120]⟩
  else if idx2 n = 5 then ⟨#[77, 105, 110]⟩
  else if idx2 n = 6 then ⟨#[65, 110, 100]⟩
  else if idx2 n = 7 then ⟨#[79, 114]⟩
  else if idx2 n = 8 then ⟨#[88, 111, 114]⟩
  else if idx2 n = 9 then ⟨#[69, 113, 117, 97, 108]⟩
  else if idx2 n = 10 then ⟨#[76, 101, 115, 115]⟩
  else ⟨#[71, 114, 101, 97, 116, 101, 114]⟩

def outN (n t : Int) : Int := if 9 ≤ idx2 n then 9 else t

theorem name2_0 (n : Int) (h : idx2 n = 0) : name2 n = ⟨#[65, 100, 100]⟩ := by simp [name2, h]
theorem name2_1 (n : Int) (h : idx2 n = 1) : name2 n = ⟨#[83, 117, 98]⟩ := by simp [name2, h]
theorem name2_2 (n : Int) (h : idx2 n = 2) : name2 n = ⟨#[77, 117, 108]⟩ := by simp [name2, h]
theorem name2_3 (n : Int) (h : idx2 n = 3) : name2 n = ⟨#[68, 105, 118]⟩ := by simp [name2, h]
theorem name2_4 (n : Int) (h : idx2 n = 4) : name2 n = ⟨#[77, 97, 120]⟩ := by simp [name2, h]
theorem name2_5 (n : Int) (h : idx2 n = 5) : name2 n = ⟨#[77, 105, 110]⟩ := by simp [name2, h]
theorem name2_6 (n : Int) (h : idx2 n = 6) : name2 n = ⟨#[65, 110, 100]⟩ := by simp [name2, h]
theorem name2_7 (n : Int) (h : idx2 n = 7) : name2 n = ⟨#[79, 114]⟩ := by simp [name2, h]
theorem name2_8 (n : Int) (h : idx2 n = 8) : name2 n = ⟨#[88, 111, 114]⟩ := by simp [name2, h]
theorem name2_9 (n : Int) (h : idx2 n = 9) : name2 n = ⟨#[69, 113, 117, 97, 108]⟩ := by simp [name2, h]
theorem name2_10 (n : Int) (h : idx2 n = 10) : name2 n = ⟨#[76, 101, 115, 115]⟩ := by simp [name2, h]
theorem name2_11 (n : Int) (h : idx2 n = 11) : name2 n = ⟨#[71, 114, 101, 97, 116, 101, 114]⟩ := by simp [name2, h]

theorem ops2_any (n : Int) (w : World) (hn : -9223372036854775808 ≤ n ∧ n ≤ 9223372036854775807) : Calls Try.prog 19 #[.int .i64 n] w fun e w' => e = .returned (.string (name2 n)) ∧ ∃ cs T, w' = w.alloc (.cells cs T) := by
  rcases idx2_cases n with h | h | h | h | h | h | h | h | h | h | h | h
  · rw [name2_0 n h]; exact ops2_0 n w hn h
  · rw [name2_1 n h]; exact ops2_1 n w hn h
  · rw [name2_2 n h]; exact ops2_2 n w hn h
  · rw [name2_3 n h]; exact ops2_3 n w hn h
  · rw [name2_4 n h]; exact ops2_4 n w hn h
  · rw [name2_5 n h]; exact ops2_5 n w hn h
  · rw [name2_6 n h]; exact ops2_6 n w hn h
  · rw [name2_7 n h]; exact ops2_7 n w hn h
  · rw [name2_8 n h]; exact ops2_8 n w hn h
  · rw [name2_9 n h]; exact ops2_9 n w hn h
  · rw [name2_10 n h]; exact ops2_10 n w hn h
  · rw [name2_11 n h]; exact ops2_11 n w hn h

theorem stay_two (n t x y : Int) (w : World) : Calls Try.prog 14 #[.string (name2 n), .int .i64 t, .int .i64 x, .int .i64 y] w fun e w' => ∃ (v c : Int) (m : Nat), ((c != 0) = true ∨ c = 0 ∧ chk (outN n t) v = true) ∧ e = .returned (.tuple #[.int .i64 v, .int .i64 c]) ∧ w' = w.drewN m := by
  rcases idx2_cases n with h | h | h | h | h | h | h | h | h | h | h | h
  · rw [name2_0 n h, show outN n t = outT 0 t from by simp [outN, outT, h]]
    refine (binary0 t x y w).mono ?_
    rintro e w' ⟨rfl, m, rfl⟩
    exact ⟨_, _, m, bin_stays 0 t x y (by decide), rfl, rfl⟩
  · rw [name2_1 n h, show outN n t = outT 1 t from by simp [outN, outT, h]]
    refine (binary1 t x y w).mono ?_
    rintro e w' ⟨rfl, m, rfl⟩
    exact ⟨_, _, m, bin_stays 1 t x y (by decide), rfl, rfl⟩
  · rw [name2_2 n h, show outN n t = outT 2 t from by simp [outN, outT, h]]
    refine (binary2 t x y w).mono ?_
    rintro e w' ⟨rfl, m, rfl⟩
    exact ⟨_, _, m, bin_stays 2 t x y (by decide), rfl, rfl⟩
  · rw [name2_3 n h, show outN n t = outT 3 t from by simp [outN, outT, h]]
    refine (binary3 t x y w).mono ?_
    rintro e w' ⟨rfl, m, rfl⟩
    exact ⟨_, _, m, bin_stays 3 t x y (by decide), rfl, rfl⟩
  · rw [name2_4 n h, show outN n t = outT 4 t from by simp [outN, outT, h]]
    refine (binary4 t x y w).mono ?_
    rintro e w' ⟨rfl, m, rfl⟩
    exact ⟨_, _, m, bin_stays 4 t x y (by decide), rfl, rfl⟩
  · rw [name2_5 n h, show outN n t = outT 5 t from by simp [outN, outT, h]]
    refine (binary5 t x y w).mono ?_
    rintro e w' ⟨rfl, m, rfl⟩
    exact ⟨_, _, m, bin_stays 5 t x y (by decide), rfl, rfl⟩
  · rw [name2_6 n h, show outN n t = outT 6 t from by simp [outN, outT, h]]
    refine (binary6 t x y w).mono ?_
    rintro e w' ⟨rfl, m, rfl⟩
    exact ⟨_, _, m, bin_stays 6 t x y (by decide), rfl, rfl⟩
  · rw [name2_7 n h, show outN n t = outT 7 t from by simp [outN, outT, h]]
    refine (binary7 t x y w).mono ?_
    rintro e w' ⟨rfl, m, rfl⟩
    exact ⟨_, _, m, bin_stays 7 t x y (by decide), rfl, rfl⟩
  · rw [name2_8 n h, show outN n t = outT 8 t from by simp [outN, outT, h]]
    refine (binary8 t x y w).mono ?_
    rintro e w' ⟨rfl, m, rfl⟩
    exact ⟨_, _, m, bin_stays 8 t x y (by decide), rfl, rfl⟩
  · rw [name2_9 n h, show outN n t = outT 9 t from by simp [outN, outT, h]]
    refine (binary9 t x y w).mono ?_
    rintro e w' ⟨rfl, m, rfl⟩
    exact ⟨_, _, m, bin_stays 9 t x y (by decide), rfl, rfl⟩
  · rw [name2_10 n h, show outN n t = outT 10 t from by simp [outN, outT, h]]
    refine (binary10 t x y w).mono ?_
    rintro e w' ⟨rfl, m, rfl⟩
    exact ⟨_, _, m, bin_stays 10 t x y (by decide), rfl, rfl⟩
  · rw [name2_11 n h, show outN n t = outT 11 t from by simp [outN, outT, h]]
    refine (binary11 t x y w).mono ?_
    rintro e w' ⟨rfl, m, rfl⟩
    exact ⟨_, _, m, bin_stays 11 t x y (by decide), rfl, rfl⟩

theorem drewN_alloc (w : World) (a : Nat) (o : Obj) : (w.drewN a).alloc o = (w.alloc o).drewN a := rfl

def Kinds (n t : Int) : Prop := (outN n t = 9 ∧ ((name2 n).toList == [69, 113, 117, 97, 108]) = true) ∨ (outN n t = 9 ∧ ((name2 n).toList == [69, 113, 117, 97, 108]) = false ∧ ((name2 n).toList == [76, 101, 115, 115]) = true) ∨ (outN n t = 9 ∧ ((name2 n).toList == [69, 113, 117, 97, 108]) = false ∧ ((name2 n).toList == [76, 101, 115, 115]) = false ∧ ((name2 n).toList == [71, 114, 101, 97, 116, 101, 114]) = true) ∨ (outN n t = t ∧ ((name2 n).toList == [69, 113, 117, 97, 108]) = false ∧ ((name2 n).toList == [76, 101, 115, 115]) = false ∧ ((name2 n).toList == [71, 114, 101, 97, 116, 101, 114]) = false)

set_option maxHeartbeats 4000000 in
theorem stays_all (n t x y : Int) (w : World) (hn : -9223372036854775808 ≤ n ∧ n ≤ 9223372036854775807) (hq : Kinds n t) : Calls Try.prog 6 #[.int .i64 n, .int .i64 t, .agg #[.int .i64 x, .int .i64 y]] w fun e w' => e = .returned (.bool true) ∧ Grown w w' := by
  have HN : Hid (-9223372036854775808 ≤ n ∧ n ≤ 9223372036854775807) := hn
  have HQ : Hid (Kinds n t) := hq
  clear hn hq
  go_enter Try.func6, Try.ntmps6
  go_wp2_with fail
  go_cut [7, 8] (fun a e wx => ∃ (v c : Int) (m : Nat) (cs : Array Value) (T : TypeId), (c = 0 ∧ chk t v = true ∨ c = 1) ∧ a = .int .i64 v ∧ e = .int .i64 c ∧ wx = ((w.alloc (.cells #[.int .i64 x, .int .i64 y] 28)).alloc (.cells cs T)).drewN m)
  case first =>
    go_region_with (first | (go_at_call 18; refine (ops1_any _ _ HN.out).mono ?_; rintro e w' ⟨rfl, cs, T, rfl⟩) | (go_at_call 9; refine (stay_any _ _ _ _).mono ?_; rintro e w' ⟨v, c, n1, hv, rfl, rfl⟩))
    all_goals
      go_wp2_with fail
      go_meet
      exact ⟨_, _, _, _, _, hv, rfl, rfl, rfl⟩
  case rest =>
    obtain ⟨v, c, m, cs, T, hv, rfl, rfl, rfl⟩ := hcut
    go_wp2_with fail
    go_cut [9, 10] (fun b f wx => ∃ (v2 c2 : Int) (m2 : Nat) (cs2 : Array Value) (T2 : TypeId), ((c2 != 0) = true ∨ c2 = 0 ∧ chk (outN n t) v2 = true) ∧ b = .int .i64 v2 ∧ f = .int .i64 c2 ∧ wx = (((w.alloc (.cells #[.int .i64 x, .int .i64 y] 28)).alloc (.cells cs T)).alloc (.cells cs2 T2)).drewN m2)
    case first =>
      go_region_with (first | (go_at_call 19; refine (ops2_any _ _ HN.out).mono ?_; rintro e w' ⟨rfl, cs2, T2, rfl⟩) | (go_at_call 14; refine (stay_two _ _ _ _ _).mono ?_; rintro e w' ⟨v2, c2, n2, hv2, rfl, rfl⟩))
      all_goals
        go_wp2_with fail
        go_meet
        exact ⟨_, _, m + 1 + n2, cs2, T2, hv2, rfl, rfl, by rw [drewN_alloc, World.drewN_drewN]⟩
    case rest =>
      obtain ⟨v2, c2, m2, cs2, T2, hv2, rfl, rfl, rfl⟩ := hcut
      rcases HQ.out with ⟨ho, q0⟩ | ⟨ho, q0, q1⟩ | ⟨ho, q0, q1, q2⟩ | ⟨ho, q0, q1, q2⟩
      all_goals
        rw [ho] at hv2
        clear ho HQ
        rcases hv with ⟨rfl, hv⟩ | rfl <;> rcases hv2 with hv2 | ⟨rfl, hv2⟩
        all_goals
          go_wp2_with (first | (go_at_call 11; refine (check_any _ _ _).mono ?_; rintro e w' ⟨rfl, rfl⟩) | (go_at_call 19; refine (ops2_any _ _ HN.out).mono ?_; rintro e w' ⟨rfl, cs3, T3, rfl⟩) | (go_at_call 13; refine (live_any _).mono ?_; rintro e w' ⟨rfl, n3, rfl⟩) | fail)
          go_ret
          exact ⟨rfl, by repeat (first | exact Grown.refl _ | apply grown_drewN | apply Grown.drew | apply Grown.alloc)⟩

theorem stays_ends (n : Int) (hn : (Lit.int .i64 n).wf = true) (t : Int) (_ : (Lit.int .i64 t).wf = true) (x y : Int) (_ : (Lit.int .i64 x).wf = true) (_ : (Lit.int .i64 y).wf = true) (w : World) : Calls Try.prog 6 #[.int .i64 n, .int .i64 t, .agg #[.int .i64 x, .int .i64 y]] w fun e w' => e = .returned (.bool true) ∧ Grown w w' := by
  have hw : -9223372036854775808 ≤ n ∧ n ≤ 9223372036854775807 := by
    simpa [Lit.wf, IntKind.min, IntKind.max, IntKind.signed, IntKind.bits] using hn
  rcases idx2_cases n with h | h | h | h | h | h | h | h | h | h | h | h
  · exact stays_all n t x y w hw (.inr (.inr (.inr ⟨by simp [outN, h], by rw [name2_0 n h, ByteArray.toList_eq]; decide, by rw [name2_0 n h, ByteArray.toList_eq]; decide, by rw [name2_0 n h, ByteArray.toList_eq]; decide⟩)))
  · exact stays_all n t x y w hw (.inr (.inr (.inr ⟨by simp [outN, h], by rw [name2_1 n h, ByteArray.toList_eq]; decide, by rw [name2_1 n h, ByteArray.toList_eq]; decide, by rw [name2_1 n h, ByteArray.toList_eq]; decide⟩)))
  · exact stays_all n t x y w hw (.inr (.inr (.inr ⟨by simp [outN, h], by rw [name2_2 n h, ByteArray.toList_eq]; decide, by rw [name2_2 n h, ByteArray.toList_eq]; decide, by rw [name2_2 n h, ByteArray.toList_eq]; decide⟩)))
  · exact stays_all n t x y w hw (.inr (.inr (.inr ⟨by simp [outN, h], by rw [name2_3 n h, ByteArray.toList_eq]; decide, by rw [name2_3 n h, ByteArray.toList_eq]; decide, by rw [name2_3 n h, ByteArray.toList_eq]; decide⟩)))
  · exact stays_all n t x y w hw (.inr (.inr (.inr ⟨by simp [outN, h], by rw [name2_4 n h, ByteArray.toList_eq]; decide, by rw [name2_4 n h, ByteArray.toList_eq]; decide, by rw [name2_4 n h, ByteArray.toList_eq]; decide⟩)))
  · exact stays_all n t x y w hw (.inr (.inr (.inr ⟨by simp [outN, h], by rw [name2_5 n h, ByteArray.toList_eq]; decide, by rw [name2_5 n h, ByteArray.toList_eq]; decide, by rw [name2_5 n h, ByteArray.toList_eq]; decide⟩)))
  · exact stays_all n t x y w hw (.inr (.inr (.inr ⟨by simp [outN, h], by rw [name2_6 n h, ByteArray.toList_eq]; decide, by rw [name2_6 n h, ByteArray.toList_eq]; decide, by rw [name2_6 n h, ByteArray.toList_eq]; decide⟩)))
  · exact stays_all n t x y w hw (.inr (.inr (.inr ⟨by simp [outN, h], by rw [name2_7 n h, ByteArray.toList_eq]; decide, by rw [name2_7 n h, ByteArray.toList_eq]; decide, by rw [name2_7 n h, ByteArray.toList_eq]; decide⟩)))
  · exact stays_all n t x y w hw (.inr (.inr (.inr ⟨by simp [outN, h], by rw [name2_8 n h, ByteArray.toList_eq]; decide, by rw [name2_8 n h, ByteArray.toList_eq]; decide, by rw [name2_8 n h, ByteArray.toList_eq]; decide⟩)))
  · exact stays_all n t x y w hw (.inl ⟨by simp [outN, h], by rw [name2_9 n h, ByteArray.toList_eq]; decide⟩)
  · exact stays_all n t x y w hw (.inr (.inl ⟨by simp [outN, h], by rw [name2_10 n h, ByteArray.toList_eq]; decide, by rw [name2_10 n h, ByteArray.toList_eq]; decide⟩))
  · exact stays_all n t x y w hw (.inr (.inr (.inl ⟨by simp [outN, h], by rw [name2_11 n h, ByteArray.toList_eq]; decide, by rw [name2_11 n h, ByteArray.toList_eq]; decide, by rw [name2_11 n h, ByteArray.toList_eq]; decide⟩)))
end Go.Proofs.Ytcfgnhjoajibkab
