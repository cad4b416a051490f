/- Floor's exact contract, and what an operator of one makes of what it gave (mkTwice.py). -/
import Derived.Test.YteigfipgmghgmaaGreatDoorNuWalkK3
import Derived.Test.YteigfipgmghgmaaGreatDoorNuPlainZ
import Derived.Test.YteigfipgmghgmaaGreatDoorNuPlainM
namespace Go.Proofs.YteigfipgmghgmaaGreatDoor.Nu
open Go.RowKit
attribute [local go_sem] conv_up conv_down conv_int ext_bits64 ext_from64 ext_from ext_bits run_fadd run_fsub run_fmul run_fquo negF_eq

theorem enc_nan64 (s : Bool) (t : Nat) : (FloatKind.f64.decode (FloatKind.f64.encode (.nan s (FloatKind.f64.format.quiet t)))).isNaN = true := by
  have e2 : Ieee.double.binade = 4503599627370496 := rfl
  have e3 : Ieee.double.infRung = 9218868437227405312 := rfl
  have e5 : Ieee.double.signWeight = 9223372036854775808 := rfl
  have eq : Ieee.double.quiet t = t ||| 2 ^ 51 := rfl
  have hq : (t ||| 2 ^ 51) % 4503599627370496 ≠ 0 := by
    intro h
    have h1 : ((t ||| 2 ^ 51) % 2 ^ 52).testBit 51 = true := by
      rw [Nat.testBit_mod_two_pow, Nat.testBit_or, Nat.testBit_two_pow_self]; simp
    rw [show (2 : Nat) ^ 52 = 4503599627370496 from rfl, h] at h1
    simp at h1
  have hlt : (t ||| 2 ^ 51) % 4503599627370496 < 4503599627370496 := Nat.mod_lt _ (by decide)
  show (Ieee.double.read (Ieee.double.word s (Ieee.double.infRung + Ieee.double.quiet t % Ieee.double.binade))).isNaN = true
  rw [eq, e2, e3]
  generalize (t ||| 2 ^ 51) % 4503599627370496 = f at *
  obtain ⟨w1, w2⟩ := word64_mod s (9218868437227405312 + f) (by omega)
  unfold Ieee.Format.read
  simp only [e2, e3, e5]
  rw [w1, if_neg (by omega), if_neg (by omega), if_neg (by omega)]
  rfl

theorem ext_floorS_ex (x : Nat) (w : World) : ∃ r n, (callFunc 132 #[.float .f64 x]).run Tryz.prog w = .ok (.value (.float .f64 r)) (w.drewN n) ∧ FlS x r := by
  have e : (callFunc 132 #[.float .f64 x]).run Tryz.prog w = ((Extern.MathFloor.toIntegral "math.archFloor" .down #[.float .f64 x]).run Tryz.prog w).andThen fun v w' => .ok (.value v) w' :=
    run_callFunc_extern (fn := Tryz.f132) (by kernel_rfl) (by kernel_rfl) (by kernel_rfl) (by kernel_rfl) (by kernel_rfl) _ _
  rw [e]
  have e2 : ∃ q : Question, q.forced = false ∧ Extern.MathFloor.toIntegral "math.archFloor" .down #[.float .f64 x] = (match FloatKind.f64.decode x with
    | .nan s t =>
      if FloatKind.f64.format.quiet t = t then pure (.float .f64 x) else do
      let kept ← choose q
      pure (.float .f64 (if kept == 1 then x else FloatKind.f64.encode (.nan s (FloatKind.f64.format.quiet t))))
    | d => pure (.float .f64 (FloatKind.f64.encode (d.integral .down)))) := ⟨_, by decide, rfl⟩
  obtain ⟨q, hq, e2⟩ := e2
  rw [e2]
  unfold FlS
  cases h : FloatKind.f64.decode x with
  | number s m i => exact ⟨_, 0, by simp; rfl, rfl⟩
  | infinity s => exact ⟨_, 0, by simp; rfl, rfl⟩
  | nan s t =>
    by_cases ht : FloatKind.f64.format.quiet t = t
    · refine ⟨_, 0, by simp [ht]; exact ⟨rfl, rfl⟩, ?_⟩
      simp only [h]
      rfl
    · refine ⟨_, 1, by simp [ht, hq]; exact ⟨rfl, rfl⟩, ?_⟩
      simp only
      split
      · rw [h]; rfl
      · exact enc_nan64 s t

theorem ext_floorS : ∃ (r : Nat → World → Nat) (n : Nat → World → Nat), ∀ x w, (callFunc 132 #[.float .f64 x]).run Tryz.prog w = .ok (.value (.float .f64 (r x w))) (w.drewN (n x w)) ∧ FlS x (r x w) :=
  ⟨fun x w => Classical.choose (ext_floorS_ex x w), fun x w => Classical.choose (Classical.choose_spec (ext_floorS_ex x w)), fun x w => Classical.choose_spec (Classical.choose_spec (ext_floorS_ex x w))⟩

set_option maxHeartbeats 400000 in
theorem floor_s (x : Nat) (w : World) : Calls Tryz.prog 82 #[.float .f64 x] w fun e w' => ∃ r n, Hid (FlS x r) ∧ e = .returned (.float .f64 r) ∧ w' = w.drewN n := by
  obtain ⟨r, n, hh⟩ := ext_floorS
  have h := fun x w => (hh x w).1
  have HS : Hid (∀ x w, FlS x (r x w)) := fun x w => (hh x w).2
  clear hh
  go_enter Tryz.func82, Tryz.ntmps82
  go_wp2
  go_ret
  exact ⟨_, _, HS.out _ _, rfl, rfl⟩

theorem fl_all (b : Nat) (hb : b < 4294967296) (w1 w2 : World) (r : Nat) (hr : FlS (cval .f32 .f64 b w1) r) : tob (cval .f64 .f32 r w2) = flB b := by
  unfold flB
  by_cases h1 : 2139095040 < b % 2147483648
  · rw [if_pos h1]; exact fl_nan b hb h1 w1 w2 r hr
  · rw [if_neg h1]
    by_cases h2 : b % 2147483648 = 2139095040
    · rw [fl_inf b hb h2 w1 w2 r hr]
      obtain ⟨s, hd, he⟩ := inf_dec b hb h2
      have eW : flW b = b := by unfold flW; rw [hd]
      rw [eW, tob_num b hb, if_neg h1]
    · rw [fl_in b hb (by omega) w1 w2 r hr]
      obtain ⟨f1, f2, f3⟩ := flW_fin b hb (by omega)
      rw [tob_num _ f1, if_neg (by omega)]

set_option maxHeartbeats 400000 in
theorem round6_s (b : Nat) (w : World) (hb : b < 4294967296) : Calls Tryz.prog 49 #[.string ⟨#[70, 108, 111, 111, 114]⟩, .float .f32 b] w fun e w' => ∃ n, e = .returned (.tuple #[.int .i64 (flB b), .int .i64 0]) ∧ w' = w.drewN n := by
  have FA : Hid (∀ w1 w2 r, FlS (cval .f32 .f64 b w1) r → tob (cval .f64 .f32 r w2) = flB b) := fun w1 w2 r hr => fl_all b hb w1 w2 r hr
  clear hb
  go_enter Tryz.func49, Tryz.ntmps49
  go_wp2_with (first | (go_at_call 82; refine (floor_s _ _).mono ?_; rintro e w' ⟨r, n, hs, rfl, rfl⟩) | (go_at_call 62; refine (to_any _ _ (cval_lt _ _)).mono ?_; rintro e w' ⟨rfl, rfl⟩) | go_in)
  go_ret2
  exact ⟨_, congrArg (fun z => Ending.returned (Value.tuple #[.int .i64 z, .int .i64 0])) (FA.out _ _ _ (Hid.out ‹_›)), rfl⟩

set_option maxHeartbeats 400000 in
theorem unary6_s (x : Int) (w : World) (hx : chk 1 x = true) : Calls Tryz.prog 29 #[.string ⟨#[70, 108, 111, 111, 114]⟩, .int .i64 1, .int .i64 x] w fun e w' => ∃ n, e = .returned (.tuple #[.int .i64 (flT x), .int .i64 0]) ∧ w' = w.drewN n := by
  go_enter Tryz.func29, Tryz.ntmps29
  go_wp2_with (first | (go_at_call 45; refine (check_any _ _ _).mono ?_; rintro e w' ⟨rfl, rfl⟩) | (go_at_call 50; refine (from_any _ _).mono ?_; rintro e w' ⟨rfl, rfl⟩) | (go_at_call 49; refine (round6_s _ _ (fb_lt _)).mono ?_; rintro e w' ⟨n, rfl, rfl⟩))
  go_ret2
  exact ⟨_, rfl, rfl⟩

theorem neg_twice_f (x : Int) (hx : chk 1 x = true) : tob (negF (fb (tob (negF (fb x))))) = x := by
  have hb := fb_lt x
  by_cases hn : (FloatKind.f32.format.read (fb x)).isNaN = true
  · have h1 := not_nan x hx
    rw [hn] at h1
    have h2 : x = 2143289344 := of_decide_eq_true h1.symm
    subst h2
    decide +kernel
  · have hn' : (FloatKind.f32.format.read (fb x)).isNaN = false := by simpa using hn
    have hnn : (FloatKind.f32.format.read (negF (fb x))).isNaN = false := by rw [neg_nan _ hb]; exact hn'
    rw [fb_tob _ (negF_lt _ hb) hnn]
    have e : negF (negF (fb x)) = fb x := by
      rw [xor_top _ (negF_lt _ hb), xor_top _ hb]
      split <;> split <;> omega
    rw [e, tob_fb x hx]

theorem abs_twice_f (x : Int) : tob (absF (fb (tob (absF (fb x))))) = tob (absF (fb x)) := by
  have hb := fb_lt x
  have ha : absF (fb x) = fb x % 2147483648 := rfl
  have hl := absF_lt (fb x)
  rw [tob_num _ hl]
  by_cases h1 : 2139095040 < absF (fb x) % 2147483648
  · rw [if_pos h1]; decide +kernel
  · rw [if_neg h1]
    have e1 : fb ((absF (fb x) : Nat) : Int) = absF (fb x) := fb_nat _ hl
    have e2 : absF (absF (fb x)) = absF (fb x) := by
      show absF (fb x) % 2147483648 = absF (fb x)
      rw [ha]; omega
    rw [e1, e2, tob_num _ hl, if_neg h1]

theorem relu_of (b : Nat) : reluF b = b ∨ reluF b = 0 := by
  unfold reluF
  split
  · exact .inl rfl
  · split
    · exact .inl rfl
    · exact .inr rfl

theorem relu_twice_f (x : Int) (hx : chk 1 x = true) : tob (reluF (fb (tob (reluF (fb x))))) = tob (reluF (fb x)) := by
  rcases relu_of (fb x) with h | h
  · rw [h, tob_fb x hx, h, tob_fb x hx]
  · rw [h]; decide +kernel

theorem int_twice (t x : Int) (hx : chk t x = true) (ht : t = 6 ∨ t = 7) (hw : -9223372036854775808 ≤ x ∧ x ≤ 9223372036854775807) : wrapT t (wrap64 (-(wrapT t (wrap64 (-x))))) = x ∧ absI t (absI t x) = absI t x := by
  have b6 : t = 6 → -2147483648 ≤ x ∧ x ≤ 2147483647 := by
    intro h
    subst h
    simpa [chk] using hx
  have key : wrapT t (wrap64 (-(wrapT t (wrap64 (-x))))) = x := by
    rcases ht with rfl | rfl
    · have := b6 rfl
      simp only [wrapT, if_true]
      unfold wrap64 wrap32
      omega
    · simp only [wrapT, show ¬ (7 : Int) = 6 from by decide, if_false]
      unfold wrap64
      omega
  refine ⟨key, ?_⟩
  unfold absI
  by_cases h0 : x < 0
  · rw [if_pos h0]
    by_cases h1 : wrapT t (wrap64 (-x)) < 0
    · rw [if_pos h1, key]
      rcases ht with rfl | rfl
      · have := b6 rfl
        simp only [wrapT, if_true] at h1 ⊢
        unfold wrap64 wrap32 at h1 ⊢
        omega
      · simp only [wrapT, show ¬ (7 : Int) = 6 from by decide, if_false] at h1 ⊢
        unfold wrap64 at h1 ⊢
        omega
    · rw [if_neg h1]
  · rw [if_neg h0, if_neg h0]

/-- What the second one is to be: x itself (0), what the first one gave (1), or any (2). -/
def Tw (q : Nat) (x v v2 : Int) : Prop := if q = 0 then v2 = x else if q = 1 then v2 = v else True

def qOf (k : Nat) : Nat := if k = 0 ∨ k = 1 ∨ k = 3 then 0 else if k = 2 ∨ k = 4 ∨ k = 6 then 1 else 2

theorem un_twice (k : Nat) (t x : Int) (hk : k < 5) (hw : -9223372036854775808 ≤ x ∧ x ≤ 9223372036854775807) (h : (un k t x).2 = 0) : (un k t (un k t x).1).2 = 0 ∧ Tw (qOf k) x (un k t x).1 (un k t (un k t x).1).1 := by
  cases hx : chk t x with
  | false => rw [un_no k t x hx] at h; simp at h
  | true =>
    have hs : chk t (un k t x).1 = true := by
      rcases un_stays k t x hk with ⟨-, h2⟩ | h2
      · exact h2
      · rw [h2] at h; simp at h
    have hk' : k = 0 ∨ k = 1 ∨ k = 2 ∨ k = 3 ∨ k = 4 := by omega
    rcases hk' with rfl | rfl | rfl | rfl | rfl
    · rw [un_0 t x hx]
      simp only
      rw [un_0 t x hx]
      exact ⟨rfl, rfl⟩
    all_goals
      rcases chk_types t x hx with rfl | rfl | rfl | rfl
      · rw [un_1 _ x hx (by decide)] at h hs ⊢
        simp only [unFl] at h hs ⊢
        first
          | (exact absurd h (by decide))
          | (rw [un_1 _ _ hs (by decide)]
             simp only [unFl]
             first | exact ⟨trivial, neg_twice_f x hx⟩ | exact ⟨trivial, abs_twice_f x⟩ | exact ⟨trivial, relu_twice_f x hx⟩)
      · rw [un_6 _ x hx (by decide)] at h hs ⊢
        simp only [unIn] at h hs ⊢
        first
          | (exact absurd h (by decide))
          | (rw [un_6 _ _ hs (by decide)]
             simp only [unIn]
             first | exact ⟨trivial, (int_twice 6 x hx (.inl rfl) hw).1⟩ | exact ⟨trivial, (int_twice 6 x hx (.inl rfl) hw).2⟩)
      · rw [un_7 _ x hx (by decide)] at h hs ⊢
        simp only [unIn] at h hs ⊢
        first
          | (exact absurd h (by decide))
          | (rw [un_7 _ _ hs (by decide)]
             simp only [unIn]
             first | exact ⟨trivial, (int_twice 7 x hx (.inr rfl) hw).1⟩ | exact ⟨trivial, (int_twice 7 x hx (.inr rfl) hw).2⟩)
      · rw [un_9 _ x hx (by decide)] at h hs ⊢
        simp only [unBo] at h hs ⊢
        first
          | (exact absurd h (by decide))
          | (rw [un_9 _ _ hs (by decide)]
             simp only [unBo]
             exact ⟨trivial, show 1 - (1 - x) = x by omega⟩)

/-- An operator, and then once more on what it gave. -/
def Again (k : Nat) (nm : ByteArray) (t x : Int) (w : World) (e : Ending) (w' : World) : Prop := ∃ (v c : Int) (n : Nat), e = .returned (.tuple #[.int .i64 v, .int .i64 c]) ∧ w' = w.drewN n ∧ (c = 1 ∨ c = 0 ∧ ∀ wx, Calls Tryz.prog 29 #[.string nm, .int .i64 t, .int .i64 v] wx fun e w'' => ∃ (v2 : Int) (m : Nat), Tw (qOf k) x v v2 ∧ e = .returned (.tuple #[.int .i64 v2, .int .i64 0]) ∧ w'' = wx.drewN m)

theorem again0 (t x : Int) (w : World) (hw : -9223372036854775808 ≤ x ∧ x ≤ 9223372036854775807) : Calls Tryz.prog 29 #[.string ⟨#[73, 100, 101, 110, 116, 105, 116, 121]⟩, .int .i64 t, .int .i64 x] w (Again 0 ⟨#[73, 100, 101, 110, 116, 105, 116, 121]⟩ t x w) := by
  refine (unary0 t x w).mono ?_
  rintro e w' ⟨rfl, rfl⟩
  refine ⟨_, _, 0, rfl, rfl, ?_⟩
  rcases un_stays 0 t x (by decide) with ⟨h, -⟩ | h
  · refine .inr ⟨h, fun wx => ?_⟩
    obtain ⟨h1, h2⟩ := un_twice 0 t x (by decide) hw h
    refine (unary0 t _ wx).mono ?_
    rintro e w'' ⟨rfl, rfl⟩
    exact ⟨_, 0, h2, by rw [h1], rfl⟩
  · exact .inl h

theorem again1 (t x : Int) (w : World) (hw : -9223372036854775808 ≤ x ∧ x ≤ 9223372036854775807) : Calls Tryz.prog 29 #[.string ⟨#[78, 101, 103]⟩, .int .i64 t, .int .i64 x] w (Again 1 ⟨#[78, 101, 103]⟩ t x w) := by
  refine (unary1 t x w).mono ?_
  rintro e w' ⟨rfl, rfl⟩
  refine ⟨_, _, 0, rfl, rfl, ?_⟩
  rcases un_stays 1 t x (by decide) with ⟨h, -⟩ | h
  · refine .inr ⟨h, fun wx => ?_⟩
    obtain ⟨h1, h2⟩ := un_twice 1 t x (by decide) hw h
    refine (unary1 t _ wx).mono ?_
    rintro e w'' ⟨rfl, rfl⟩
    exact ⟨_, 0, h2, by rw [h1], rfl⟩
  · exact .inl h

theorem again2 (t x : Int) (w : World) (hw : -9223372036854775808 ≤ x ∧ x ≤ 9223372036854775807) : Calls Tryz.prog 29 #[.string ⟨#[65, 98, 115]⟩, .int .i64 t, .int .i64 x] w (Again 2 ⟨#[65, 98, 115]⟩ t x w) := by
  refine (unary2 t x w).mono ?_
  rintro e w' ⟨rfl, rfl⟩
  refine ⟨_, _, 0, rfl, rfl, ?_⟩
  rcases un_stays 2 t x (by decide) with ⟨h, -⟩ | h
  · refine .inr ⟨h, fun wx => ?_⟩
    obtain ⟨h1, h2⟩ := un_twice 2 t x (by decide) hw h
    refine (unary2 t _ wx).mono ?_
    rintro e w'' ⟨rfl, rfl⟩
    exact ⟨_, 0, h2, by rw [h1], rfl⟩
  · exact .inl h

theorem again3 (t x : Int) (w : World) (hw : -9223372036854775808 ≤ x ∧ x ≤ 9223372036854775807) : Calls Tryz.prog 29 #[.string ⟨#[78, 111, 116]⟩, .int .i64 t, .int .i64 x] w (Again 3 ⟨#[78, 111, 116]⟩ t x w) := by
  refine (unary3 t x w).mono ?_
  rintro e w' ⟨rfl, rfl⟩
  refine ⟨_, _, 0, rfl, rfl, ?_⟩
  rcases un_stays 3 t x (by decide) with ⟨h, -⟩ | h
  · refine .inr ⟨h, fun wx => ?_⟩
    obtain ⟨h1, h2⟩ := un_twice 3 t x (by decide) hw h
    refine (unary3 t _ wx).mono ?_
    rintro e w'' ⟨rfl, rfl⟩
    exact ⟨_, 0, h2, by rw [h1], rfl⟩
  · exact .inl h

theorem again4 (t x : Int) (w : World) (hw : -9223372036854775808 ≤ x ∧ x ≤ 9223372036854775807) : Calls Tryz.prog 29 #[.string ⟨#[82, 101, 108, 117]⟩, .int .i64 t, .int .i64 x] w (Again 4 ⟨#[82, 101, 108, 117]⟩ t x w) := by
  refine (unary4 t x w).mono ?_
  rintro e w' ⟨rfl, rfl⟩
  refine ⟨_, _, 0, rfl, rfl, ?_⟩
  rcases un_stays 4 t x (by decide) with ⟨h, -⟩ | h
  · refine .inr ⟨h, fun wx => ?_⟩
    obtain ⟨h1, h2⟩ := un_twice 4 t x (by decide) hw h
    refine (unary4 t _ wx).mono ?_
    rintro e w'' ⟨rfl, rfl⟩
    exact ⟨_, 0, h2, by rw [h1], rfl⟩
  · exact .inl h

theorem again5 (t x : Int) (w : World) (_hw : -9223372036854775808 ≤ x ∧ x ≤ 9223372036854775807) : Calls Tryz.prog 29 #[.string ⟨#[83, 113, 114, 116]⟩, .int .i64 t, .int .i64 x] w (Again 5 ⟨#[83, 113, 114, 116]⟩ t x w) := by
  cases hx : chk t x with
  | false =>
    refine (unary5_no t x w hx).mono ?_
    rintro e w' ⟨rfl, rfl⟩
    exact ⟨_, _, 0, rfl, rfl, .inl (by rw [un_no 5 t x hx])⟩
  | true =>
    rcases chk_types t x hx with rfl | rfl | rfl | rfl
    · refine (unary5_1 x w hx).mono ?_
      rintro e w' ⟨r, n, hr, rfl, rfl⟩
      refine ⟨_, _, n, rfl, rfl, .inr ⟨rfl, fun wx => ?_⟩⟩
      refine (unary5_1 _ wx (chk_tob r hr)).mono ?_
      rintro e w'' ⟨r2, m, hr2, rfl, rfl⟩
      exact ⟨_, m, trivial, rfl, rfl⟩
    · refine (unary5_6 x w hx).mono ?_
      rintro e w' ⟨rfl, rfl⟩
      exact ⟨_, _, 0, rfl, rfl, .inl (by rw [un_6 5 x hx (by decide)]; rfl)⟩
    · refine (unary5_7 x w hx).mono ?_
      rintro e w' ⟨rfl, rfl⟩
      exact ⟨_, _, 0, rfl, rfl, .inl (by rw [un_7 5 x hx (by decide)]; rfl)⟩
    · refine (unary5_9 x w hx).mono ?_
      rintro e w' ⟨rfl, rfl⟩
      exact ⟨_, _, 0, rfl, rfl, .inl (by rw [un_9 5 x hx (by decide)]; rfl)⟩

theorem again6 (t x : Int) (w : World) (_hw : -9223372036854775808 ≤ x ∧ x ≤ 9223372036854775807) : Calls Tryz.prog 29 #[.string ⟨#[70, 108, 111, 111, 114]⟩, .int .i64 t, .int .i64 x] w (Again 6 ⟨#[70, 108, 111, 111, 114]⟩ t x w) := by
  cases hx : chk t x with
  | false =>
    refine (unary6_no t x w hx).mono ?_
    rintro e w' ⟨rfl, rfl⟩
    exact ⟨_, _, 0, rfl, rfl, .inl (by rw [un_no 6 t x hx])⟩
  | true =>
    rcases chk_types t x hx with rfl | rfl | rfl | rfl
    · obtain ⟨h1, h2⟩ := flT_twice x hx
      refine (unary6_s x w hx).mono ?_
      rintro e w' ⟨n, rfl, rfl⟩
      refine ⟨_, _, n, rfl, rfl, .inr ⟨rfl, fun wx => ?_⟩⟩
      refine (unary6_s _ wx h1).mono ?_
      rintro e w'' ⟨m, rfl, rfl⟩
      exact ⟨_, m, h2, rfl, rfl⟩
    · refine (unary6_6 x w hx).mono ?_
      rintro e w' ⟨rfl, rfl⟩
      exact ⟨_, _, 0, rfl, rfl, .inl (by rw [un_6 6 x hx (by decide)]; rfl)⟩
    · refine (unary6_7 x w hx).mono ?_
      rintro e w' ⟨rfl, rfl⟩
      exact ⟨_, _, 0, rfl, rfl, .inl (by rw [un_7 6 x hx (by decide)]; rfl)⟩
    · refine (unary6_9 x w hx).mono ?_
      rintro e w' ⟨rfl, rfl⟩
      exact ⟨_, _, 0, rfl, rfl, .inl (by rw [un_9 6 x hx (by decide)]; rfl)⟩

theorem again7 (t x : Int) (w : World) (_hw : -9223372036854775808 ≤ x ∧ x ≤ 9223372036854775807) : Calls Tryz.prog 29 #[.string ⟨#[69, 120, 112]⟩, .int .i64 t, .int .i64 x] w (Again 7 ⟨#[69, 120, 112]⟩ t x w) := by
  cases hx : chk t x with
  | false =>
    refine (unary7_no t x w hx).mono ?_
    rintro e w' ⟨rfl, rfl⟩
    exact ⟨_, _, 0, rfl, rfl, .inl (by rw [un_no 7 t x hx])⟩
  | true =>
    rcases chk_types t x hx with rfl | rfl | rfl | rfl
    · refine (unary7_1 x w hx).mono ?_
      rintro e w' ⟨r, n, hr, rfl, rfl⟩
      refine ⟨_, _, n, rfl, rfl, .inr ⟨rfl, fun wx => ?_⟩⟩
      refine (unary7_1 _ wx (chk_tob r hr)).mono ?_
      rintro e w'' ⟨r2, m, hr2, rfl, rfl⟩
      exact ⟨_, m, trivial, rfl, rfl⟩
    · refine (unary7_6 x w hx).mono ?_
      rintro e w' ⟨rfl, rfl⟩
      exact ⟨_, _, 0, rfl, rfl, .inl (by rw [un_6 7 x hx (by decide)]; rfl)⟩
    · refine (unary7_7 x w hx).mono ?_
      rintro e w' ⟨rfl, rfl⟩
      exact ⟨_, _, 0, rfl, rfl, .inl (by rw [un_7 7 x hx (by decide)]; rfl)⟩
    · refine (unary7_9 x w hx).mono ?_
      rintro e w' ⟨rfl, rfl⟩
      exact ⟨_, _, 0, rfl, rfl, .inl (by rw [un_9 7 x hx (by decide)]; rfl)⟩

theorem again8 (t x : Int) (w : World) (_hw : -9223372036854775808 ≤ x ∧ x ≤ 9223372036854775807) : Calls Tryz.prog 29 #[.string ⟨#[83, 105, 103, 109, 111, 105, 100]⟩, .int .i64 t, .int .i64 x] w (Again 8 ⟨#[83, 105, 103, 109, 111, 105, 100]⟩ t x w) := by
  cases hx : chk t x with
  | false =>
    refine (unary8_no t x w hx).mono ?_
    rintro e w' ⟨rfl, rfl⟩
    exact ⟨_, _, 0, rfl, rfl, .inl (by rw [un_no 8 t x hx])⟩
  | true =>
    rcases chk_types t x hx with rfl | rfl | rfl | rfl
    · refine (unary8_1 x w hx).mono ?_
      rintro e w' ⟨r, n, hr, rfl, rfl⟩
      refine ⟨_, _, n, rfl, rfl, .inr ⟨rfl, fun wx => ?_⟩⟩
      refine (unary8_1 _ wx (chk_tob r hr)).mono ?_
      rintro e w'' ⟨r2, m, hr2, rfl, rfl⟩
      exact ⟨_, m, trivial, rfl, rfl⟩
    · refine (unary8_6 x w hx).mono ?_
      rintro e w' ⟨rfl, rfl⟩
      exact ⟨_, _, 0, rfl, rfl, .inl (by rw [un_6 8 x hx (by decide)]; rfl)⟩
    · refine (unary8_7 x w hx).mono ?_
      rintro e w' ⟨rfl, rfl⟩
      exact ⟨_, _, 0, rfl, rfl, .inl (by rw [un_7 8 x hx (by decide)]; rfl)⟩
    · refine (unary8_9 x w hx).mono ?_
      rintro e w' ⟨rfl, rfl⟩
      exact ⟨_, _, 0, rfl, rfl, .inl (by rw [un_9 8 x hx (by decide)]; rfl)⟩

theorem again9 (t x : Int) (w : World) (_hw : -9223372036854775808 ≤ x ∧ x ≤ 9223372036854775807) : Calls Tryz.prog 29 #[.string ⟨#[84, 97, 110, 104]⟩, .int .i64 t, .int .i64 x] w (Again 9 ⟨#[84, 97, 110, 104]⟩ t x w) := by
  cases hx : chk t x with
  | false =>
    refine (unary9_no t x w hx).mono ?_
    rintro e w' ⟨rfl, rfl⟩
    exact ⟨_, _, 0, rfl, rfl, .inl (by rw [un_no 9 t x hx])⟩
  | true =>
    rcases chk_types t x hx with rfl | rfl | rfl | rfl
    · refine (unary9_1 x w hx).mono ?_
      rintro e w' ⟨r, n, hr, rfl, rfl⟩
      refine ⟨_, _, n, rfl, rfl, .inr ⟨rfl, fun wx => ?_⟩⟩
      refine (unary9_1 _ wx (chk_tob r hr)).mono ?_
      rintro e w'' ⟨r2, m, hr2, rfl, rfl⟩
      exact ⟨_, m, trivial, rfl, rfl⟩
    · refine (unary9_6 x w hx).mono ?_
      rintro e w' ⟨rfl, rfl⟩
      exact ⟨_, _, 0, rfl, rfl, .inl (by rw [un_6 9 x hx (by decide)]; rfl)⟩
    · refine (unary9_7 x w hx).mono ?_
      rintro e w' ⟨rfl, rfl⟩
      exact ⟨_, _, 0, rfl, rfl, .inl (by rw [un_7 9 x hx (by decide)]; rfl)⟩
    · refine (unary9_9 x w hx).mono ?_
      rintro e w' ⟨rfl, rfl⟩
      exact ⟨_, _, 0, rfl, rfl, .inl (by rw [un_9 9 x hx (by decide)]; rfl)⟩

end Go.Proofs.YteigfipgmghgmaaGreatDoor.Nu
