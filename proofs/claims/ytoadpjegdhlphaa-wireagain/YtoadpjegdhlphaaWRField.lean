/- The document's field, by the walk. -/
import Derived.Test.YtoadpjegdhlphaaWRef
namespace Go.Proofs.Ytoadpjegdhlphaa
open Go.RowKit

/-- What the document's field answers. -/
def RFld (s : ByteArray) (p : Nat) (e : Ending) : Prop :=
  (∃ x q, fd s p = some (x, q) ∧ e = .returned (.tuple #[fval x, .int .i64 (q : Nat), .bool true])) ∨ (fd s p = none ∧ ∃ x N, e = .returned (.tuple #[fval x, .int .i64 N, .bool false]))

theorem two_new (w : World) (a b : Obj) : w.grownBy ((w.alloc a).alloc b) none := grown_trans (grown_new _ _) (grown_new _ _)

theorem tk_some {s : ByteArray} {p u q : Nat} (h : tk s p = some (u, q)) : tkU s p = u ∧ tkN s p = q ∧ tkB s p = true := by simp [tkU, tkN, tkB, h]
theorem tk_none {s : ByteArray} {p : Nat} (h : tk s p = none) : tkU s p = 0 ∧ tkN s p = 0 ∧ tkB s p = false := by simp [tkU, tkN, tkB, h]

set_option maxRecDepth 100000 in
set_option maxHeartbeats 3200000 in
theorem reffield_any (s : ByteArray) (p : Nat) (w : World) (hs : s.size ≤ 140737488355328) (hp : p ≤ s.size) :
    Calls Try.prog 26 #[.string s, .int .i64 p] w fun e w' => RFld s p e ∧ w.grownBy w' none := by
  have hnot : ∀ (x : Bool) (w : World), (Op.unary .not (.bool x)).run Try.prog w = .ok (.bool (!x)) w := fun _ _ => rfl
  have T := hide (fun wx => reftake_any s p wx hs hp)
  go_enter Try.func26, Try.ntmps26
  go_wp2_with fail
  refine (T.out _).mono ?_
  rintro e w1 ⟨rfl, rfl⟩
  cases ht : tk s p with
  | none =>
    obtain ⟨e1, e2, e3⟩ := tk_none ht
    rw [e1, e2, e3]
    go_wp2
    refine bodyPost_ret (v := .tuple #[fval ⟨0, 0, 0, ByteArray.empty⟩, .int .i64 0, .bool false]) (by simp [results, Try.results26, go_sem, fval, hem]) rfl ?_
    exact ⟨.inr ⟨by simp only [fd, ht], ⟨0, 0, 0, ByteArray.empty⟩, _, rfl⟩, grown_new _ _⟩
  | some tq =>
    obtain ⟨t, q⟩ := tq
    obtain ⟨e1, e2, e3⟩ := tk_some ht
    rw [e1, e2, e3]
    have hsp := tk_spec ht
    have HT := hide ht
    clear ht e1 e2 e3
    by_cases hbad : 4294967295 < t ∨ t < 8
    · have hn : fd s p = none := by simp only [fd, HT.out, fdT, hbad, if_true]
      rcases hbad with hbad | hbad
      · go_wp2
        refine bodyPost_ret (v := .tuple #[fval ⟨0, 0, 0, ByteArray.empty⟩, .int .i64 0, .bool false]) (by simp [results, Try.results26, go_sem, fval, hem]) rfl ?_
        exact ⟨.inr ⟨hn, ⟨0, 0, 0, ByteArray.empty⟩, _, rfl⟩, grown_new _ _⟩
      · go_wp2
        refine bodyPost_ret (v := .tuple #[fval ⟨0, 0, 0, ByteArray.empty⟩, .int .i64 0, .bool false]) (by simp [results, Try.results26, go_sem, fval, hem]) rfl ?_
        exact ⟨.inr ⟨hn, ⟨0, 0, 0, ByteArray.empty⟩, _, rfl⟩, grown_new _ _⟩
    · have ht1 : t ≤ 4294967295 := by omega
      have ht2 : 8 ≤ t := by omega
      have HB := hide hbad
      clear hbad
      have T2 := hide (fun wx => reftake_any s q wx hs (by omega))
      obtain ⟨k, hk⟩ : ∃ k, t % 8 = k := ⟨_, rfl⟩
      have hm : (t : Int) % 8 = k := by omega
      have hk8 : k < 8 := by omega
      have HK := hide hk
      clear hk
      by_cases k0 : k = 0
      · subst k0
        go_wp2_with fail
        refine (T2.out _).mono ?_
        rintro e w1 ⟨rfl, rfl⟩
        cases hu : tk s q with
        | none =>
          obtain ⟨e1, e2, e3⟩ := tk_none hu
          rw [e1, e2, e3]
          go_wp2
          refine bodyPost_ret (v := .tuple #[fval ⟨(t / 8 : Nat), 0, 0, ByteArray.empty⟩, .int .i64 0, .bool false]) (by simp [results, Try.results26, go_sem, fval, hem]) rfl ?_
          exact ⟨.inr ⟨by simp [fd, fdT, HT.out, HB.out, HK.out, hu], _, _, rfl⟩, two_new _ _ _⟩
        | some ur =>
          obtain ⟨u, r⟩ := ur
          obtain ⟨e1, e2, e3⟩ := tk_some hu
          rw [e1, e2, e3]
          have HU := hide hu
          clear hu e1 e2 e3
          go_wp2
          refine bodyPost_ret (v := .tuple #[fval ⟨(t / 8 : Nat), 0, u, ByteArray.empty⟩, .int .i64 (r : Nat), .bool true]) (by simp [results, Try.results26, go_sem, fval, hem]) rfl ?_
          exact ⟨.inl ⟨_, r, by simp [fd, fdT, HT.out, HB.out, HK.out, HU.out], rfl⟩, two_new _ _ _⟩
      by_cases k1 : k = 1
      · subst k1
        by_cases hle : q + 8 ≤ s.size
        · have L := hide (fun wx => reflow_any s q 8 wx hs hle (by omega))
          go_wp2_with fail
          refine (L.out _).mono ?_
          rintro e w1 ⟨rfl, rfl⟩
          go_wp2
          refine bodyPost_ret (v := .tuple #[fval ⟨(t / 8 : Nat), 1, (low s q 8 : Nat), ByteArray.empty⟩, .int .i64 ((q : Int) + 8), .bool true]) (by simp [results, Try.results26, go_sem, fval, hem]) rfl ?_
          exact ⟨.inl ⟨_, q + 8, by simp [fd, fdT, HT.out, HB.out, HK.out, hle], rfl⟩, two_new _ _ _⟩
        · go_wp2
          refine bodyPost_ret (v := .tuple #[fval ⟨0, 0, 0, ByteArray.empty⟩, .int .i64 0, .bool false]) (by simp [results, Try.results26, go_sem, fval, hem]) rfl ?_
          exact ⟨.inr ⟨by simp [fd, fdT, HT.out, HB.out, HK.out, hle], ⟨0, 0, 0, ByteArray.empty⟩, _, rfl⟩, two_new _ _ _⟩
      by_cases k5 : k = 5
      · subst k5
        by_cases hle : q + 4 ≤ s.size
        · have L := hide (fun wx => reflow_any s q 4 wx hs hle (by omega))
          go_wp2_with fail
          refine (L.out _).mono ?_
          rintro e w1 ⟨rfl, rfl⟩
          go_wp2
          refine bodyPost_ret (v := .tuple #[fval ⟨(t / 8 : Nat), 5, (low s q 4 : Nat), ByteArray.empty⟩, .int .i64 ((q : Int) + 4), .bool true]) (by simp [results, Try.results26, go_sem, fval, hem]) rfl ?_
          exact ⟨.inl ⟨_, q + 4, by simp [fd, fdT, HT.out, HB.out, HK.out, hle], rfl⟩, two_new _ _ _⟩
        · go_wp2
          refine bodyPost_ret (v := .tuple #[fval ⟨0, 0, 0, ByteArray.empty⟩, .int .i64 0, .bool false]) (by simp [results, Try.results26, go_sem, fval, hem]) rfl ?_
          exact ⟨.inr ⟨by simp [fd, fdT, HT.out, HB.out, HK.out, hle], ⟨0, 0, 0, ByteArray.empty⟩, _, rfl⟩, two_new _ _ _⟩
      by_cases k2 : k = 2
      · subst k2
        go_wp2_with fail
        refine (T2.out _).mono ?_
        rintro e w1 ⟨rfl, rfl⟩
        cases hu : tk s q with
        | none =>
          obtain ⟨e1, e2, e3⟩ := tk_none hu
          rw [e1, e2, e3]
          go_wp2
          refine bodyPost_ret (v := .tuple #[fval ⟨0, 0, 0, ByteArray.empty⟩, .int .i64 0, .bool false]) (by simp [results, Try.results26, go_sem, fval, hem]) rfl ?_
          exact ⟨.inr ⟨by simp [fd, fdT, HT.out, HB.out, HK.out, hu], ⟨0, 0, 0, ByteArray.empty⟩, _, rfl⟩, two_new _ _ _⟩
        | some ur =>
          obtain ⟨n, r⟩ := ur
          obtain ⟨e1, e2, e3⟩ := tk_some hu
          rw [e1, e2, e3]
          have hsq := tk_spec hu
          have HU := hide hu
          clear hu e1 e2 e3
          by_cases hle : n ≤ s.size - r
          · go_wp2
            refine bodyPost_ret (v := .tuple #[fval ⟨(t / 8 : Nat), 2, 0, s.extract r (r + n)⟩, .int .i64 ((r : Int) + n), .bool true]) (by simp [results, Try.results26, go_sem, fval, hem]) rfl ?_
            exact ⟨.inl ⟨_, r + n, by simp [fd, fdT, HT.out, HB.out, HK.out, HU.out, hle], rfl⟩, two_new _ _ _⟩
          · go_wp2
            refine bodyPost_ret (v := .tuple #[fval ⟨0, 0, 0, ByteArray.empty⟩, .int .i64 0, .bool false]) (by simp [results, Try.results26, go_sem, fval, hem]) rfl ?_
            exact ⟨.inr ⟨by simp [fd, fdT, HT.out, HB.out, HK.out, HU.out]; omega, ⟨0, 0, 0, ByteArray.empty⟩, _, rfl⟩, two_new _ _ _⟩
      have hn : fd s p = none := by simp [fd, fdT, HT.out, HB.out, HK.out, k0, k1, k2, k5]
      have j0 : ((k : Int) == 0) = false := by rw [beq_eq_false_iff_ne]; omega
      have j1 : ((k : Int) == 1) = false := by rw [beq_eq_false_iff_ne]; omega
      have j2 : ((k : Int) == 2) = false := by rw [beq_eq_false_iff_ne]; omega
      have j5 : ((k : Int) == 5) = false := by rw [beq_eq_false_iff_ne]; omega
      go_wp2
      refine bodyPost_ret (v := .tuple #[fval ⟨0, 0, 0, ByteArray.empty⟩, .int .i64 0, .bool false]) (by simp [results, Try.results26, go_sem, fval, hem]) rfl ?_
      exact ⟨.inr ⟨hn, ⟨0, 0, 0, ByteArray.empty⟩, _, rfl⟩, two_new _ _ _⟩
end Go.Proofs.Ytoadpjegdhlphaa
