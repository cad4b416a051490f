/- A part. -/
import Derived.Test.YtbgbpfbjeleooaaGreatMRart
import Derived.Test.YtbgbpfbjeleooaaGreatRartAL
import Derived.Deep.LoopGhost
import Derived.Deep.AppendLies
set_option maxHeartbeats 3200000
set_option maxRecDepth 100000
namespace Go.Proofs.YtbgbpfbjeleooaaGreat.Wr
open Go.RowKit
def OwnsL {α : Type} (te : TypeId) (size : Nat) (f : α → List Value) (w : World) (base : Nat) (v : Value) (xs : List α) : Prop :=
 w.ownsRow base te size v xs.length (xs.flatMap f)
theorem OwnsL.kept {α : Type} {te : TypeId} {size : Nat} {f : α → List Value} {w w' : World} {base : Nat} {v : Value} {xs : List α} (h : OwnsL te size f w base v xs) {row : Option Nat} (hg : w.grownBy w' row) (hr : ∀ g, row = some g → g < base) : OwnsL te size f w' base v xs := by
 refine World.ownsRow.kept h hg ?_
 cases hv : v.ownBlock with
 | none => exact .inl rfl
 | some k =>
  refine .inr fun e => ?_
  have h1 := World.ownsRow.lt h k hv
  have h2 := hr k e.symm
  omega
theorem OwnsL.more {α : Type} {te : TypeId} {size : Nat} {f : α → List Value} {w w' : World} {base : Nat} {v : Value} {xs : List α} (h : OwnsL te size f w base v xs) (hg : w.grownBy w' none) : OwnsL te size f w' base v xs := h.kept hg (by simp)
theorem OwnsL.nil {α : Type} (te : TypeId) (size : Nat) (f : α → List Value) (w : World) (base : Nat) : OwnsL te size f w base (.slice none 0 0) [] := World.ownsRow_nil _ _ _ _
theorem OwnsL.base_le {α : Type} {te : TypeId} {size : Nat} {f : α → List Value} {w : World} {base b' : Nat} {v : Value} {xs : List α} (h : OwnsL te size f w base v xs) (hb : b' ≤ base) : OwnsL te size f w b' v xs := by
 refine ⟨h.1, ?_⟩
 rcases h.2 with h0 | ⟨g, cap, cur, e, hg, r⟩
 ·exact .inl h0
 ·exact .inr ⟨g, cap, cur, e, by omega, r⟩
theorem OwnsL.form {α : Type} {te : TypeId} {size : Nat} {f : α → List Value} {w : World} {base : Nat} {v : Value} {xs : List α} (h : OwnsL te size f w base v xs) : ∃ ao cap, v = .slice ao xs.length cap := by
 rcases h.2 with ⟨rfl, h0⟩ | ⟨g, cap, cur, rfl, _⟩
 ·exact ⟨none, 0, by rw [h0]⟩
 ·exact ⟨_, _, rfl⟩
theorem jdg {α : Type} {te : TypeId} {size : Nat} {f : α → List Value} {a w w' : World} {base : Nat} {v : Value} {xs : List α} (h : OwnsL te size f w base v xs) (ha : a.grownBy w none) (hab : a.heap.size ≤ base) (hg : w.grownBy w' v.ownBlock) : a.grownBy w' none :=
 jak ha hg (fun g e => by have := World.ownsRow.lt h g e; omega)
theorem jc5 {α : Type} {o : Oper} {a : Act} {w : World} {K : Act → World → Prop} {Q : Exit → Act → World → Prop} (s x : Operand) (t te : TypeId) (size bytes : Nat) (z : Value) (i0 : TypeInfo) (f : α → List Value)
    (ho : o.op = .call { callee := .builtin .append, args := #[s, x], argTypes := #[t, t] }) (ht : Tryz.prog.underlying t = some (.slice te)) (hi : Tryz.prog.info? te = some i0) (hz : i0.zero = some z)
    (hsize : i0.size = size) (hby : i0.bytes = bytes) (hzs : z.cells.size = size) (hsz : 0 < size) (base : Nat) (v : Value) (xs : List α) (hs : a.eval s = v) (hown : OwnsL te size f w base v xs)
    (B c : Nat) (y : α) (cs : Array Value) (hx : a.eval x = .slice (some ⟨B, 0, none⟩) 1 c) (hB : w.heap[B]? = some (.cells cs te (0, 0))) (hcs : cs.toList = f y) (hl : (f y).length = size) (h1 : ∀ u ∈ f y, u.oneCell' = true)
    (hbytes : (xs.length + 1) * bytes ≤ 140737488355328) (h63 : xs.length + 1 ≤ maxLen) (hbase : base ≤ w.heap.size)
    (h : ∀ v' w', OwnsL te size f w' base v' (xs ++ [y]) → w.grownBy w' v.ownBlock → K (a.put o.dst v') w') : o.wp Tryz.prog a w K Q := by
     refine wp_append_own w s x t ho base te i0 z size bytes ht hi hz hsize hby hzs hsz v _ _ hs hown ⟨B, 0, none⟩ 1 c (f y) hx (by omega) ?_ h1 h63 hbytes hbase ?_
     ·intro j u hu
      rw [Addr.add_lit, cell_of_row _ _ _ _ _ (0, 0) hB]
      rw [← hcs] at hu
      simpa using hu
     ·intro v' w' ho' hg _
      refine h v' w' ?_ hg
      unfold OwnsL
      simpa [List.flatMap_append] using ho'
end Go.Proofs.YtbgbpfbjeleooaaGreat.Wr
namespace Go.Proofs.YtbgbpfbjeleooaaGreat.Wr
open Go.RowKit
theorem jj9 (u c i : Nat) (hi : i ≤ 9) (hu : u < 128 ^ i) (h9 : i = 9 → c ≤ 1) : IntKind.u64.wrap ((u : Int) + IntKind.u64.wrap ((c : Int) % 128 * 2 ^ (7 * i))) = ((u + c % 128 * 128 ^ i : Nat) : Int) := by
 have h2 : u + c % 128 * 128 ^ i < 18446744073709551616 := by
  by_cases h : i ≤ 8
  ·have h1 := jgo (b := c) h hu
   have h2 := jhB (i := i + 1) (by omega)
   omega
  ·obtain rfl : i = 9 := by omega
   have := h9 rfl
   simp at hu
   omega
 have e : (c : Int) % 128 * 2 ^ (7 * i) = ((c % 128 * 128 ^ i : Nat) : Int) := by rw [← jfX]; simp
 rw [e, IntKind.wrap_u64, IntKind.wrap_u64, Int.emod_eq_of_lt (b := 18446744073709551616) (a := ((c % 128 * 128 ^ i : Nat) : Int)) (by omega) (by omega), Int.emod_eq_of_lt (by omega) (by omega)]
 omega
theorem jlN (u c : Nat) (hu : u < 128 ^ 9) (hc : c ≤ 1) : IntKind.u64.wrap ((u : Int) + (c : Int) % 128 * 9223372036854775808) = ((u + c * 128 ^ 9 : Nat) : Int) := by
 simp at hu
 rw [IntKind.wrap_u64, Int.emod_eq_of_lt (by omega) (by omega)]
 simp
 omega
theorem jka {s : ByteArray} {p u : Nat} (ht : tk s p = tkF s p (10 - 9) 9 u) (hin : p + 9 < s.size) (hu : u < 128 ^ 9) (hc : bt s (p + 9) ≤ 1) :
    ∃ X : Nat, IntKind.u64.wrap ((u : Int) + (bt s (p + 9) : Int) % 128 * 9223372036854775808) = (X : Int) ∧ tk s p = some (X, p + 9 + 1) :=
     ⟨_, jlN u _ hu hc, by rw [ht]; exact jdv hin (by omega) (by omega)⟩
theorem je7 (s : ByteArray) (p : Nat) (w : World) (hs : s.size ≤ 140737488355328) (hp : p ≤ s.size) :
    Calls Tryz.prog 76 #[.string s, .int .i64 p] w fun e w' => e = .returned (.tuple #[.int .u64 (tkU s p), .int .i64 (tkN s p), .bool (tkB s p)]) ∧ w' = w := by
     go_enter Tryz.func76, Tryz.ntmps76
     go_wp2
     go_loop [7, 8] (fun u i => ∃ k U : Nat, k ≤ 9 ∧ i = .int .i64 k ∧ u = .int .u64 U ∧ U < 128 ^ k ∧ tk s p = tkF s p (10 - k) k U) (fun _ i => 10 - (intOf i).toNat)
     case atStart => exact ⟨0, 0, by omega, rfl, rfl, by simp, rfl⟩
     case round =>
      obtain ⟨k, U, hk, rfl, rfl, hU, htk⟩ := hrel
      have HT := jac htk
      have HU := jac hU
      clear htk hU
      have hbt := bt_lt s (p + k)
      have e1 : 10 - k = 10 - (k + 1) + 1 := by omega
      have HE := jac e1
      clear e1
      by_cases hin : p + k < s.size
      ·have hat := bt_at s (p + k) hin
       by_cases h9 : k = 9
       ·subst h9
        by_cases hbig : 1 < bt s (p + 9)
        ·go_wp2
         go_ret3
         have hn : tk s p = none := by rw [HT.out]; exact jiG hbig
         exact ⟨by simp [tkU, tkN, tkB, hn], rfl⟩
        ·obtain ⟨X, hX1, hX2⟩ := jka (u := U) HT.out hin HU.out (by omega)
         have HO := jac hX1
         have HX := jac hX2
         clear hX1 hX2 HT HU
         go_wp2
         rw [HO.out]
         go_ret3
         exact ⟨by simp [tkU, tkN, tkB, HX.out], rfl⟩
       ·have h9' : ((k : Int) == 9) = false := by rw [beq_eq_false_iff_ne]; omega
        have HO := jac (jj9 U (bt s (p + k)) k (by omega) HU.out (fun h => absurd h h9))
        by_cases hsm : bt s (p + k) < 128
        ·go_wp2
         rw [HO.out]
         go_ret3
         have hn : tk s p = some (U + bt s (p + k) % 128 * 128 ^ k, p + k + 1) := by rw [HT.out, HE.out, jdv hin (by omega) hsm, Nat.mod_eq_of_lt hsm]
         exact ⟨by simp [tkU, tkN, tkB, hn], rfl⟩
        ·go_wp2
         rw [HO.out]
         go_round
         case rel => exact ⟨k + 1, _, by omega, by go_num, rfl, jgo (by omega) HU.out, by rw [HT.out, HE.out, jfS hin (by omega) hsm]⟩
         case measure => simp [intOf]; omega
      ·go_wp2
       go_ret3
       have hn : tk s p = none := by rw [HT.out]; exact jg0 (by omega)
       exact ⟨by simp [tkU, tkN, tkB, hn], rfl⟩
theorem jfD (s : ByteArray) (p n : Nat) (w : World) (hs : s.size ≤ 140737488355328) (hp : p + n ≤ s.size) (hn : n ≤ 8) :
    Calls Tryz.prog 77 #[.string s, .int .i64 p, .int .i64 n] w fun e w' => e = .returned (.int .u64 (low s p n)) ∧ w' = w := by
     go_enter Tryz.func77, Tryz.ntmps77
     go_wp2
     go_loop [7, 8] (fun u i => ∃ k : Nat, k ≤ n ∧ i = .int .i64 ((k : Int) - 1) ∧ u = .int .u64 (low s (p + k) (n - k))) (fun _ i => (intOf i + 1).toNat)
     case atStart => exact ⟨n, Nat.le_refl _, rfl, by simp [low]⟩
     case round =>
      obtain ⟨k, hk, rfl, rfl⟩ := hrel
      by_cases h0 : 0 < k
      ·obtain ⟨j, rfl⟩ : ∃ j, k = j + 1 := ⟨k - 1, by omega⟩
       have hl := jgp s (n - (j + 1)) (p + (j + 1))
       have hpw : 256 ^ (n - (j + 1)) ≤ 72057594037927936 := by
        have : n - (j + 1) ≤ 7 := by omega
        have h8 := Nat.pow_le_pow_right (n := 256) (by omega) this
        simpa using h8
       have hlb : low s (p + (j + 1)) (n - (j + 1)) < 72057594037927936 := by omega
       have hat := bt_at s (p + j) (by omega)
       have hbt := bt_lt s (p + j)
       have HS : Hid (low s (p + j) (n - j) = bt s (p + j) + 256 * low s (p + (j + 1)) (n - (j + 1))) := by
        have e : n - j = n - (j + 1) + 1 := by omega
        rw [e, low]; rfl
       clear hl hpw
       go_wp2
       go_round
       case rel => exact ⟨j, by omega, rfl, by rw [HS.out]; go_num⟩
       case measure => simp [intOf]
      ·obtain rfl : k = 0 := by omega
       go_wp2
       go_ret
       exact ⟨rfl, rfl⟩
end Go.Proofs.YtbgbpfbjeleooaaGreat.Wr
namespace Go.Proofs.YtbgbpfbjeleooaaGreat.Wr
open Go.RowKit
def RFld (s : ByteArray) (p : Nat) (e : Ending) : Prop :=
 (∃ x q, fd s p = some (x, q) ∧ e = .returned (.tuple #[jbq x, .int .i64 (q : Nat), .bool true])) ∨ (fd s p = none ∧ ∃ x N, e = .returned (.tuple #[jbq x, .int .i64 N, .bool false]))
theorem jci (w : World) (a b : Obj) : w.grownBy ((w.alloc a).alloc b) none := jaa (jab _ _) (jab _ _)
theorem jg9 {s : ByteArray} {p u q : Nat} (h : tk s p = some (u, q)) : tkU s p = u ∧ tkN s p = q ∧ tkB s p = true := by simp [tkU, tkN, tkB, h]
theorem jha {s : ByteArray} {p : Nat} (h : tk s p = none) : tkU s p = 0 ∧ tkN s p = 0 ∧ tkB s p = false := by simp [tkU, tkN, tkB, h]
theorem jgw (s : ByteArray) (p : Nat) (w : World) (hs : s.size ≤ 140737488355328) (hp : p ≤ s.size) :
    Calls Tryz.prog 48 #[.string s, .int .i64 p] w fun e w' => RFld s p e ∧ w.grownBy w' none := by
     have hnot : ∀ (x : Bool) (w : World), (Op.unary .not (.bool x)).run Tryz.prog w = .ok (.bool (!x)) w := fun _ _ => rfl
     have T := jac (fun wx => je7 s p wx hs hp)
     go_enter Tryz.func48, Tryz.ntmps48
     go_wp2_with fail
     refine (T.out _).mono ?_
     rintro e w1 ⟨rfl, rfl⟩
     cases ht : tk s p with
     | none =>
      obtain ⟨e1, e2, e3⟩ := jha ht
      rw [e1, e2, e3]
      go_wp2
      refine bodyPost_ret (v := .tuple #[jbq ⟨0, 0, 0, ByteArray.empty⟩, .int .i64 0, .bool false]) (by simp [results, Tryz.results48, go_sem, jbq, hem]) rfl ?_
      exact ⟨.inr ⟨by simp only [fd, ht], ⟨0, 0, 0, ByteArray.empty⟩, _, rfl⟩, jab _ _⟩
     | some tq =>
      obtain ⟨t, q⟩ := tq
      obtain ⟨e1, e2, e3⟩ := jg9 ht
      rw [e1, e2, e3]
      have hsp := tk_spec ht
      have HT := jac ht
      clear ht e1 e2 e3
      by_cases hbad : 4294967295 < t ∨ t < 8
      ·have hn : fd s p = none := by simp only [fd, HT.out, fdT, hbad, if_true]
       rcases hbad with hbad | hbad
       ·go_wp2
        refine bodyPost_ret (v := .tuple #[jbq ⟨0, 0, 0, ByteArray.empty⟩, .int .i64 0, .bool false]) (by simp [results, Tryz.results48, go_sem, jbq, hem]) rfl ?_
        exact ⟨.inr ⟨hn, ⟨0, 0, 0, ByteArray.empty⟩, _, rfl⟩, jab _ _⟩
       ·go_wp2
        refine bodyPost_ret (v := .tuple #[jbq ⟨0, 0, 0, ByteArray.empty⟩, .int .i64 0, .bool false]) (by simp [results, Tryz.results48, go_sem, jbq, hem]) rfl ?_
        exact ⟨.inr ⟨hn, ⟨0, 0, 0, ByteArray.empty⟩, _, rfl⟩, jab _ _⟩
      ·have ht1 : t ≤ 4294967295 := by omega
       have ht2 : 8 ≤ t := by omega
       have HB := jac hbad
       clear hbad
       have T2 := jac (fun wx => je7 s q wx hs (by omega))
       obtain ⟨k, hk⟩ : ∃ k, t % 8 = k := ⟨_, rfl⟩
       have hm : (t : Int) % 8 = k := by omega
       have hk8 : k < 8 := by omega
       have HK := jac hk
       clear hk
       by_cases k0 : k = 0
       ·subst k0
        go_wp2_with fail
        refine (T2.out _).mono ?_
        rintro e w1 ⟨rfl, rfl⟩
        cases hu : tk s q with
        | none =>
         obtain ⟨e1, e2, e3⟩ := jha hu
         rw [e1, e2, e3]
         go_wp2
         refine bodyPost_ret (v := .tuple #[jbq ⟨(t / 8 : Nat), 0, 0, ByteArray.empty⟩, .int .i64 0, .bool false]) (by simp [results, Tryz.results48, go_sem, jbq, hem]) rfl ?_
         exact ⟨.inr ⟨by simp [fd, fdT, HT.out, HB.out, HK.out, hu], _, _, rfl⟩, jci _ _ _⟩
        | some ur =>
         obtain ⟨u, r⟩ := ur
         obtain ⟨e1, e2, e3⟩ := jg9 hu
         rw [e1, e2, e3]
         have HU := jac hu
         clear hu e1 e2 e3
         go_wp2
         refine bodyPost_ret (v := .tuple #[jbq ⟨(t / 8 : Nat), 0, u, ByteArray.empty⟩, .int .i64 (r : Nat), .bool true]) (by simp [results, Tryz.results48, go_sem, jbq, hem]) rfl ?_
         exact ⟨.inl ⟨_, r, by simp [fd, fdT, HT.out, HB.out, HK.out, HU.out], rfl⟩, jci _ _ _⟩
       by_cases k1 : k = 1
       ·subst k1
        by_cases hle : q + 8 ≤ s.size
        ·have L := jac (fun wx => jfD s q 8 wx hs hle (by omega))
         go_wp2_with fail
         refine (L.out _).mono ?_
         rintro e w1 ⟨rfl, rfl⟩
         go_wp2
         refine bodyPost_ret (v := .tuple #[jbq ⟨(t / 8 : Nat), 1, (low s q 8 : Nat), ByteArray.empty⟩, .int .i64 ((q : Int) + 8), .bool true]) (by simp [results, Tryz.results48, go_sem, jbq, hem]) rfl ?_
         exact ⟨.inl ⟨_, q + 8, by simp [fd, fdT, HT.out, HB.out, HK.out, hle], rfl⟩, jci _ _ _⟩
        ·go_wp2
         refine bodyPost_ret (v := .tuple #[jbq ⟨0, 0, 0, ByteArray.empty⟩, .int .i64 0, .bool false]) (by simp [results, Tryz.results48, go_sem, jbq, hem]) rfl ?_
         exact ⟨.inr ⟨by simp [fd, fdT, HT.out, HB.out, HK.out, hle], ⟨0, 0, 0, ByteArray.empty⟩, _, rfl⟩, jci _ _ _⟩
       by_cases k5 : k = 5
       ·subst k5
        by_cases hle : q + 4 ≤ s.size
        ·have L := jac (fun wx => jfD s q 4 wx hs hle (by omega))
         go_wp2_with fail
         refine (L.out _).mono ?_
         rintro e w1 ⟨rfl, rfl⟩
         go_wp2
         refine bodyPost_ret (v := .tuple #[jbq ⟨(t / 8 : Nat), 5, (low s q 4 : Nat), ByteArray.empty⟩, .int .i64 ((q : Int) + 4), .bool true]) (by simp [results, Tryz.results48, go_sem, jbq, hem]) rfl ?_
         exact ⟨.inl ⟨_, q + 4, by simp [fd, fdT, HT.out, HB.out, HK.out, hle], rfl⟩, jci _ _ _⟩
        ·go_wp2
         refine bodyPost_ret (v := .tuple #[jbq ⟨0, 0, 0, ByteArray.empty⟩, .int .i64 0, .bool false]) (by simp [results, Tryz.results48, go_sem, jbq, hem]) rfl ?_
         exact ⟨.inr ⟨by simp [fd, fdT, HT.out, HB.out, HK.out, hle], ⟨0, 0, 0, ByteArray.empty⟩, _, rfl⟩, jci _ _ _⟩
       by_cases k2 : k = 2
       ·subst k2
        go_wp2_with fail
        refine (T2.out _).mono ?_
        rintro e w1 ⟨rfl, rfl⟩
        cases hu : tk s q with
        | none =>
         obtain ⟨e1, e2, e3⟩ := jha hu
         rw [e1, e2, e3]
         go_wp2
         refine bodyPost_ret (v := .tuple #[jbq ⟨0, 0, 0, ByteArray.empty⟩, .int .i64 0, .bool false]) (by simp [results, Tryz.results48, go_sem, jbq, hem]) rfl ?_
         exact ⟨.inr ⟨by simp [fd, fdT, HT.out, HB.out, HK.out, hu], ⟨0, 0, 0, ByteArray.empty⟩, _, rfl⟩, jci _ _ _⟩
        | some ur =>
         obtain ⟨n, r⟩ := ur
         obtain ⟨e1, e2, e3⟩ := jg9 hu
         rw [e1, e2, e3]
         have hsq := tk_spec hu
         have HU := jac hu
         clear hu e1 e2 e3
         by_cases hle : n ≤ s.size - r
         ·go_wp2
          refine bodyPost_ret (v := .tuple #[jbq ⟨(t / 8 : Nat), 2, 0, s.extract r (r + n)⟩, .int .i64 ((r : Int) + n), .bool true]) (by simp [results, Tryz.results48, go_sem, jbq, hem]) rfl ?_
          exact ⟨.inl ⟨_, r + n, by simp [fd, fdT, HT.out, HB.out, HK.out, HU.out, hle], rfl⟩, jci _ _ _⟩
         ·go_wp2
          refine bodyPost_ret (v := .tuple #[jbq ⟨0, 0, 0, ByteArray.empty⟩, .int .i64 0, .bool false]) (by simp [results, Tryz.results48, go_sem, jbq, hem]) rfl ?_
          exact ⟨.inr ⟨by simp [fd, fdT, HT.out, HB.out, HK.out, HU.out]; omega, ⟨0, 0, 0, ByteArray.empty⟩, _, rfl⟩, jci _ _ _⟩
       have hn : fd s p = none := by simp [fd, fdT, HT.out, HB.out, HK.out, k0, k1, k2, k5]
       have j0 : ((k : Int) == 0) = false := by rw [beq_eq_false_iff_ne]; omega
       have j1 : ((k : Int) == 1) = false := by rw [beq_eq_false_iff_ne]; omega
       have j2 : ((k : Int) == 2) = false := by rw [beq_eq_false_iff_ne]; omega
       have j5 : ((k : Int) == 5) = false := by rw [beq_eq_false_iff_ne]; omega
       go_wp2
       refine bodyPost_ret (v := .tuple #[jbq ⟨0, 0, 0, ByteArray.empty⟩, .int .i64 0, .bool false]) (by simp [results, Tryz.results48, go_sem, jbq, hem]) rfl ?_
       exact ⟨.inr ⟨hn, ⟨0, 0, 0, ByteArray.empty⟩, _, rfl⟩, jci _ _ _⟩
end Go.Proofs.YtbgbpfbjeleooaaGreat.Wr
