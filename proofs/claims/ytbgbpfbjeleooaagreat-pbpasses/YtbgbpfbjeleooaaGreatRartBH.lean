/- A part. -/
import Derived.Test.YtbgbpfbjeleooaaGreatRartBF
import Derived.Deep.RegionHeld3
import Derived.Test.YtbgbpfbjeleooaaGreatRartAP
set_option maxHeartbeats 12800000
set_option maxRecDepth 100000
namespace Go.Proofs.YtbgbpfbjeleooaaGreat.Wr
open Go.RowKit
theorem jfo (x : Fld) (w : World) (hx : fok x = true) (hin : FldIn x) :
    Calls Tryz.prog 129 #[jbq x] w fun e w' => e = .returned (.int .i64 (fb x).length) ∧ w.grownBy w' none := by
     have T := jac (fun wx => jjm x wx hx)
     have tl := ji0 hx
     have V := jac (fun wx => jcw (tagOf x) wx (by omega))
     have V2 := jac (fun wx => jcw x.u.toNat wx (by have := hin.2.2.2.2.2; omega))
     have V3 := jac (fun wx => jcw x.b.size wx (by have := hin.2.2.2.2.2; omega))
     have hfb : Hid ((fb x).length = (vb (tagOf x)).length + (tailOf x).length) := by unfold fb; rw [List.length_append]; rfl
     have b1 := vbF_len 10 (tagOf x)
     have b2 := vbF_len 10 x.u.toNat
     have b3 := vbF_len 10 x.b.size
     change 1 ≤ (vb (tagOf x)).length ∧ (vb (tagOf x)).length ≤ 11 at b1
     change 1 ≤ (vb x.u.toNat).length ∧ (vb x.u.toNat).length ≤ 11 at b2
     change 1 ≤ (vb x.b.size).length ∧ (vb x.b.size).length ≤ 11 at b3
     have hk := jc6 hx
     obtain ⟨L, hL⟩ : ∃ L, L = (vb (tagOf x)).length := ⟨_, rfl⟩
     obtain ⟨h1, h2, h3, h4, h5, h6, h7⟩ := hin
     rw [← hL] at V hfb b1
     obtain ⟨num, kind, u, b⟩ := x
     simp only [jbq] at *
     clear tl hL h1 h2 h3 h4
     rcases hk with ⟨rfl, hb⟩ | ⟨rfl, hb⟩ | ⟨rfl, hb, hu⟩ | ⟨rfl, rfl⟩
     ·go_enter Tryz.func129, Tryz.ntmps129
      go_wp2_with fail
      refine (T.out _).mono ?_
      rintro e w1 ⟨rfl, g1⟩
      go_wp2_with fail
      refine (V.out _).mono ?_
      rintro e w2 ⟨rfl, rfl⟩
      obtain ⟨c0, c1, c2, c3, -, -, -, -⟩ := jd0 ((g1.block _ (by simp) (by simp)).trans (heap_alloc_new w _))
      obtain ⟨m, rfl⟩ : ∃ m : Nat, u = m := ⟨u.toNat, by omega⟩
      rw [Int.toNat_natCast] at V2 b2
      go_wp2_with fail
      refine (V2.out _).mono ?_
      rintro e w3 ⟨rfl, rfl⟩
      go_wp2
      go_ret
      refine ⟨jfl ?_, jaa (jab _ _) g1⟩
      have hf := hfb.out
      have ht : (tailOf ⟨num, 0, m, b⟩).length = (vb m).length := by simp [tailOf]
      rw [hf, ht]
      omega
     ·go_enter Tryz.func129, Tryz.ntmps129
      go_wp2_with fail
      refine (T.out _).mono ?_
      rintro e w1 ⟨rfl, g1⟩
      go_wp2_with fail
      refine (V.out _).mono ?_
      rintro e w2 ⟨rfl, rfl⟩
      obtain ⟨c0, c1, c2, c3, -, -, -, -⟩ := jd0 ((g1.block _ (by simp) (by simp)).trans (heap_alloc_new w _))
      go_wp2
      go_ret
      refine ⟨jfl ?_, jaa (jab _ _) g1⟩
      have hf := hfb.out
      have ht : (tailOf ⟨num, 1, u, b⟩).length = 8 := by simp [tailOf, lo_len]
      rw [hf, ht]
      omega
     ·go_enter Tryz.func129, Tryz.ntmps129
      go_wp2_with fail
      refine (T.out _).mono ?_
      rintro e w1 ⟨rfl, g1⟩
      go_wp2_with fail
      refine (V.out _).mono ?_
      rintro e w2 ⟨rfl, rfl⟩
      obtain ⟨c0, c1, c2, c3, -, -, -, -⟩ := jd0 ((g1.block _ (by simp) (by simp)).trans (heap_alloc_new w _))
      go_wp2
      go_ret
      refine ⟨jfl ?_, jaa (jab _ _) g1⟩
      have hf := hfb.out
      have ht : (tailOf ⟨num, 5, u, b⟩).length = 4 := by simp [tailOf, lo_len]
      rw [hf, ht]
      omega
     ·go_enter Tryz.func129, Tryz.ntmps129
      go_wp2_with fail
      refine (T.out _).mono ?_
      rintro e w1 ⟨rfl, g1⟩
      go_wp2_with fail
      refine (V.out _).mono ?_
      rintro e w2 ⟨rfl, rfl⟩
      obtain ⟨c0, c1, c2, c3, -, -, -, -⟩ := jd0 ((g1.block _ (by simp) (by simp)).trans (heap_alloc_new w _))
      have hw1 : IntKind.u64.wrap (b.size : Int) = b.size := IntWalk.u64_in _ ⟨by omega, by omega⟩
      have hw2 : IntKind.i64.wrap ((L : Int) + ((vb b.size).length : Int)) = (L : Int) + ((vb b.size).length : Int) := by rw [IntKind.wrap_i64]; omega
      have hw3 : IntKind.i64.wrap ((L : Int) + ((vb b.size).length : Int) + (b.size : Int)) = (L : Int) + ((vb b.size).length : Int) + (b.size : Int) := by rw [IntKind.wrap_i64]; omega
      clear V2 V b2 c0 c2 T hx
      go_wp2_with fail
      go_region_held3 (fun w' => w'.cell? ⟨w.heap.size, 3, none⟩ = some (.string b)) (go_keep) (first | (go_at_call 149; refine (V3.out _).mono ?_; rintro e w' ⟨rfl, rfl⟩))
      go_wp2
      go_ret
      refine ⟨jfl ?_, row_drew (jaa (jab _ _) g1)⟩
      have hf := hfb.out
      have ht : (tailOf ⟨num, 2, 0, b⟩).length = (vb b.size).length + b.size := by simp [tailOf, bytesOf_len]
      rw [hf, ht]
      omega
end Go.Proofs.YtbgbpfbjeleooaaGreat.Wr
namespace Go.Proofs.YtbgbpfbjeleooaaGreat.Wr
open Go.RowKit
def One (x : Fld) (e : Ending) : Prop :=
 (fok x = true ∧ e = .returned (.tuple #[.string (sof (fb x)), .bool true])) ∨ (fok x = false ∧ e = .returned (.tuple #[.string ⟨#[]⟩, .bool false]))
theorem jhP (u k : Nat) : u / 256 ^ k / 256 = u / 256 ^ (k + 1) := by rw [Nat.div_div_eq_div_mul, Nat.pow_succ]
theorem jkE {x : Fld} {t : Nat} (h : tagOf x = t) : sof (fb x) = sof (vb t) ++ sof (tailOf x) := by rw [← jcA, ← h]; rfl
theorem jeE (u : Nat) : (sof (vb u)).size ≤ 11 := by rw [sof_size]; exact (vbF_len 10 u).2
theorem jik (z : Int) (w : World) (h0 : 0 ≤ z) (h1 : z < 18446744073709551616) :
    Calls Tryz.prog 75 #[.int .u64 z] w fun e w' => (∃ s, e = .returned (.string s)) ∧ w.grownBy w' none := by
     obtain ⟨u, rfl⟩ : ∃ u : Nat, z = u := ⟨z.toNat, by omega⟩
     refine (jbh u w (by omega)).mono ?_
     rintro e w' ⟨rfl, g⟩
     exact ⟨⟨_, rfl⟩, g⟩
theorem jly (x : Fld) (w : World) (hin : FldIn x) :
    Calls Tryz.prog 47 #[jbq x] w fun e w' => One x e ∧ w.grownBy w' none := by
     obtain ⟨i0, hi, hz0, hzs, hz2⟩ := info_parts infoByte
     obtain ⟨num, kind, u, b⟩ := x
     obtain ⟨h1, h2, h3, h4, h5, h6, h7⟩ := hin
     simp only at h1 h2 h3 h4 h5 h6 h7
     simp only [jbq]
     by_cases hn : 1 ≤ num ∧ num ≤ 536870911
     ·obtain ⟨hn1, hn2⟩ := hn
      obtain ⟨n, rfl⟩ : ∃ n : Nat, num = n := ⟨num.toNat, by omega⟩
      obtain ⟨m, rfl⟩ : ∃ m : Nat, u = m := ⟨u.toNat, by omega⟩
      have hm : m < 18446744073709551616 := by omega
      have hn3 : n ≤ 536870911 := by omega
      clear h1 h2 h5 h6
      by_cases k0 : kind = 0
      ·subst k0
       by_cases he : b.size = 0
       ·have hq : b.toList.isEmpty = true := by rw [emp]; simp only [he, decide_true]
        have HF := jac (show fok ⟨n, 0, m, b⟩ = true by rw [jkA hn1 hn2, decide_eq_true he])
        have V1 := jac (fun wx => jbh (n * 8) wx (by omega))
        have HB := jac (jkE (x := ⟨n, 0, m, b⟩) (t := n * 8) (by simp [tagOf]))
        have z1 := jeE (n * 8)
        obtain ⟨A, hA⟩ : ∃ A, A = sof (vb (n * 8)) := ⟨_, rfl⟩
        rw [← hA] at V1 HB z1
        clear hA
        have V2 := jac (fun wx => jbh m wx hm)
        have HT := jac (show sof (tailOf ⟨n, 0, m, b⟩) = sof (vb m) by simp [tailOf])
        have z2 := jeE m
        obtain ⟨B, hB⟩ : ∃ B, B = sof (vb m) := ⟨_, rfl⟩
        rw [← hB] at V2 z2 HT
        clear hB he
        go_enter Tryz.func47, Tryz.ntmps47
        go_wp2_with fail
        refine (V1.out _).mono ?_
        rintro e w1 ⟨rfl, g_w1⟩
        obtain ⟨c0, c1, c2, c3, -, -, -, -⟩ := jd0 ((g_w1.block _ (by simp) (by simp)).trans (heap_alloc_new w _))
        go_wp2_with fail
        refine (V2.out _).mono ?_
        rintro e w2 ⟨rfl, g_w2⟩
        go_wp2
        go_ret2
        exact ⟨.inl ⟨HF.out, by rw [HB.out, HT.out]; rfl⟩, jaa (jab _ _) (jaa g_w1 g_w2)⟩
       ·have hq : b.toList.isEmpty = false := by rw [emp]; exact decide_eq_false he
        have HF := jac (show fok ⟨n, 0, m, b⟩ = false by rw [jkA hn1 hn2]; exact decide_eq_false (fun h => he h))
        go_enter Tryz.func47, Tryz.ntmps47
        go_wp2
        go_ret2
        exact ⟨.inr ⟨HF.out, rfl⟩, jab _ _⟩
      by_cases k1 : kind = 1
      ·subst k1
       by_cases he : b.size = 0
       ·have hq : b.toList.isEmpty = true := by rw [emp]; simp only [he, decide_true]
        have HF := jac (show fok ⟨n, 1, m, b⟩ = true by rw [jkB hn1 hn2, decide_eq_true he])
        have V1 := jac (fun wx => jbh (n * 8 + 1) wx (by omega))
        have HB := jac (jkE (x := ⟨n, 1, m, b⟩) (t := n * 8 + 1) (by simp [tagOf]))
        have z1 := jeE (n * 8 + 1)
        obtain ⟨A, hA⟩ : ∃ A, A = sof (vb (n * 8 + 1)) := ⟨_, rfl⟩
        rw [← hA] at V1 HB z1
        clear hA
        have HT := jac (show sof (tailOf ⟨n, 1, m, b⟩) = sof (lo m 8) by simp [tailOf])
        clear he
        go_enter Tryz.func47, Tryz.ntmps47
        go_wp2_with fail
        refine (V1.out _).mono ?_
        rintro e w1 ⟨rfl, g_w1⟩
        obtain ⟨c0, c1, c2, c3, -, -, -, -⟩ := jd0 ((g_w1.block _ (by simp) (by simp)).trans (heap_alloc_new w _))
        have hz1 : w.heap.size ≤ w1.heap.size := (jaa (jab _ _) g_w1).size
        go_wp2
        go_loopg [6, 7, 8] 8 (fun f bb uu ii wr => ∃ k v xs, f = 8 - k ∧ k ≤ 8 ∧ bb = v ∧ uu = .int .u64 (m / 256 ^ k : Nat) ∧ ii = .int .i64 (k : Nat) ∧ xs.length = k ∧ lo m 8 = xs ++ lo (m / 256 ^ k) (8 - k) ∧ OwnsB wr w1.heap.size v xs ∧ w1.grownBy wr none)
        case atStart => exact ⟨0, _, [], rfl, by omega, rfl, by simp, rfl, rfl, by simp, OwnsL.nil _ _ _ _ _, jae _⟩
        case round =>
         obtain ⟨k, v, xs, rfl, hk, rfl, rfl, rfl, hlen, heq, hown, hg⟩ := hrel
         obtain ⟨ao, cap, rfl⟩ := hown.form
         have HE := jac heq
         have HO := jac hown
         have HL := jac hlen
         have hl2 : xs.length ≤ 8 := by omega
         have hgz := hg.size
         have hmk : m / 256 ^ k < 18446744073709551616 := Nat.lt_of_le_of_lt (Nat.div_le_self _ _) hm
         have HD := jac (jhP m k)
         have HNX := jac (jho m k 8)
         obtain ⟨M, hM⟩ : ∃ M, M = m / 256 ^ k := ⟨_, rfl⟩
         rw [← hM] at HE hmk HD HNX
         rw [← hM]
         clear hM heq hown hlen
         by_cases hlt : k < 8
         ·go_wp2_with (at_builtin; refine wpList_push rfl (.tmp 87) (.tmp 91) 84 5 1 1 _ i0 bcells rfl Tryz.underlying84 hi hz0 hzs hz2 rfl (by decide) w1.heap.size _ xs rfl (by exact HO.out.more (jab wr _)) wr.heap.size 1 (M % 256) _ rfl (by exact jbV _ _ _ rfl) (by simp [bcells]) rfl (bcells_one _) (by omega) (by simp only [maxLen]; omega) (by simp; omega) ?_; intro v' w5 hown5 hg5)
          go_roundg (8 - (k + 1))
          case measure => omega
          case rel => exact ⟨k + 1, v', _, rfl, by omega, rfl, by rw [← HD.out]; simp, by go_num, by simp [HL.out], by rw [HE.out, HNX.out hlt]; simp, hown5, jdg (HO.out.more (jab wr _)) (jaa hg (jab wr _)) (Nat.le_refl _) hg5⟩
         ·obtain rfl : k = 8 := by omega
          have HXS := jac (show xs = lo m 8 by have := HE.out; simpa [lo] using this.symm)
          have hcv := conv_own HO.out
          have zx : (sof xs).size ≤ 8 := by rw [sof_size]; exact hl2
          go_wp2
          go_ret2
          exact ⟨.inl ⟨HF.out, by rw [HB.out, HT.out, ← HXS.out]; rfl⟩, jaa (jab _ _) (jaa g_w1 hg)⟩
       ·have hq : b.toList.isEmpty = false := by rw [emp]; exact decide_eq_false he
        have HF := jac (show fok ⟨n, 1, m, b⟩ = false by rw [jkB hn1 hn2]; exact decide_eq_false (fun h => he h))
        go_enter Tryz.func47, Tryz.ntmps47
        go_wp2
        go_ret2
        exact ⟨.inr ⟨HF.out, rfl⟩, jab _ _⟩
      by_cases k5 : kind = 5
      ·subst k5
       by_cases he : b.size = 0
       ·have hq : b.toList.isEmpty = true := by rw [emp]; simp only [he, decide_true]
        by_cases hu : m < 4294967296
        ·have HF := jac (show fok ⟨n, 5, m, b⟩ = true by rw [jij hn1 hn2]; exact decide_eq_true ⟨he, by omega⟩)
         have V1 := jac (fun wx => jbh (n * 8 + 5) wx (by omega))
         have HB := jac (jkE (x := ⟨n, 5, m, b⟩) (t := n * 8 + 5) (by simp [tagOf]))
         have z1 := jeE (n * 8 + 5)
         obtain ⟨A, hA⟩ : ∃ A, A = sof (vb (n * 8 + 5)) := ⟨_, rfl⟩
         rw [← hA] at V1 HB z1
         clear hA
         have HT := jac (show sof (tailOf ⟨n, 5, m, b⟩) = sof (lo m 4) by simp [tailOf])
         clear he
         go_enter Tryz.func47, Tryz.ntmps47
         go_wp2_with fail
         refine (V1.out _).mono ?_
         rintro e w1 ⟨rfl, g_w1⟩
         obtain ⟨c0, c1, c2, c3, -, -, -, -⟩ := jd0 ((g_w1.block _ (by simp) (by simp)).trans (heap_alloc_new w _))
         have hz1 : w.heap.size ≤ w1.heap.size := (jaa (jab _ _) g_w1).size
         go_wp2
         go_loopg [6, 7, 8] 4 (fun f bb uu ii wr => ∃ k v xs, f = 4 - k ∧ k ≤ 4 ∧ bb = v ∧ uu = .int .u64 (m / 256 ^ k : Nat) ∧ ii = .int .i64 (k : Nat) ∧ xs.length = k ∧ lo m 4 = xs ++ lo (m / 256 ^ k) (4 - k) ∧ OwnsB wr w1.heap.size v xs ∧ w1.grownBy wr none)
         case atStart => exact ⟨0, _, [], rfl, by omega, rfl, by simp, rfl, rfl, by simp, OwnsL.nil _ _ _ _ _, jae _⟩
         case round =>
          obtain ⟨k, v, xs, rfl, hk, rfl, rfl, rfl, hlen, heq, hown, hg⟩ := hrel
          obtain ⟨ao, cap, rfl⟩ := hown.form
          have HE := jac heq
          have HO := jac hown
          have HL := jac hlen
          have hl2 : xs.length ≤ 8 := by omega
          have hgz := hg.size
          have hmk : m / 256 ^ k < 18446744073709551616 := Nat.lt_of_le_of_lt (Nat.div_le_self _ _) hm
          have HD := jac (jhP m k)
          have HNX := jac (jho m k 4)
          obtain ⟨M, hM⟩ : ∃ M, M = m / 256 ^ k := ⟨_, rfl⟩
          rw [← hM] at HE hmk HD HNX
          rw [← hM]
          clear hM heq hown hlen
          by_cases hlt : k < 4
          ·go_wp2_with (at_builtin; refine wpList_push rfl (.tmp 87) (.tmp 91) 84 5 1 1 _ i0 bcells rfl Tryz.underlying84 hi hz0 hzs hz2 rfl (by decide) w1.heap.size _ xs rfl (by exact HO.out.more (jab wr _)) wr.heap.size 1 (M % 256) _ rfl (by exact jbV _ _ _ rfl) (by simp [bcells]) rfl (bcells_one _) (by omega) (by simp only [maxLen]; omega) (by simp; omega) ?_; intro v' w5 hown5 hg5)
           go_roundg (4 - (k + 1))
           case measure => omega
           case rel => exact ⟨k + 1, v', _, rfl, by omega, rfl, by rw [← HD.out]; simp, by go_num, by simp [HL.out], by rw [HE.out, HNX.out hlt]; simp, hown5, jdg (HO.out.more (jab wr _)) (jaa hg (jab wr _)) (Nat.le_refl _) hg5⟩
          ·obtain rfl : k = 4 := by omega
           have HXS := jac (show xs = lo m 4 by have := HE.out; simpa [lo] using this.symm)
           have hcv := conv_own HO.out
           have zx : (sof xs).size ≤ 8 := by rw [sof_size]; exact hl2
           go_wp2
           go_ret2
           exact ⟨.inl ⟨HF.out, by rw [HB.out, HT.out, ← HXS.out]; rfl⟩, jaa (jab _ _) (jaa g_w1 hg)⟩
        ·have HF := jac (show fok ⟨n, 5, m, b⟩ = false by rw [jij hn1 hn2]; exact decide_eq_false (fun h => by omega))
         have V1 := jac (fun wx => jbh (n * 8 + 5) wx (by omega))
         go_enter Tryz.func47, Tryz.ntmps47
         go_wp2_with fail
         refine (V1.out _).mono ?_
         rintro e w1 ⟨rfl, g_w1⟩
         obtain ⟨c0, c1, c2, c3, -, -, -, -⟩ := jd0 ((g_w1.block _ (by simp) (by simp)).trans (heap_alloc_new w _))
         go_wp2
         go_ret2
         exact ⟨.inr ⟨HF.out, rfl⟩, jaa (jab _ _) g_w1⟩
       ·have hq : b.toList.isEmpty = false := by rw [emp]; exact decide_eq_false he
        have HF := jac (show fok ⟨n, 5, m, b⟩ = false by rw [jij hn1 hn2]; exact decide_eq_false (fun h => he h.1))
        go_enter Tryz.func47, Tryz.ntmps47
        go_wp2
        go_ret2
        exact ⟨.inr ⟨HF.out, rfl⟩, jab _ _⟩
      by_cases k2 : kind = 2
      ·subst k2
       by_cases hu : m = 0
       ·subst hu
        have HF := jac (show fok ⟨n, 2, (0 : Nat), b⟩ = true by rw [jkC hn1 hn2]; rfl)
        have V1 := jac (fun wx => jbh (n * 8 + 2) wx (by omega))
        have HB := jac (jkE (x := ⟨n, 2, (0 : Nat), b⟩) (t := n * 8 + 2) (by simp [tagOf]))
        have z1 := jeE (n * 8 + 2)
        obtain ⟨A, hA⟩ : ∃ A, A = sof (vb (n * 8 + 2)) := ⟨_, rfl⟩
        rw [← hA] at V1 HB z1
        clear hA
        have V2 := jac (fun wx => jbh b.size wx (by omega))
        have HT := jac (show sof (tailOf ⟨n, 2, (0 : Nat), b⟩) = sof (vb b.size) ++ b by simp [tailOf, jcA, jgx])
        have z2 := jeE b.size
        obtain ⟨B, hB⟩ : ∃ B, B = sof (vb b.size) := ⟨_, rfl⟩
        rw [← hB] at V2 z2 HT
        clear hB
        have hw1 : IntKind.u64.wrap (b.size : Int) = b.size := IntWalk.u64_in _ ⟨by omega, by omega⟩
        have zc1 : (A.size : Int) + (B.size : Int) ≤ 9223372036854775807 := by omega
        have zc2 : ((A ++ B).size : Int) + (b.size : Int) ≤ 9223372036854775807 := by rw [ByteArray.size_append]; omega
        have zc3 : (A.size : Int) + (B.size : Int) + (b.size : Int) ≤ 9223372036854775807 := by omega
        go_enter Tryz.func47, Tryz.ntmps47
        go_wp2_with fail
        refine (V1.out _).mono ?_
        rintro e w1 ⟨rfl, g_w1⟩
        obtain ⟨c0, c1, c2, c3, -, -, -, -⟩ := jd0 ((g_w1.block _ (by simp) (by simp)).trans (heap_alloc_new w _))
        go_wp2
        go_region_with (go_at_call 75; refine (V2.out _).mono ?_; rintro e w2 ⟨rfl, g_w2⟩; have d3 := (jbU g_w2).cell c3 (by simp))
        all_goals
         go_wp2
         go_ret2
         exact ⟨.inl ⟨HF.out, by rw [HB.out, HT.out, ← ByteArray.append_assoc]; rfl⟩, jaa (jab _ _) (jaa g_w1 (jbU g_w2))⟩
       ·have hq : ((m : Int) == 0) = false := by rw [beq_eq_false_iff_ne]; omega
        have hq2 : ((m : Int) != 0) = true := by simp [bne, hq]
        have HF := jac (show fok ⟨n, 2, m, b⟩ = false by rw [jkC hn1 hn2]; exact decide_eq_false (by omega))
        go_enter Tryz.func47, Tryz.ntmps47
        go_wp2
        go_ret2
        exact ⟨.inr ⟨HF.out, rfl⟩, jab _ _⟩
      have HF := jac (show fok ⟨n, kind, m, b⟩ = false by simp [fok, k0, k1, k2, k5])
      have j0 : (kind == 0) = false := by rw [beq_eq_false_iff_ne]; exact k0
      have j1 : (kind == 1) = false := by rw [beq_eq_false_iff_ne]; exact k1
      have j2 : (kind == 2) = false := by rw [beq_eq_false_iff_ne]; exact k2
      have j5 : (kind == 5) = false := by rw [beq_eq_false_iff_ne]; exact k5
      have j9 : (kind != 2) = true := by simp [bne, j2]
      by_cases he : b.size = 0
      ·have hq : b.toList.isEmpty = true := by rw [emp]; simp only [he, decide_true]
       have V1 := jac (fun (z : Int) (h0 : 0 ≤ z) (h1 : z < 18446744073709551616) wx => jik z wx h0 h1)
       go_enter Tryz.func47, Tryz.ntmps47
       go_wp2_with fail
       refine (V1.out _ (by rw [IntKind.wrap_u64]; omega) (by rw [IntKind.wrap_u64]; omega) _).mono ?_
       rintro e w1 ⟨⟨S, rfl⟩, g_w1⟩
       obtain ⟨c0, c1, c2, c3, -, -, -, -⟩ := jd0 ((g_w1.block _ (by simp) (by simp)).trans (heap_alloc_new w _))
       go_wp2
       go_ret2
       exact ⟨.inr ⟨HF.out, rfl⟩, jaa (jab _ _) g_w1⟩
      ·have hq : b.toList.isEmpty = false := by rw [emp]; exact decide_eq_false he
       go_enter Tryz.func47, Tryz.ntmps47
       go_wp2
       go_ret2
       exact ⟨.inr ⟨HF.out, rfl⟩, jab _ _⟩
     ·have HF := jac (show fok ⟨num, kind, u, b⟩ = false by simp [fok]; omega)
      by_cases hn1 : num < 1
      ·go_enter Tryz.func47, Tryz.ntmps47
       go_wp2
       go_ret2
       exact ⟨.inr ⟨HF.out, rfl⟩, jab _ _⟩
      ·have hn2 : 536870911 < num := by omega
       go_enter Tryz.func47, Tryz.ntmps47
       go_wp2
       go_ret2
       exact ⟨.inr ⟨HF.out, rfl⟩, jab _ _⟩
end Go.Proofs.YtbgbpfbjeleooaaGreat.Wr
