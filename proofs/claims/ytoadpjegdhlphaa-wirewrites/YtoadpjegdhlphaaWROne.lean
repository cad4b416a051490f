/- The document's bytes of a field, by the walk. -/
import Derived.Test.YtoadpjegdhlphaaWWr
import Derived.Test.YtoadpjegdhlphaaWBack
import Derived.Deep.RegionHeld3
namespace Go.Proofs.Ytoadpjegdhlphaa
open Go.RowKit

/-- What the document's one answers. -/
def One (x : Fld) (e : Ending) : Prop :=
  (fok x = true ∧ e = .returned (.tuple #[.string (sof (fb x)), .bool true])) ∨ (fok x = false ∧ e = .returned (.tuple #[.string ⟨#[]⟩, .bool false]))

theorem div_step (u k : Nat) : u / 256 ^ k / 256 = u / 256 ^ (k + 1) := by rw [Nat.div_div_eq_div_mul, Nat.pow_succ]

theorem fb_of {x : Fld} {t : Nat} (h : tagOf x = t) : sof (fb x) = sof (vb t) ++ sof (tailOf x) := by rw [← sof_append, ← h]; rfl

theorem vb_size (u : Nat) : (sof (vb u)).size ≤ 11 := by rw [sof_size]; exact (vbF_len 10 u).2

theorem refvarintZ (z : Int) (w : World) (h0 : 0 ≤ z) (h1 : z < 18446744073709551616) :
    Calls Try.prog 12 #[.int .u64 z] w fun e w' => (∃ s, e = .returned (.string s)) ∧ w.grownBy w' none := by
  obtain ⟨u, rfl⟩ : ∃ u : Nat, z = u := ⟨z.toNat, by omega⟩
  refine (refvarintS_any u w (by omega)).mono ?_
  rintro e w' ⟨rfl, g⟩
  exact ⟨⟨_, rfl⟩, g⟩

set_option maxRecDepth 100000 in
set_option maxHeartbeats 12800000 in
theorem one_any (x : Fld) (w : World) (hin : FldIn x) :
    Calls Try.prog 32 #[fval x] w fun e w' => One x e ∧ w.grownBy w' none := by
  obtain ⟨i0, hi, hz0, hzs, hz2⟩ := info_parts infoByte
  obtain ⟨num, kind, u, b⟩ := x
  obtain ⟨h1, h2, h3, h4, h5, h6, h7⟩ := hin
  simp only at h1 h2 h3 h4 h5 h6 h7
  simp only [fval]
  by_cases hn : 1 ≤ num ∧ num ≤ 536870911
  · obtain ⟨hn1, hn2⟩ := hn
    obtain ⟨n, rfl⟩ : ∃ n : Nat, num = n := ⟨num.toNat, by omega⟩
    obtain ⟨m, rfl⟩ : ∃ m : Nat, u = m := ⟨u.toNat, by omega⟩
    have hm : m < 18446744073709551616 := by omega
    have hn3 : n ≤ 536870911 := by omega
    clear h1 h2 h5 h6
    by_cases k0 : kind = 0
    · subst k0
      by_cases he : b.size = 0
      · have hq : b.toList.isEmpty = true := by rw [emp]; simp only [he, decide_true]
        have HF := hide (show fok ⟨n, 0, m, b⟩ = true by rw [fok_0 hn1 hn2, decide_eq_true he])
        have V1 := hide (fun wx => refvarintS_any (n * 8) wx (by omega))
        have HB := hide (fb_of (x := ⟨n, 0, m, b⟩) (t := n * 8) (by simp [tagOf]))
        have z1 := vb_size (n * 8)
        obtain ⟨A, hA⟩ : ∃ A, A = sof (vb (n * 8)) := ⟨_, rfl⟩
        rw [← hA] at V1 HB z1
        clear hA
        have V2 := hide (fun wx => refvarintS_any m wx hm)
        have HT := hide (show sof (tailOf ⟨n, 0, m, b⟩) = sof (vb m) by simp [tailOf])
        have z2 := vb_size m
        obtain ⟨B, hB⟩ : ∃ B, B = sof (vb m) := ⟨_, rfl⟩
        rw [← hB] at V2 z2 HT
        clear hB he
        go_enter Try.func32, Try.ntmps32
        go_wp2_with fail
        refine (V1.out _).mono ?_
        rintro e w1 ⟨rfl, g_w1⟩
        obtain ⟨c0, c1, c2, c3, -, -, -, -⟩ := box4 ((g_w1.block _ (by simp) (by simp)).trans (heap_alloc_new w _))
        go_wp2_with fail
        refine (V2.out _).mono ?_
        rintro e w2 ⟨rfl, g_w2⟩
        go_wp2
        go_ret2
        exact ⟨.inl ⟨HF.out, by rw [HB.out, HT.out]; rfl⟩, grown_trans (grown_new _ _) (grown_trans g_w1 g_w2)⟩
      · have hq : b.toList.isEmpty = false := by rw [emp]; exact decide_eq_false he
        have HF := hide (show fok ⟨n, 0, m, b⟩ = false by rw [fok_0 hn1 hn2]; exact decide_eq_false (fun h => he h))
        go_enter Try.func32, Try.ntmps32
        go_wp2
        go_ret2
        exact ⟨.inr ⟨HF.out, rfl⟩, grown_new _ _⟩
    by_cases k1 : kind = 1
    · subst k1
      by_cases he : b.size = 0
      · have hq : b.toList.isEmpty = true := by rw [emp]; simp only [he, decide_true]
        have HF := hide (show fok ⟨n, 1, m, b⟩ = true by rw [fok_1 hn1 hn2, decide_eq_true he])
        have V1 := hide (fun wx => refvarintS_any (n * 8 + 1) wx (by omega))
        have HB := hide (fb_of (x := ⟨n, 1, m, b⟩) (t := n * 8 + 1) (by simp [tagOf]))
        have z1 := vb_size (n * 8 + 1)
        obtain ⟨A, hA⟩ : ∃ A, A = sof (vb (n * 8 + 1)) := ⟨_, rfl⟩
        rw [← hA] at V1 HB z1
        clear hA
        have HT := hide (show sof (tailOf ⟨n, 1, m, b⟩) = sof (lo m 8) by simp [tailOf])
        clear he
        go_enter Try.func32, Try.ntmps32
        go_wp2_with fail
        refine (V1.out _).mono ?_
        rintro e w1 ⟨rfl, g_w1⟩
        obtain ⟨c0, c1, c2, c3, -, -, -, -⟩ := box4 ((g_w1.block _ (by simp) (by simp)).trans (heap_alloc_new w _))
        have hz1 : w.heap.size ≤ w1.heap.size := (grown_trans (grown_new _ _) g_w1).size
        go_wp2
        go_loopg [6, 7, 8] 8 (fun f bb uu ii wr => ∃ k v xs, f = 8 - k ∧ k ≤ 8 ∧ bb = v ∧ uu = .int .u64 (m / 256 ^ k : Nat) ∧ ii = .int .i64 (k : Nat) ∧ xs.length = k ∧ lo m 8 = xs ++ lo (m / 256 ^ k) (8 - k) ∧ OwnsB wr w1.heap.size v xs ∧ w1.grownBy wr none)
        case atStart => exact ⟨0, _, [], rfl, by omega, rfl, by simp, rfl, rfl, by simp, OwnsL.nil _ _ _ _ _, grown_refl _⟩
        case round =>
          obtain ⟨k, v, xs, rfl, hk, rfl, rfl, rfl, hlen, heq, hown, hg⟩ := hrel
          obtain ⟨ao, cap, rfl⟩ := hown.form
          have HE := hide heq
          have HO := hide hown
          have HL := hide hlen
          have hl2 : xs.length ≤ 8 := by omega
          have hgz := hg.size
          have hmk : m / 256 ^ k < 18446744073709551616 := Nat.lt_of_le_of_lt (Nat.div_le_self _ _) hm
          have HD := hide (div_step m k)
          have HNX := hide (lo_next m k 8)
          obtain ⟨M, hM⟩ : ∃ M, M = m / 256 ^ k := ⟨_, rfl⟩
          rw [← hM] at HE hmk HD HNX
          rw [← hM]
          clear hM heq hown hlen
          by_cases hlt : k < 8
          · go_wp2_with (at_builtin; refine wpList_push rfl (.tmp 87) (.tmp 91) 48 5 1 1 _ i0 bcells rfl Try.underlying48 hi hz0 hzs hz2 rfl (by decide) w1.heap.size _ xs rfl (by exact HO.out.more (grown_new wr _)) wr.heap.size 1 (M % 256) _ rfl (by exact heap_at _ _ _ rfl) (by simp [bcells]) rfl (bcells_one _) (by omega) (by simp only [maxLen]; omega) (by simp; omega) ?_; intro v' w5 hown5 hg5)
            go_roundg (8 - (k + 1))
            case measure => omega
            case rel => exact ⟨k + 1, v', _, rfl, by omega, rfl, by rw [← HD.out]; simp, by go_num, by simp [HL.out], by rw [HE.out, HNX.out hlt]; simp, hown5, own_row (HO.out.more (grown_new wr _)) (grown_trans hg (grown_new wr _)) (Nat.le_refl _) hg5⟩
          · obtain rfl : k = 8 := by omega
            have HXS := hide (show xs = lo m 8 by have := HE.out; simpa [lo] using this.symm)
            have hcv := conv_own HO.out
            have zx : (sof xs).size ≤ 8 := by rw [sof_size]; exact hl2
            go_wp2
            go_ret2
            exact ⟨.inl ⟨HF.out, by rw [HB.out, HT.out, ← HXS.out]; rfl⟩, grown_trans (grown_new _ _) (grown_trans g_w1 hg)⟩
      · have hq : b.toList.isEmpty = false := by rw [emp]; exact decide_eq_false he
        have HF := hide (show fok ⟨n, 1, m, b⟩ = false by rw [fok_1 hn1 hn2]; exact decide_eq_false (fun h => he h))
        go_enter Try.func32, Try.ntmps32
        go_wp2
        go_ret2
        exact ⟨.inr ⟨HF.out, rfl⟩, grown_new _ _⟩
    by_cases k5 : kind = 5
    · subst k5
      by_cases he : b.size = 0
      · have hq : b.toList.isEmpty = true := by rw [emp]; simp only [he, decide_true]
        by_cases hu : m < 4294967296
        · have HF := hide (show fok ⟨n, 5, m, b⟩ = true by rw [fok_5 hn1 hn2]; exact decide_eq_true ⟨he, by omega⟩)
          have V1 := hide (fun wx => refvarintS_any (n * 8 + 5) wx (by omega))
          have HB := hide (fb_of (x := ⟨n, 5, m, b⟩) (t := n * 8 + 5) (by simp [tagOf]))
          have z1 := vb_size (n * 8 + 5)
          obtain ⟨A, hA⟩ : ∃ A, A = sof (vb (n * 8 + 5)) := ⟨_, rfl⟩
          rw [← hA] at V1 HB z1
          clear hA
          have HT := hide (show sof (tailOf ⟨n, 5, m, b⟩) = sof (lo m 4) by simp [tailOf])
          clear he
          go_enter Try.func32, Try.ntmps32
          go_wp2_with fail
          refine (V1.out _).mono ?_
          rintro e w1 ⟨rfl, g_w1⟩
          obtain ⟨c0, c1, c2, c3, -, -, -, -⟩ := box4 ((g_w1.block _ (by simp) (by simp)).trans (heap_alloc_new w _))
          have hz1 : w.heap.size ≤ w1.heap.size := (grown_trans (grown_new _ _) g_w1).size
          go_wp2
          go_loopg [6, 7, 8] 4 (fun f bb uu ii wr => ∃ k v xs, f = 4 - k ∧ k ≤ 4 ∧ bb = v ∧ uu = .int .u64 (m / 256 ^ k : Nat) ∧ ii = .int .i64 (k : Nat) ∧ xs.length = k ∧ lo m 4 = xs ++ lo (m / 256 ^ k) (4 - k) ∧ OwnsB wr w1.heap.size v xs ∧ w1.grownBy wr none)
          case atStart => exact ⟨0, _, [], rfl, by omega, rfl, by simp, rfl, rfl, by simp, OwnsL.nil _ _ _ _ _, grown_refl _⟩
          case round =>
            obtain ⟨k, v, xs, rfl, hk, rfl, rfl, rfl, hlen, heq, hown, hg⟩ := hrel
            obtain ⟨ao, cap, rfl⟩ := hown.form
            have HE := hide heq
            have HO := hide hown
            have HL := hide hlen
            have hl2 : xs.length ≤ 8 := by omega
            have hgz := hg.size
            have hmk : m / 256 ^ k < 18446744073709551616 := Nat.lt_of_le_of_lt (Nat.div_le_self _ _) hm
            have HD := hide (div_step m k)
            have HNX := hide (lo_next m k 4)
            obtain ⟨M, hM⟩ : ∃ M, M = m / 256 ^ k := ⟨_, rfl⟩
            rw [← hM] at HE hmk HD HNX
            rw [← hM]
            clear hM heq hown hlen
            by_cases hlt : k < 4
            · go_wp2_with (at_builtin; refine wpList_push rfl (.tmp 87) (.tmp 91) 48 5 1 1 _ i0 bcells rfl Try.underlying48 hi hz0 hzs hz2 rfl (by decide) w1.heap.size _ xs rfl (by exact HO.out.more (grown_new wr _)) wr.heap.size 1 (M % 256) _ rfl (by exact heap_at _ _ _ rfl) (by simp [bcells]) rfl (bcells_one _) (by omega) (by simp only [maxLen]; omega) (by simp; omega) ?_; intro v' w5 hown5 hg5)
              go_roundg (4 - (k + 1))
              case measure => omega
              case rel => exact ⟨k + 1, v', _, rfl, by omega, rfl, by rw [← HD.out]; simp, by go_num, by simp [HL.out], by rw [HE.out, HNX.out hlt]; simp, hown5, own_row (HO.out.more (grown_new wr _)) (grown_trans hg (grown_new wr _)) (Nat.le_refl _) hg5⟩
            · obtain rfl : k = 4 := by omega
              have HXS := hide (show xs = lo m 4 by have := HE.out; simpa [lo] using this.symm)
              have hcv := conv_own HO.out
              have zx : (sof xs).size ≤ 8 := by rw [sof_size]; exact hl2
              go_wp2
              go_ret2
              exact ⟨.inl ⟨HF.out, by rw [HB.out, HT.out, ← HXS.out]; rfl⟩, grown_trans (grown_new _ _) (grown_trans g_w1 hg)⟩
        · have HF := hide (show fok ⟨n, 5, m, b⟩ = false by rw [fok_5 hn1 hn2]; exact decide_eq_false (fun h => by omega))
          have V1 := hide (fun wx => refvarintS_any (n * 8 + 5) wx (by omega))
          go_enter Try.func32, Try.ntmps32
          go_wp2_with fail
          refine (V1.out _).mono ?_
          rintro e w1 ⟨rfl, g_w1⟩
          obtain ⟨c0, c1, c2, c3, -, -, -, -⟩ := box4 ((g_w1.block _ (by simp) (by simp)).trans (heap_alloc_new w _))
          go_wp2
          go_ret2
          exact ⟨.inr ⟨HF.out, rfl⟩, grown_trans (grown_new _ _) g_w1⟩
      · have hq : b.toList.isEmpty = false := by rw [emp]; exact decide_eq_false he
        have HF := hide (show fok ⟨n, 5, m, b⟩ = false by rw [fok_5 hn1 hn2]; exact decide_eq_false (fun h => he h.1))
        go_enter Try.func32, Try.ntmps32
        go_wp2
        go_ret2
        exact ⟨.inr ⟨HF.out, rfl⟩, grown_new _ _⟩
    by_cases k2 : kind = 2
    · subst k2
      by_cases hu : m = 0
      · subst hu
        have HF := hide (show fok ⟨n, 2, (0 : Nat), b⟩ = true by rw [fok_2 hn1 hn2]; rfl)
        have V1 := hide (fun wx => refvarintS_any (n * 8 + 2) wx (by omega))
        have HB := hide (fb_of (x := ⟨n, 2, (0 : Nat), b⟩) (t := n * 8 + 2) (by simp [tagOf]))
        have z1 := vb_size (n * 8 + 2)
        obtain ⟨A, hA⟩ : ∃ A, A = sof (vb (n * 8 + 2)) := ⟨_, rfl⟩
        rw [← hA] at V1 HB z1
        clear hA
        have V2 := hide (fun wx => refvarintS_any b.size wx (by omega))
        have HT := hide (show sof (tailOf ⟨n, 2, (0 : Nat), b⟩) = sof (vb b.size) ++ b by simp [tailOf, sof_append, sof_bytes])
        have z2 := vb_size b.size
        obtain ⟨B, hB⟩ : ∃ B, B = sof (vb b.size) := ⟨_, rfl⟩
        rw [← hB] at V2 z2 HT
        clear hB
        have hw1 : IntKind.u64.wrap (b.size : Int) = b.size := IntWalk.u64_in _ ⟨by omega, by omega⟩
        have zc1 : (A.size : Int) + (B.size : Int) ≤ 9223372036854775807 := by omega
        have zc2 : ((A ++ B).size : Int) + (b.size : Int) ≤ 9223372036854775807 := by rw [ByteArray.size_append]; omega
        have zc3 : (A.size : Int) + (B.size : Int) + (b.size : Int) ≤ 9223372036854775807 := by omega
        go_enter Try.func32, Try.ntmps32
        go_wp2_with fail
        refine (V1.out _).mono ?_
        rintro e w1 ⟨rfl, g_w1⟩
        obtain ⟨c0, c1, c2, c3, -, -, -, -⟩ := box4 ((g_w1.block _ (by simp) (by simp)).trans (heap_alloc_new w _))
        go_wp2
        go_region_with (go_at_call 12; refine (V2.out _).mono ?_; rintro e w2 ⟨rfl, g_w2⟩; have d3 := (of_drew g_w2).cell c3 (by simp))
        all_goals
          go_wp2
          go_ret2
          exact ⟨.inl ⟨HF.out, by rw [HB.out, HT.out, ← ByteArray.append_assoc]; rfl⟩, grown_trans (grown_new _ _) (grown_trans g_w1 (of_drew g_w2))⟩
      · have hq : ((m : Int) == 0) = false := by rw [beq_eq_false_iff_ne]; omega
        have hq2 : ((m : Int) != 0) = true := by simp [bne, hq]
        have HF := hide (show fok ⟨n, 2, m, b⟩ = false by rw [fok_2 hn1 hn2]; exact decide_eq_false (by omega))
        go_enter Try.func32, Try.ntmps32
        go_wp2
        go_ret2
        exact ⟨.inr ⟨HF.out, rfl⟩, grown_new _ _⟩
    have HF := hide (show fok ⟨n, kind, m, b⟩ = false by simp [fok, k0, k1, k2, k5])
    have j0 : (kind == 0) = false := by rw [beq_eq_false_iff_ne]; exact k0
    have j1 : (kind == 1) = false := by rw [beq_eq_false_iff_ne]; exact k1
    have j2 : (kind == 2) = false := by rw [beq_eq_false_iff_ne]; exact k2
    have j5 : (kind == 5) = false := by rw [beq_eq_false_iff_ne]; exact k5
    have j9 : (kind != 2) = true := by simp [bne, j2]
    by_cases he : b.size = 0
    · have hq : b.toList.isEmpty = true := by rw [emp]; simp only [he, decide_true]
      have V1 := hide (fun (z : Int) (h0 : 0 ≤ z) (h1 : z < 18446744073709551616) wx => refvarintZ z wx h0 h1)
      go_enter Try.func32, Try.ntmps32
      go_wp2_with fail
      refine (V1.out _ (by rw [IntKind.wrap_u64]; omega) (by rw [IntKind.wrap_u64]; omega) _).mono ?_
      rintro e w1 ⟨⟨S, rfl⟩, g_w1⟩
      obtain ⟨c0, c1, c2, c3, -, -, -, -⟩ := box4 ((g_w1.block _ (by simp) (by simp)).trans (heap_alloc_new w _))
      go_wp2
      go_ret2
      exact ⟨.inr ⟨HF.out, rfl⟩, grown_trans (grown_new _ _) g_w1⟩
    · have hq : b.toList.isEmpty = false := by rw [emp]; exact decide_eq_false he
      go_enter Try.func32, Try.ntmps32
      go_wp2
      go_ret2
      exact ⟨.inr ⟨HF.out, rfl⟩, grown_new _ _⟩
  · have HF := hide (show fok ⟨num, kind, u, b⟩ = false by simp [fok]; omega)
    by_cases hn1 : num < 1
    · go_enter Try.func32, Try.ntmps32
      go_wp2
      go_ret2
      exact ⟨.inr ⟨HF.out, rfl⟩, grown_new _ _⟩
    · have hn2 : 536870911 < num := by omega
      go_enter Try.func32, Try.ntmps32
      go_wp2
      go_ret2
      exact ⟨.inr ⟨HF.out, rfl⟩, grown_new _ _⟩
end Go.Proofs.Ytoadpjegdhlphaa
