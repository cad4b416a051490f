/- A part. -/
import Derived.Test.YtbgbpfbjeleooaaGreatRartBG
import Derived.Test.YtbgbpfbjeleooaaGreatRartBH
import Derived.Test.YtbgbpfbjeleooaaGreatRartBI
set_option maxHeartbeats 6400000
set_option maxRecDepth 100000
namespace Go.Proofs.YtbgbpfbjeleooaaGreat.Wr
open Go.RowKit
def outOf (xs : List Fld) : List Nat := xs.flatMap fb
def wrote (xs : List Fld) : ByteArray × Int :=
 if xs.all fok then (if (outOf xs).length ≤ 16777216 then (sof (outOf xs), 0) else (⟨#[]⟩, 6)) else (⟨#[]⟩, 1)
theorem jjn {α : Type} (xs : List α) (k : Nat) (h : k < xs.length) : xs.take (k + 1) = xs.take k ++ [xs[k]] := by rw [List.take_succ_eq_append_getElem h]
theorem jeW (xs : List Fld) (k : Nat) (h : k < xs.length) : outOf (xs.take (k + 1)) = outOf (xs.take k) ++ fb xs[k] := by
 rw [jjn xs k h]; unfold outOf; rw [List.flatMap_append]; simp
theorem jjo (xs : List Fld) (k : Nat) : (outOf (xs.take k)).length ≤ (outOf xs).length := by
 conv => rhs; rw [← List.take_append_drop k xs]
 unfold outOf
 rw [List.flatMap_append, List.length_append]
 omega
theorem jjp {xs : List Fld} {k : Nat} (h : k < xs.length) (hb : fok xs[k] = false) : xs.all fok = false := by
 rw [List.all_eq_false]
 exact ⟨xs[k], List.getElem_mem h, by simp [hb]⟩
theorem jga {xs : List Fld} (h : ∀ k (hk : k < xs.length), fok xs[k] = true) : xs.all fok = true := by
 rw [List.all_eq_true]
 intro x hx
 obtain ⟨k, hk, rfl⟩ := List.getElem_of_mem hx
 exact h k hk
theorem jeF {xs : List Fld} {s : ByteArray} {E : Int} (h : wrote xs = (s, E)) : Ending.returned (.tuple #[.string s, .int .i64 E]) = .returned (.tuple #[.string (wrote xs).1, .int .i64 (wrote xs).2]) := by rw [h]
theorem write_any (v : Value) (xs : List Fld) (w : World) (hv : IsFlds w v xs) (hin : ∀ x ∈ xs, FldIn x) :
    Calls Tryz.prog 103 #[v] w fun e w' => e = .returned (.tuple #[.string (wrote xs).1, .int .i64 (wrote xs).2]) ∧ w.grownBy w' none := by
     have hnot : ∀ (x : Bool) (w : World), (Op.unary .not (.bool x)).run Tryz.prog w = .ok (.bool (!x)) w := fun _ _ => rfl
     obtain ⟨i0, hi, hz0, hz1, hz2⟩ := info_parts infoByte
     have HV := jac hv
     have HI := jac hin
     obtain ⟨va, vc, rfl, h1, h2, h3, -, h5⟩ := hv
     clear hin
     go_enter Tryz.func103, Tryz.ntmps103
     go_wp2
     go_loopg [14] xs.length (fun f i wr => ∃ k : Nat, f = xs.length - k ∧ k ≤ xs.length ∧ i = .int .i64 k ∧ w.grownBy wr none ∧ ∀ j (_ : j < k) (hj : j < xs.length), fok xs[j] = true)
     case atStart => exact ⟨0, rfl, Nat.zero_le _, rfl, jae _, fun j h => by omega⟩
     case round =>
      obtain ⟨k, rfl, hk, rfl, hg, hok⟩ := hrel
      have HOK := jac hok
      clear hok
      by_cases hlt : k < xs.length
      ·obtain ⟨b, off, rfl, -⟩ := h5 (by omega)
       obtain ⟨a0, a1, a2, a3⟩ := (HV.out.more hg).at k hlt
       have W1 := jac (fun wx => jgO xs[k] wx (HI.out _ (List.getElem_mem hlt)))
       dsimp only [jbq] at W1
       cases hf : fok xs[k] with
       | true =>
        rw [hf] at W1
        have HF := jac hf
        clear hf
        go_wp2_with fail
        refine (W1.out _).mono ?_
        rintro e w1 ⟨rfl, g1⟩
        go_wp2
        go_roundg (xs.length - (k + 1))
        case measure => omega
        case rel =>
         refine ⟨k + 1, rfl, by omega, by go_num, jaa hg (jaa (jab _ _) g1), fun j h1 h2 => ?_⟩
         by_cases e : j = k
         ·subst e; exact HF.out
         ·exact HOK.out j (by omega) h2
       | false =>
        rw [hf] at W1
        have HW : Hid (wrote xs = (⟨#[]⟩, 1)) := by unfold wrote; rw [if_neg (by rw [jjp hlt hf]; simp)]; rfl
        clear hf
        go_wp2_with fail
        refine (W1.out _).mono ?_
        rintro e w1 ⟨rfl, g1⟩
        go_wp2
        go_ret2
        exact ⟨jeF HW.out, jaa hg (jaa (jab _ _) g1)⟩
      ·have HG : Hid (∀ j (hj : j < xs.length), fok xs[j] = true) := fun j hj => HOK.out j (by omega) hj
       have hgr1 := hg
       obtain rfl : k = xs.length := by omega
       clear HOK hg
       go_wp2
       go_loopg [6, 24] xs.length (fun f z i wr => ∃ k : Nat, f = xs.length - k ∧ k ≤ xs.length ∧ i = .int .i64 k ∧ z = .int .i64 (outOf (xs.take k)).length ∧ (outOf (xs.take k)).length ≤ 16777216 ∧ w.grownBy wr none)
       case atStart => exact ⟨0, rfl, Nat.zero_le _, rfl, rfl, by simp [outOf], hgr1⟩
       case round =>
        obtain ⟨k, rfl, hk, rfl, rfl, hle, hg⟩ := hrel
        by_cases hlt : k < xs.length
        ·obtain ⟨b, off, rfl, -⟩ := h5 (by omega)
         obtain ⟨a0, a1, a2, a3⟩ := (HV.out.more hg).at k hlt
         have FL := jac (fun wx => jfo xs[k] wx (HG.out k hlt) (HI.out _ (List.getElem_mem hlt)))
         dsimp only [jbq] at FL
         have hfl : (fb xs[k]).length ≤ 140737488351254 := by
          have h1 := (ji1 (x := xs[k])).2
          have h2 := (HI.out _ (List.getElem_mem hlt)).2.2.2.2.2.2
          omega
         have HS : Hid ((outOf (xs.take (k + 1))).length = (outOf (xs.take k)).length + (fb xs[k]).length) := by rw [jeW xs k hlt, List.length_append]; rfl
         obtain ⟨S, hS⟩ : ∃ S, S = (outOf (xs.take k)).length := ⟨_, rfl⟩
         obtain ⟨F, hF⟩ : ∃ F, F = (fb xs[k]).length := ⟨_, rfl⟩
         rw [← hS] at hle HS
         rw [← hF] at hfl FL HS
         rw [← hS]
         clear hS hF
         by_cases hbig : 16777216 < S + F
         ·have HW : Hid (wrote xs = (⟨#[]⟩, 6)) := by
            unfold wrote
            rw [if_pos (jga HG.out), if_neg (by have h1 := jjo xs (k + 1); have h2 := HS.out; omega)]
            rfl
          go_wp2_with fail
          refine (FL.out _).mono ?_
          rintro e w1 ⟨rfl, g1⟩
          go_wp2
          go_ret2
          exact ⟨jeF HW.out, jaa hg (jaa (jab _ _) g1)⟩
         ·go_wp2_with fail
          refine (FL.out _).mono ?_
          rintro e w1 ⟨rfl, g1⟩
          go_wp2
          go_roundg (xs.length - (k + 1))
          case measure => omega
          case rel => exact ⟨k + 1, rfl, by omega, by go_num, by rw [HS.out]; go_num, by rw [HS.out]; omega, jaa hg (jaa (jab _ _) g1)⟩
        ·obtain rfl : k = xs.length := by omega
         rw [List.take_length] at hle
         rw [List.take_length]
         have HW : Hid (wrote xs = (sof (outOf xs), 0)) := by unfold wrote; rw [if_pos (jga HG.out), if_pos hle]; rfl
         have hgr2 := hg
         obtain ⟨wm, rfl⟩ : ∃ wm, wm = wr := ⟨_, rfl⟩
         clear hgr1 hg
         go_wp2_with (refine wpList_make_own _ rfl (.const (.int .i64 0)) (.tmp 35) 84 rfl wm.heap.size 5 i0 _ 1 Tryz.underlying84 hi hz0 hz1 .i64 .i64 _ (outOf xs).length rfl rfl rfl ?_ ?_ (Nat.le_refl _) ?_; (rw [hz2]; omega); (simp only [maxLen]; omega); intro w3 hown3 hg3)
         have own0 : OwnsB w3 wm.heap.size (.slice (some ⟨wm.heap.size, 0, none⟩) 0 (outOf xs).length) [] := hown3
         have z3 := hg3.size
         go_loopg [9, 39] xs.length (fun f b i wr => ∃ (k : Nat) (v : Value), f = xs.length - k ∧ k ≤ xs.length ∧ i = .int .i64 k ∧ b = v ∧ OwnsB wr wm.heap.size v (outOf (xs.take k)) ∧ Below wm.heap.size wm wr)
         case atStart => exact ⟨0, _, rfl, Nat.zero_le _, rfl, rfl, by simpa [outOf] using own0, je2 hg3⟩
         case round =>
          obtain ⟨k, v, rfl, hk, rfl, rfl, hown, hbel⟩ := hrel
          clear own0 hown3
          have hgw := jaa hgr2 (below_grown hbel)
          have hz := hbel.size
          have hle2 := jjo xs k
          by_cases hlt : k < xs.length
          ·obtain ⟨b, off, rfl, -⟩ := h5 (by omega)
           obtain ⟨a0, a1, a2, a3⟩ := (HV.out.more hgw).at k hlt
           have hbs := (HI.out _ (List.getElem_mem hlt)).2.2.2.2.2.2
           have hfl : (fb xs[k]).length ≤ 16777216 := by
            have h1 := jjo xs (k + 1)
            rw [jeW xs k hlt, List.length_append] at h1
            omega
           have hbs2 : xs[k].b.size ≤ 16777216 := by
            have hk2 := jc6 (HG.out k hlt)
            have h1 := bytesOf_len xs[k].b
            unfold fb tailOf at hfl
            rw [List.length_append] at hfl
            rcases hk2 with h | h | h | h
            ·omega
            ·omega
            ·omega
            ·rw [if_neg (by omega), if_neg (by omega), if_neg (by omega), List.length_append] at hfl
             omega
           have AF := jac (fun wx (hw : wr.grownBy wx none) => jfn _ (outOf (xs.take k)) xs[k] wm.heap.size wx (hown.more hw) (Nat.le_trans hz hw.size) (HG.out k hlt) (HI.out _ (List.getElem_mem hlt)) (by omega))
           dsimp only [jbq] at AF
           have HN := jac (jeW xs k hlt)
           have hown' := hown
           obtain ⟨Y, hY⟩ : ∃ Y, Y = outOf (xs.take k) := ⟨_, rfl⟩
           rw [← hY] at AF hown HN
           obtain ⟨ao, cap, rfl⟩ := hown.form
           clear hY hown hown' hfl hbs hbs2 hle2
           go_wp2_with fail
           refine (AF.out _ (jab _ _)).mono ?_
           rintro e w5 ⟨v5, rfl, o5, l5, z5⟩
           go_wp2
           go_roundg (xs.length - (k + 1))
           case measure => omega
           case rel => exact ⟨k + 1, v5, rfl, by omega, by go_num, rfl, by rw [HN.out]; exact o5, (hbel.alloc (by omega) _).trans l5⟩
          ·obtain rfl : k = xs.length := by omega
           rw [List.take_length] at hown
           have hcv := conv_own hown
           clear hown
           go_wp2
           go_ret2
           exact ⟨jeF HW.out, hgw⟩
end Go.Proofs.YtbgbpfbjeleooaaGreat.Wr
namespace Go.Proofs.YtbgbpfbjeleooaaGreat.Wr
open Go.RowKit
theorem jgP (s : ByteArray) : Lib.strCells s = (bytesOf s).flatMap bcells := jfm s
theorem jhp (l : List Nat) (h : ∀ c ∈ l, c < 256) : bytesOf (sof l) = l := by
 unfold bytesOf
 rw [jdA]
 simp only [List.map_map]
 have e : ∀ c ∈ l, (UInt8.toNat ∘ fun (n : Nat) => UInt8.ofNat n) c = c := fun c hc => by
  have := h c hc
  simp only [Function.comp]
  rw [UInt8.toNat_ofNat']
  omega
 exact (List.map_congr_left e).trans (List.map_id' l)
theorem fb_lt (x : Fld) : ∀ c ∈ fb x, c < 256 := by
 intro c hc
 unfold fb at hc
 rcases List.mem_append.1 hc with h | h
 ·exact jhD _ _ c h
 ·unfold tailOf at h
  split at h
  ·exact jhD _ _ c h
  ·split at h
   ·exact jln _ _ c h
   ·split at h
    ·exact jln _ _ c h
    ·rcases List.mem_append.1 h with h | h
     ·exact jhD _ _ c h
     ·exact jh8 _ c h
def RWI (xs : List Fld) (w wr : World) (k : Nat) (v : Value) (L : Bool) : Prop :=
 k ≤ xs.length ∧ (∀ j (_ : j < k) (hj : j < xs.length), fok xs[j] = true) ∧ w.grownBy wr none ∧ (∃ ys, OwnsB wr w.heap.size v ys ∧ ys.length ≤ 16777216 ∧ (L = false → ys = outOf (xs.take k)) ∧ (L = true → 16777216 < (outOf (xs.take k)).length))
theorem refwrite_any (v : Value) (xs : List Fld) (w : World) (hv : IsFlds w v xs) (hin : ∀ x ∈ xs, FldIn x) :
    Calls Tryz.prog 18 #[v] w fun e w' => e = .returned (.tuple #[.string (wrote xs).1, .int .i64 (wrote xs).2]) ∧ w.grownBy w' none := by
     have hnot : ∀ (x : Bool) (w : World), (Op.unary .not (.bool x)).run Tryz.prog w = .ok (.bool (!x)) w := fun _ _ => rfl
     obtain ⟨i0, hi, hz0, hz1, hz2⟩ := info_parts infoByte
     have HV := jac hv
     have HI := jac hin
     obtain ⟨va, vc, rfl, h1, h2, h3, -, h5⟩ := hv
     clear hin
     go_enter Tryz.func18, Tryz.ntmps18
     go_wp2
     go_loopg [4, 5, 6] xs.length (fun f bb ll ii wr => ∃ (k : Nat) (v : Value) (L : Bool), f = xs.length - k ∧ bb = v ∧ ll = .bool L ∧ ii = .int .i64 k ∧ RWI xs w wr k v L)
     case atStart => exact ⟨0, _, false, rfl, rfl, rfl, rfl, Nat.zero_le _, fun j h => by omega, jae _, [], OwnsL.nil _ _ _ _ _, by simp, fun _ => by simp [outOf], fun h => by cases h⟩
     case round =>
      obtain ⟨k, v, L, rfl, rfl, rfl, rfl, hk, hok, hg, ys, hown, hyl, hy1, hy2⟩ := hrel
      obtain ⟨ao, cap, rfl⟩ := hown.form
      have HO := jac hown
      have HOK := jac hok
      have HY1 := jac hy1
      have HY2 := jac hy2
      have hgz := hg.size
      clear hok hown hy1 hy2
      by_cases hlt : k < xs.length
      ·obtain ⟨b, off, rfl, -⟩ := h5 (by omega)
       obtain ⟨a0, a1, a2, a3⟩ := (HV.out.more hg).at k hlt
       have ON := jac (fun wx => jly xs[k] wx (HI.out _ (List.getElem_mem hlt)))
       dsimp only [jbq] at ON
       have HSN := jac (jeW xs k hlt)
       cases hf : fok xs[k] with
       | true =>
        have HOK2 : Hid (∀ j (_ : j < k + 1) (hj : j < xs.length), fok xs[j] = true) := by
         intro j h1 h2
         by_cases e : j = k
         ·subst e; exact hf
         ·exact HOK.out j (by omega) h2
        have hfl : (fb xs[k]).length ≤ 140737488351254 := by
         have h1 := (ji1 (x := xs[k])).2
         have h2 := (HI.out _ (List.getElem_mem hlt)).2.2.2.2.2.2
         omega
        have hsz : (sof (fb xs[k])).size = (fb xs[k]).length := sof_size _
        have HBY := jac (jhp (fb xs[k]) (fb_lt _))
        have HSF : Hid (∀ e, One xs[k] e → e = .returned (.tuple #[.string (sof (fb xs[k])), .bool true])) := by
         intro e h
         rcases h with ⟨_, h⟩ | ⟨h, _⟩
         ·exact h
         ·rw [hf] at h; cases h
        obtain ⟨F, hF⟩ : ∃ F, F = fb xs[k] := ⟨_, rfl⟩
        obtain ⟨S, hS⟩ : ∃ S, S = sof (fb xs[k]) := ⟨_, rfl⟩
        rw [← hS] at hsz HBY HSF
        rw [← hF] at hsz HBY HSN hfl
        have HSZ := jac hsz
        have hs1 : S.size ≤ 140737488351254 := by omega
        clear hS hF hsz hfl hf HOK
        cases L with
        | true =>
         have HT2 := jac (HY2.out rfl)
         clear HY1 HY2
         by_cases hb : 16777216 < ys.length + S.size
         all_goals
          go_wp2_with fail
          refine (ON.out _).mono ?_
          rintro e w1 ⟨he, g1⟩
          obtain rfl := HSF.out e he
          clear he
          go_wp2
          go_roundg (xs.length - (k + 1))
          case measure => omega
          case rel => exact ⟨k + 1, _, true, rfl, rfl, rfl, by go_num, by omega, HOK2.out, jaa hg g1, ys, HO.out.more g1, hyl, (fun h => by cases h), fun _ => by rw [HSN.out, List.length_append]; have := HT2.out; omega⟩
        | false =>
         have HYK := jac (HY1.out rfl)
         clear HY1 HY2
         by_cases hb : 16777216 < ys.length + S.size
         ·go_wp2_with fail
          refine (ON.out _).mono ?_
          rintro e w1 ⟨he, g1⟩
          obtain rfl := HSF.out e he
          clear he
          go_wp2
          go_roundg (xs.length - (k + 1))
          case measure => omega
          case rel => exact ⟨k + 1, _, true, rfl, rfl, rfl, by go_num, by omega, HOK2.out, jaa hg g1, ys, HO.out.more g1, hyl, (fun h => by cases h), fun _ => by rw [HSN.out, List.length_append, ← HYK.out, ← HSZ.out]; exact hb⟩
         ·go_wp2_with fail
          refine (ON.out _).mono ?_
          rintro e w1 ⟨he, g1⟩
          obtain rfl := HSF.out e he
          clear he
          have g1z := g1.size
          go_wp2_with (at_builtin; refine Lib.wpList_append_own_string _ rfl (.tmp 33) (.tmp 34) 84 9 rfl w.heap.size 5 i0 Tryz.underlying84 Tryz.underlying9 hi hz0 hz1 hz2 _ _ _ rfl (HO.out.more g1) S rfl ?_ ?_ ?_ ?_; (simp only [maxLen]; omega); omega; omega; intro v4 w4 o4 g4 _)
          have o5 : OwnsB w4 w.heap.size v4 (ys ++ F) := by
           rw [jgP, HBY.out] at o4
           unfold OwnsB OwnsL
           rw [List.flatMap_append, List.length_append, ← HSZ.out]
           exact o4
          go_roundg (xs.length - (k + 1))
          case measure => omega
          case rel => exact ⟨k + 1, _, false, rfl, rfl, rfl, by go_num, by omega, HOK2.out, jdg (HO.out.more g1) (jaa hg g1) (Nat.le_refl _) g4, ys ++ F, o5, by rw [List.length_append, ← HSZ.out]; omega, fun _ => by rw [HSN.out, HYK.out], (fun h => by cases h)⟩
       | false =>
        have HW : Hid (wrote xs = (⟨#[]⟩, 1)) := by unfold wrote; rw [if_neg (by rw [jjp hlt hf]; simp)]; rfl
        have HSF : Hid (∀ e, One xs[k] e → e = .returned (.tuple #[.string ⟨#[]⟩, .bool false])) := by
         intro e h
         rcases h with ⟨h, _⟩ | ⟨_, h⟩
         ·rw [hf] at h; cases h
         ·exact h
        clear hf HOK
        go_wp2_with fail
        refine (ON.out _).mono ?_
        rintro e w1 ⟨he, g1⟩
        obtain rfl := HSF.out e he
        clear he
        go_wp2
        go_ret2
        exact ⟨jeF HW.out, jaa hg g1⟩
      ·obtain rfl : k = xs.length := by omega
       have HG : Hid (xs.all fok = true) := jga (fun j hj => HOK.out j hj hj)
       cases L with
       | true =>
        have HW : Hid (wrote xs = (⟨#[]⟩, 6)) := by
         unfold wrote
         have := HY2.out rfl
         rw [List.take_length] at this
         rw [if_pos HG.out, if_neg (by omega)]
         rfl
        clear HY1 HY2
        go_wp2
        go_ret2
        exact ⟨jeF HW.out, hg⟩
       | false =>
        have hy := HY1.out rfl
        rw [List.take_length] at hy
        have HW : Hid (wrote xs = (sof (outOf xs), 0)) := by
         unfold wrote
         rw [if_pos HG.out, if_pos (by rw [← hy]; exact hyl)]
         rfl
        have hcv := conv_own HO.out
        rw [show sof ys = sof (outOf xs) by rw [hy]] at hcv
        clear hy HY1 HY2
        go_wp2
        go_ret2
        exact ⟨jeF HW.out, hg⟩
end Go.Proofs.YtbgbpfbjeleooaaGreat.Wr
