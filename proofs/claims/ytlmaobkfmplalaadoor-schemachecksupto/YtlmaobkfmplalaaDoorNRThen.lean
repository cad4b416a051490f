/- What follows in a node: the document's answer, by the walk. -/
import Derived.Test.YtlmaobkfmplalaaDoorNRFind
import Derived.Test.YtlmaobkfmplalaaDoorNRAmong
import Derived.Test.YtlmaobkfmplalaaDoorNLive
namespace Go.Proofs.YtlmaobkfmplalaaDoor
open Go.RowKit

/-- How far the document's Then has come. -/
structure TInv (S : List UInt8) (wb wr : World) (v : Value) (acc : List (List UInt8)) (f i : Nat) : Prop where
  own : OwnsS wr wb.heap.size v (acc.map B)
  all : acc.all (fun p => isOne (B p)) = true
  le : f ≤ i
  far : i ≤ S.length + 1
  at_ : i ≤ S.length → pcs S = acc ++ pcs (S.drop f) ∧ ∀ k, f ≤ k → k < i → S[k]? ≠ some 44
  end_ : i = S.length + 1 → pcs S = acc
  grown : wb.grownBy wr none

theorem drop_none {S : List UInt8} {f i : Nat} (h : ∀ k, f ≤ k → k < i → S[k]? ≠ some 44) : ∀ k, k < i - f → (S.drop f)[k]? ≠ some 44 := by
  intro k hk
  rw [List.getElem?_drop]
  exact h (f + k) (by omega) (by omega)

/-- A piece that ends at a comma. -/
theorem piece_hit {S : List UInt8} {acc : List (List UInt8)} {f i : Nat} (hfi : f ≤ i) (h : pcs S = acc ++ pcs (S.drop f)) (hn : ∀ k, f ≤ k → k < i → S[k]? ≠ some 44) (hi : S[i]? = some 44) : pcs S = acc ++ (S.drop f).take (i - f) :: pcs (S.drop (i + 1)) := by
  rw [h, pcs_hit (l := S.drop f) (i := i - f) (by rw [List.getElem?_drop, show f + (i - f) = i by omega]; exact hi) (drop_none hn), List.drop_drop, show f + (i - f + 1) = i + 1 by omega]

/-- The last piece. -/
theorem piece_last {S : List UInt8} {acc : List (List UInt8)} {f : Nat} (h : pcs S = acc ++ pcs (S.drop f)) (hn : ∀ k, f ≤ k → k < S.length → S[k]? ≠ some 44) : pcs S = acc ++ S.drop f :: [] := by
  rw [h, pcs_miss (l := S.drop f)]
  intro k
  rw [List.getElem?_drop]
  by_cases hk : f + k < S.length
  · exact hn _ (by omega) hk
  · rw [List.getElem?_eq_none (by omega)]; simp

theorem B_extract (s : ByteArray) (f i : Nat) : s.extract f i = B ((s.data.toList.drop f).take (i - f)) := by
  unfold B
  rw [Lib.extract_eq]

set_option maxRecDepth 100000 in
set_option maxHeartbeats 6400000 in
theorem rthen_any (n : Nod) (xs : List Atr) (w : World) (hv : IsAttrs w n.av.v xs) (hsz : ∀ a ∈ xs, a.s.size ≤ 1048576) :
    Calls Tryd.prog 11 #[nval n] w fun e w' => ∃ v, e = .returned (.tuple #[v, .int .i64 (thenE (xs.find? (isA ⟨#[116, 104, 101, 110]⟩ 3)))]) ∧ OwnsS w' w.heap.size v (thenL (xs.find? (isA ⟨#[116, 104, 101, 110]⟩ 3))) ∧ w.grownBy w' none := by
  have FN := hide (fun (wx : World) (hg : w.grownBy wx none) => rfind_any n xs ⟨#[116, 104, 101, 110]⟩ 3 wx (hv.more hg))
  obtain ⟨op, nam, ⟨ia, il, ic⟩, out, ⟨ao, al, cap⟩⟩ := n
  unfold nval at FN ⊢
  unfold aval at FN
  simp only at FN ⊢
  clear hv
  obtain ⟨w0, hw0⟩ : ∃ w0, w0 = w.alloc (.cells #[.string op, .string nam, .slice ia il ic, .string out, .slice ao al cap] 25) := ⟨_, rfl⟩
  have g0 : w.grownBy w0 none := by rw [hw0]; exact grown_new _ _
  have hb0 := heap_alloc_new w (.cells #[.string op, .string nam, .slice ia il ic, .string out, .slice ao al cap] 25)
  obtain ⟨n0, n1, n2, n3, n4⟩ := nod_cells (n := ⟨op, nam, ⟨ia, il, ic⟩, out, ⟨ao, al, cap⟩⟩) hb0
  go_enter Tryd.func11, Tryd.ntmps11
  go_wp2_with fail
  rw [← hw0]
  clear hw0 n0 n1 n2 n3 n4 hb0
  refine (FN.out w0 g0).mono ?_
  rintro e w1 ⟨rfl, hg1⟩
  cases hf : xs.find? (isA ⟨#[116, 104, 101, 110]⟩ 3) with
  | none =>
    simp only [Option.getD_none, Option.isSome_none]
    have HF := hide hf
    clear hf FN
    have G := hide (grown_trans (grown_trans g0 hg1) (grown_new w1 (.cells #[.string noAtr.name, .int .i64 noAtr.kind, .int .i64 noAtr.f, .int .i64 noAtr.i, .string noAtr.s, .int .i64 noAtr.ty, .slice noAtr.dv.a noAtr.dv.n noAtr.dv.c, .slice noAtr.tv.a noAtr.tv.n noAtr.tv.c, .slice noAtr.iv.a noAtr.iv.n noAtr.iv.c] 45)))
    go_wp2
    go_ret2
    exact ⟨_, by rw [HF.out]; rfl, by rw [HF.out]; exact OwnsL.nil .., G.out⟩
  | some A =>
    simp only [Option.getD_some, Option.isSome_some]
    have HF := hide hf
    have hbig : A.s.size ≤ 1048576 := hsz A (List.mem_of_find?_eq_some hf)
    clear hf FN hsz
    obtain ⟨W2, hW2⟩ : ∃ W2, W2 = w1.alloc (.cells #[.string A.name, .int .i64 A.kind, .int .i64 A.f, .int .i64 A.i, .string A.s, .int .i64 A.ty, .slice A.dv.a A.dv.n A.dv.c, .slice A.tv.a A.tv.n A.tv.c, .slice A.iv.a A.iv.n A.iv.c] 45) := ⟨_, rfl⟩
    have G2 : w.grownBy W2 none := by rw [hW2]; exact grown_trans (grown_trans g0 hg1) (grown_new _ _)
    have bA := heap_alloc_new w1 (.cells #[.string A.name, .int .i64 A.kind, .int .i64 A.f, .int .i64 A.i, .string A.s, .int .i64 A.ty, .slice A.dv.a A.dv.n A.dv.c, .slice A.tv.a A.tv.n A.tv.c, .slice A.iv.a A.iv.n A.iv.c] 45)
    rw [← hW2] at bA
    have BA : Hid (∀ wx, W2.grownBy wx none → wx.heap[w1.heap.size]? = some (.cells #[.string A.name, .int .i64 A.kind, .int .i64 A.f, .int .i64 A.i, .string A.s, .int .i64 A.ty, .slice A.dv.a A.dv.n A.dv.c, .slice A.tv.a A.tv.n A.tv.c, .slice A.iv.a A.iv.n A.iv.c] 45 (0, 0))) := fun wx hx => box_kept bA hx
    clear bA
    obtain ⟨i0, hi, hz0, hz1, hz2⟩ := info_parts infoStr
    go_wp2_with fail
    rw [← hW2]
    clear hW2
    have SL : Hid (A.s.data.toList.length = A.s.size) := Array.length_toList
    have INV : Hid (TInv A.s.data.toList W2 W2 (.slice none 0 0) [] 0 0) := ⟨OwnsL.nil .., rfl, Nat.le_refl _, by omega, fun _ => ⟨by simp, fun k _ h => by omega⟩, fun h => by omega, grown_refl _⟩
    go_loopw [6, 7, 8] (fun v f i wr => ∃ (acc : List (List UInt8)) (fr k : Nat), f = .int .i64 fr ∧ i = .int .i64 k ∧ TInv A.s.data.toList W2 wr v acc fr k) (fun _ _ i _ => A.s.size + 1 - (intOf i).toNat)
    case atStart => exact ⟨[], 0, 0, rfl, rfl, INV.out⟩
    case round =>
      obtain ⟨acc, fr, k, rfl, rfl, hinv⟩ := hrel
      have TI := hide hinv
      have hfr := hinv.le
      have hfar : k ≤ A.s.size + 1 := by have := hinv.far; have := SL.out; omega
      obtain ⟨va, vc, ev⟩ := OwnsL.form hinv.own
      rw [List.length_map] at ev
      subst ev
      obtain ⟨-, -, -, -, cS, -⟩ := atr_cells (BA.out wr hinv.grown)
      clear hinv
      have hacl : acc.length ≤ A.s.size + 1 := by
        have h1 := pcs_len A.s.data.toList
        have h2 := SL.out
        by_cases h3 : k ≤ A.s.data.toList.length
        · rw [(TI.out.at_ h3).1, List.length_append] at h1
          omega
        · rw [TI.out.end_ (by have := TI.out.far; omega)] at h1
          omega
      by_cases hlt : k < A.s.size
      · have hSk : A.s.data.toList[k]? = some A.s[k] := by
          rw [List.getElem?_eq_getElem (by have := SL.out; omega)]
          rfl
        have HSK := hide hSk
        clear hSk
        by_cases hc : (((A.s[k].toNat : Nat) : Int) != 44) = true
        · have HNE : Hid (A.s[k] ≠ 44) := fun e => by rw [e] at hc; exact absurd hc (by decide)
          have ST : Hid (TInv A.s.data.toList W2 wr (.slice va acc.length vc) acc fr (k + 1)) := ⟨TI.out.own, TI.out.all, by omega, by have := SL.out; omega, fun _ => ⟨(TI.out.at_ (by have := SL.out; omega)).1, fun q h1 h2 => by
            by_cases hq : q = k
            · rw [hq, HSK.out]
              exact fun e => HNE.out (Option.some.inj e)
            · exact (TI.out.at_ (by have := SL.out; omega)).2 q h1 (by omega)⟩, fun h => by have := SL.out; omega, TI.out.grown⟩
          go_wp2
          go_roundw
          case rel => exact ⟨acc, fr, k + 1, rfl, by go_num, ST.out⟩
          case measure => simp [intOf]; omega
        · have hc' : (((A.s[k].toNat : Nat) : Int) != 44) = false := by simpa using hc
          have HEQ : Hid (A.s[k] = 44) := by
            have h1 : ((A.s[k].toNat : Nat) : Int) = 44 := by simpa using hc'
            exact UInt8.toNat_inj.1 (by have : A.s[k].toNat = 44 := by omega
                                        exact this)
          have HPC : Hid (pcs A.s.data.toList = acc ++ (A.s.data.toList.drop fr).take (k - fr) :: pcs (A.s.data.toList.drop (k + 1))) := piece_hit hfr (TI.out.at_ (by have := SL.out; omega)).1 (TI.out.at_ (by have := SL.out; omega)).2 (by rw [HSK.out, HEQ.out])
          clear hc
          go_wp2_with fail
          rw [B_extract]
          refine (rone_any (B ((A.s.data.toList.drop fr).take (k - fr))) wr).mono ?_
          rintro e w6 ⟨rfl, hg6⟩
          have g6 := grown_trans TI.out.grown hg6
          cases ht : isOne (B ((A.s.data.toList.drop fr).take (k - fr))) with
          | false =>
            obtain ⟨t1, t2⟩ := then_not HPC.out ht
            have HT1 := hide t1
            have HT2 := hide t2
            clear t1 t2 ht
            go_wp2
            go_ret2
            exact ⟨_, by rw [HF.out, HT1.out]; rfl, by rw [HF.out, HT2.out]; exact OwnsL.nil .., grown_trans G2 g6⟩
          | true =>
            have HT := hide ht
            clear ht
            have HO6 := hide (TI.out.own.more hg6)
            have hsz6 := g6.size
            go_wp2_with (at_builtin; refine wpList_append_own _ rfl (.tmp 44) (.tmp 46) 22 rfl W2.heap.size 9 i0 (.string ⟨#[]⟩) 1 16 Tryd.underlying22 hi hz0 hz1 hz2 rfl (by decide) _ _ _ rfl (by exact World.ownsRow.alloc HO6.out _) ⟨w6.heap.size, 0, none⟩ 1 1 [.string (B ((A.s.data.toList.drop fr).take (k - fr)))] rfl rfl (cell_one_new _ _ _) (by simp [Value.oneCell']) (by simp only [maxLen, List.length_map]; omega) (by simp only [List.length_map]; omega) (by simp; omega) ?_; intro v' w8 hown' hgrow _; obtain ⟨na, nc, rfl⟩ := own_form hown'; have HO8 := hide (owns_snoc rfl hown'); have g8 : Hid (W2.grownBy w8 none) := grown_trans_row (grown_trans g6 (grown_new w6 (.cells #[.string (B ((A.s.data.toList.drop fr).take (k - fr)))] 9))) hgrow (fun r e => by have := World.ownsRow.lt HO6.out r e; omega))
            rw [List.length_map] at HO8
            have ST : Hid (TInv A.s.data.toList W2 w8 (.slice na (acc.length + 1) nc) (acc ++ [((A.s.data.toList.drop fr).take (k - fr))]) (k + 1) (k + 1)) := ⟨HO8.out, by simp [TI.out.all, HT.out], Nat.le_refl _, by have := SL.out; omega, fun _ => ⟨by rw [HPC.out]; simp, fun q h1 h2 => by omega⟩, fun h => by have := SL.out; omega, g8.out⟩
            go_roundw
            case rel => exact ⟨acc ++ [((A.s.data.toList.drop fr).take (k - fr))], k + 1, k + 1, by go_num, by go_num, ST.out⟩
            case measure => simp [intOf]; omega
      · by_cases hend : k = A.s.size
        · have HPC : Hid (pcs A.s.data.toList = acc ++ A.s.data.toList.drop fr :: []) := piece_last (TI.out.at_ (by have := SL.out; omega)).1 (fun q h1 h2 => (TI.out.at_ (by have := SL.out; omega)).2 q h1 (by have := SL.out; omega))
          go_wp2_with fail
          rw [B_extract1]
          refine (rone_any (B (A.s.data.toList.drop fr)) wr).mono ?_
          rintro e w6 ⟨rfl, hg6⟩
          have g6 := grown_trans TI.out.grown hg6
          cases ht : isOne (B (A.s.data.toList.drop fr)) with
          | false =>
            obtain ⟨t1, t2⟩ := then_not HPC.out ht
            have HT1 := hide t1
            have HT2 := hide t2
            clear t1 t2 ht
            go_wp2
            go_ret2
            exact ⟨_, by rw [HF.out, HT1.out]; rfl, by rw [HF.out, HT2.out]; exact OwnsL.nil .., grown_trans G2 g6⟩
          | true =>
            have HT := hide ht
            clear ht
            have HO6 := hide (TI.out.own.more hg6)
            have hsz6 := g6.size
            go_wp2_with (at_builtin; refine wpList_append_own _ rfl (.tmp 44) (.tmp 46) 22 rfl W2.heap.size 9 i0 (.string ⟨#[]⟩) 1 16 Tryd.underlying22 hi hz0 hz1 hz2 rfl (by decide) _ _ _ rfl (by exact World.ownsRow.alloc HO6.out _) ⟨w6.heap.size, 0, none⟩ 1 1 [.string (B (A.s.data.toList.drop fr))] rfl rfl (cell_one_new _ _ _) (by simp [Value.oneCell']) (by simp only [maxLen, List.length_map]; omega) (by simp only [List.length_map]; omega) (by simp; omega) ?_; intro v' w8 hown' hgrow _; obtain ⟨na, nc, rfl⟩ := own_form hown'; have HO8 := hide (owns_snoc rfl hown'); have g8 : Hid (W2.grownBy w8 none) := grown_trans_row (grown_trans g6 (grown_new w6 (.cells #[.string (B (A.s.data.toList.drop fr))] 9))) hgrow (fun r e => by have := World.ownsRow.lt HO6.out r e; omega))
            rw [List.length_map] at HO8
            have ST : Hid (TInv A.s.data.toList W2 w8 (.slice na (acc.length + 1) nc) (acc ++ [(A.s.data.toList.drop fr)]) (k + 1) (k + 1)) := ⟨HO8.out, by simp [TI.out.all, HT.out], Nat.le_refl _, by have := SL.out; omega, fun h => by have := SL.out; omega, fun _ => by rw [HPC.out], g8.out⟩
            go_roundw
            case rel => exact ⟨acc ++ [(A.s.data.toList.drop fr)], k + 1, k + 1, by go_num, by go_num, ST.out⟩
            case measure => simp [intOf]; omega
        · have hk1 : k = A.s.size + 1 := by omega
          obtain ⟨t1, t2⟩ := then_all (a := A) (TI.out.end_ (by have := SL.out; omega)) TI.out.all
          have HT1 := hide t1
          have HT2 := hide t2
          clear t1 t2
          go_wp2
          go_ret2
          exact ⟨_, by rw [HF.out, HT1.out]; rfl, by rw [HF.out, HT2.out]; exact TI.out.own.base_le G2.size, grown_trans G2 TI.out.grown⟩
end Go.Proofs.YtlmaobkfmplalaaDoor
