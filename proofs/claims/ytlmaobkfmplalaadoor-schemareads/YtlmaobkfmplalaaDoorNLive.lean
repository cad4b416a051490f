/- Two lists of texts that are the same; what must be there, by the walk. -/
import Derived.Test.YtlmaobkfmplalaaDoorNCheck
namespace Go.Proofs.YtlmaobkfmplalaaDoor
open Go.RowKit

theorem lit_isL {α : Type} {te : TypeId} {bytes size : Nat} {f : α → List Value} (hf : ∀ a, (f a).length = size) {w : World} {g : Nat} {cs : Array Value} {xs : List α} (hb : w.heap[g]? = some (.cells cs te (0, 0))) (hc : cs.toList = xs.flatMap f) (hl : xs.length * bytes ≤ 140737488351232) (hm : xs.length ≤ 1000) :
    IsL bytes size f w (.slice (some ⟨g, 0, none⟩) xs.length xs.length) xs := by
  have hcs : cs.size = xs.length * size := by rw [← Array.length_toList, hc, flat_len hf]
  have ho : OwnsL te size f w 0 (.slice (some ⟨g, 0, none⟩) xs.length xs.length) xs := by
    refine ⟨flat_len hf xs, Or.inr ⟨g, xs.length, cs, rfl, Nat.zero_le _, hb, Nat.le_refl _, by simp only [maxLen]; omega, hcs, ?_⟩⟩
    rw [hc]
    exact List.take_of_length_le (by rw [flat_len hf]; exact Nat.le_refl _)
  exact ho.isL hf hl

theorem scell_len (s : ByteArray) : (scell s).length = 1 := rfl

theorem acells_len (a : Atr) : (acells a).length = 9 := rfl

set_option maxRecDepth 100000 in
set_option maxHeartbeats 1600000 in
theorem samestrs_any (u v : Value) (xs : List ByteArray) (w : World) (hu : IsStrs w u xs) (hv : IsStrs w v xs) :
    Calls Tryd.prog 14 #[u, v] w fun e w' => e = .returned (.bool true) ∧ w.grownBy w' none := by
  have HU := hide hu
  have HV := hide hv
  obtain ⟨ua, uc, rfl, h1, h2, h3⟩ := hu.form
  obtain ⟨va, vc, rfl, k1, k2, k3⟩ := hv.form
  clear hu hv
  go_enter Tryd.func14, Tryd.ntmps14
  go_wp2
  go_loopw [5] (fun i wr => w.grownBy wr none ∧ ∃ k : Nat, k ≤ xs.length ∧ i = .int .i64 k) (fun i _ => xs.length - (intOf i).toNat)
  case atStart => exact ⟨grown_refl _, 0, Nat.zero_le _, rfl⟩
  case round =>
    obtain ⟨hg, k, hk, rfl⟩ := hrel
    by_cases hlt : k < xs.length
    · have HUk := HU.out.more hg
      have HVk := HV.out.more hg
      obtain ⟨ub, uo, rfl⟩ := HUk.addr hlt
      obtain ⟨vb, vo, rfl⟩ := HVk.addr hlt
      have a0 := str_at HUk k hlt
      have b0 := str_at HVk k hlt
      clear HUk HVk
      go_wp2
      go_region
      all_goals
        go_wp2
        go_roundw
        case rel => exact ⟨grown_drew hg, k + 1, by omega, by go_num⟩
        case measure => simp [intOf]; omega
    · go_wp2
      go_ret
      exact ⟨rfl, hg⟩

def thenA (s : ByteArray) : Atr := ⟨⟨#[116, 104, 101, 110]⟩, 3, 0, 0, s, 0, ⟨none, 0, 0⟩, ⟨none, 0, 0⟩, ⟨none, 0, 0⟩⟩

theorem find_then (s : ByteArray) : [thenA s].find? (isA ⟨#[116, 104, 101, 110]⟩ 3) = some (thenA s) := by
  simp [thenA, isA, bytes_toList]

theorem attrs_then (s : ByteArray) : attrsE [thenRa] [thenA s] = 0 := by
  simp [attrsE, chk1, lacks, thenRa, thenA, sameR, bytes_toList]

theorem e_relu : checkE (some (1, 1, [thenRa])) [⟨#[120]⟩] ⟨#[121]⟩ [] = 0 := by
  simp [checkE, isS, bytes_toList, attrsE, chk1, lacks, thenRa, thenE]

theorem e_cast : checkE (some (1, 1, [⟨⟨#[116, 111]⟩, 2, true⟩, thenRa])) [⟨#[120]⟩] ⟨#[121]⟩ [] = 4 := by
  simp [checkE, isS, bytes_toList, attrsE, chk1, lacks, thenRa]

theorem e_add (s : ByteArray) : checkE (some (2, 2, [thenRa])) [⟨#[120]⟩, ⟨#[121]⟩] ⟨#[122]⟩ [thenA s] = thenE (some (thenA s)) := by
  simp only [checkE, attrs_then, find_then]
  simp [isS, bytes_toList]

theorem e_one (s : ByteArray) : checkE (some (1, 1, [thenRa])) [⟨#[120]⟩] ⟨#[121]⟩ [thenA s] = thenE (some (thenA s)) := by
  simp only [checkE, attrs_then, find_then]
  simp [isS, bytes_toList]

def reluNeg : ByteArray := ⟨#[82, 101, 108, 117, 44, 78, 101, 103]⟩

theorem then_live : thenE (some (thenA reluNeg)) = 0 ∧ thenL (some (thenA reluNeg)) = [⟨#[82, 101, 108, 117]⟩, ⟨#[78, 101, 103]⟩] := by
  have hp : pcs (thenA reluNeg).s.data.toList = [[82, 101, 108, 117], [78, 101, 103]] := by rfl
  have h := then_all hp (by simp [isOne, ones, bytes_toList, B])
  exact h

theorem lit_one (w : World) (x : ByteArray) : IsStrs (w.alloc (.cells #[.string x] 9)) (.slice (some ⟨w.heap.size, 0, none⟩) 1 1) [x] :=
  lit_isL (xs := [x]) scell_len (heap_alloc_new w _) rfl (by simp) (by simp)

theorem lit_two (w : World) (x y : ByteArray) : IsStrs (w.alloc (.cells #[.string x, .string y] 9)) (.slice (some ⟨w.heap.size, 0, none⟩) 2 2) [x, y] :=
  lit_isL (xs := [x, y]) scell_len (heap_alloc_new w _) rfl (by simp) (by simp)

theorem lit_then (w : World) (s : ByteArray) : IsAttrs (w.alloc (.cells #[.string ⟨#[116, 104, 101, 110]⟩, .int .i64 3, .int .i64 0, .int .i64 0, .string s, .int .i64 0, .slice none 0 0, .slice none 0 0, .slice none 0 0] 45)) (.slice (some ⟨w.heap.size, 0, none⟩) 1 1) [thenA s] :=
  lit_isL (xs := [thenA s]) acells_len (heap_alloc_new w _) rfl (by simp) (by simp)

set_option maxRecDepth 100000 in
set_option maxHeartbeats 3200000 in
theorem slive_any (w : World) (hl : Laid w) : Calls Tryd.prog 16 #[] w fun e w' => e = .returned (.bool true) ∧ w.grownBy w' none := by
  have HL := hide hl
  have g0 := grown_refl w
  clear hl
  go_enter Tryd.func16, Tryd.ntmps16
  go_wp2_with fail
  refine (check_of ⟨⟨#[82, 101, 108, 117]⟩, ⟨#[]⟩, ⟨some ⟨w.heap.size, 0, none⟩, 1, 1⟩, ⟨#[121]⟩, ⟨none, 0, 0⟩⟩ [] [⟨#[120]⟩] _ _ (HL.out.more (by first | exact grown_new _ _ | exact grown_trans g0 (grown_new _ _))) (lit_one w _) (IsL.nil _ _ _ _) (by simp) (fun wx h => rule_Relu wx h) (by rintro _ _ _ ⟨⟩; decide) (by rw [bytes_toList]; rfl)).mono ?_
  rintro e w1 ⟨rfl, hg1⟩
  have g1 : w.grownBy w1 none := (by first | exact grown_trans (grown_new _ _) hg1 | exact grown_trans (grown_trans g0 (grown_new _ _)) hg1)
  rw [e_relu]
  go_wp2_with fail
  refine (check_of ⟨⟨#[87, 104, 97, 116]⟩, ⟨#[]⟩, ⟨some ⟨w1.heap.size, 0, none⟩, 1, 1⟩, ⟨#[121]⟩, ⟨none, 0, 0⟩⟩ [] [⟨#[120]⟩] _ _ (HL.out.more (by first | exact grown_new _ _ | exact grown_trans g1 (grown_new _ _))) (lit_one w1 _) (IsL.nil _ _ _ _) (by simp) (fun wx h => rule_What wx h) (by rintro _ _ _ ⟨⟩) (by rw [bytes_toList]; rfl)).mono ?_
  rintro e w2 ⟨rfl, hg2⟩
  have g2 : w.grownBy w2 none := (by first | exact grown_trans (grown_new _ _) hg2 | exact grown_trans (grown_trans g1 (grown_new _ _)) hg2)
  rw [show checkE none _ _ _ = 5 from rfl]
  go_wp2_with fail
  refine (check_of ⟨⟨#[67, 97, 115, 116]⟩, ⟨#[]⟩, ⟨some ⟨w2.heap.size, 0, none⟩, 1, 1⟩, ⟨#[121]⟩, ⟨none, 0, 0⟩⟩ [] [⟨#[120]⟩] _ _ (HL.out.more (by first | exact grown_new _ _ | exact grown_trans g2 (grown_new _ _))) (lit_one w2 _) (IsL.nil _ _ _ _) (by simp) (fun wx h => rule_Cast wx h) (by rintro _ _ _ ⟨⟩; decide) (by rw [bytes_toList]; rfl)).mono ?_
  rintro e w3 ⟨rfl, hg3⟩
  have g3 : w.grownBy w3 none := (by first | exact grown_trans (grown_new _ _) hg3 | exact grown_trans (grown_trans g2 (grown_new _ _)) hg3)
  rw [e_cast]
  obtain ⟨X, hX⟩ : ∃ X, X = w3.alloc (.cells #[.string ⟨#[120]⟩, .string ⟨#[121]⟩] 9) := ⟨_, rfl⟩
  have hXs : X.heap.size = w3.heap.size + 1 := by rw [hX]; simp
  obtain ⟨Y, hY⟩ : ∃ Y, Y = X.alloc (.cells #[.string ⟨#[116, 104, 101, 110]⟩, .int .i64 3, .int .i64 0, .int .i64 0, .string reluNeg, .int .i64 0, .slice none 0 0, .slice none 0 0, .slice none 0 0] 45) := ⟨_, rfl⟩
  have hYs : Y.heap.size = w3.heap.size + 1 + 1 := by rw [hY]; simp [hXs]
  obtain ⟨W, hW⟩ : ∃ W, W = Y.alloc (.cells #[.string ⟨#[65, 100, 100]⟩, .string ⟨#[]⟩, .slice (some ⟨w3.heap.size, 0, none⟩) 2 2, .string ⟨#[122]⟩, .slice (some ⟨w3.heap.size + 1, 0, none⟩) 1 1] 25) := ⟨_, rfl⟩
  have gX : w3.grownBy X none := by rw [hX]; exact grown_new _ _
  have gY : X.grownBy Y none := by rw [hY]; exact grown_new _ _
  have gW : Y.grownBy W none := by rw [hW]; exact grown_new _ _
  have I1 : IsStrs X (.slice (some ⟨w3.heap.size, 0, none⟩) 2 2) [⟨#[120]⟩, ⟨#[121]⟩] := by rw [hX]; exact lit_two w3 _ _
  have A1 : IsAttrs Y (.slice (some ⟨w3.heap.size + 1, 0, none⟩) 1 1) [thenA reluNeg] := by rw [hY, ← hXs]; exact lit_then X _
  have B1 : W.heap[w3.heap.size + 1 + 1]? = some (.cells #[.string ⟨#[65, 100, 100]⟩, .string ⟨#[]⟩, .slice (some ⟨w3.heap.size, 0, none⟩) 2 2, .string ⟨#[122]⟩, .slice (some ⟨w3.heap.size + 1, 0, none⟩) 1 1] 25 (0, 0)) := by rw [hW, ← hYs]; exact heap_alloc_new Y _
  have IW := hide (I1.more (grown_trans gY gW))
  have AW := hide (A1.more gW)
  have BW := hide B1
  have gw := grown_trans g3 (grown_trans gX (grown_trans gY gW))
  clear I1 A1 B1 hXs hYs gX gY gW
  go_wp2_with fail
  rw [show (⟨#[82, 101, 108, 117, 44, 78, 101, 103]⟩ : ByteArray) = reluNeg from rfl, ← hX, ← hY, ← hW]
  clear hX hY hW
  refine (then_any ⟨⟨#[65, 100, 100]⟩, ⟨#[]⟩, ⟨some ⟨w3.heap.size, 0, none⟩, 2, 2⟩, ⟨#[122]⟩, ⟨some ⟨w3.heap.size + 1, 0, none⟩, 1, 1⟩⟩ [thenA reluNeg] W (HL.out.more gw) AW.out (by intro a ha; rw [List.mem_singleton] at ha; subst ha; decide)).mono ?_
  rintro e w4 ⟨v, rfl, ov, hg4⟩
  have g4 := grown_trans gw hg4
  rw [find_then, then_live.2] at ov
  rw [find_then, then_live.1]
  obtain ⟨va, vc, rfl⟩ := OwnsL.form ov
  have IV := hide (ov.isL (bytes := 16) scell_len (by decide))
  obtain ⟨n0, n1, n2, n3, n4⟩ := nod_cells (n := ⟨⟨#[65, 100, 100]⟩, ⟨#[]⟩, ⟨some ⟨w3.heap.size, 0, none⟩, 2, 2⟩, ⟨#[122]⟩, ⟨some ⟨w3.heap.size + 1, 0, none⟩, 1, 1⟩⟩) (box_kept BW.out hg4)
  clear ov
  go_wp2_with fail
  refine (check_of ⟨⟨#[65, 100, 100]⟩, ⟨#[]⟩, ⟨some ⟨w3.heap.size, 0, none⟩, 2, 2⟩, ⟨#[122]⟩, ⟨some ⟨w3.heap.size + 1, 0, none⟩, 1, 1⟩⟩ [thenA reluNeg] [⟨#[120]⟩, ⟨#[121]⟩] _ w4 (HL.out.more g4) (IW.out.more hg4) (AW.out.more hg4) (by intro a ha; rw [List.mem_singleton] at ha; subst ha; decide) (fun wx h => rule_Add wx h) (by rintro _ _ _ ⟨⟩; decide) (by rw [bytes_toList]; rfl)).mono ?_
  rintro e w5 ⟨rfl, hg5⟩
  rw [e_add, then_live.1]
  have I5 := IV.out.more hg5
  obtain ⟨vb, vo, rfl⟩ := I5.addr (k := 1) (by decide)
  have c1 := str_at I5 1 (by decide)
  clear I5
  go_wp2
  go_ret
  exact ⟨rfl, grown_trans g4 hg5⟩
end Go.Proofs.YtlmaobkfmplalaaDoor
