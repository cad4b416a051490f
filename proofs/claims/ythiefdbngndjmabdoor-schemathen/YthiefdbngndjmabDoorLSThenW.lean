/- SchemaThen, by the walk. -/
import Derived.Test.YthiefdbngndjmabDoorNLive
namespace Go.Proofs.YthiefdbngndjmabDoor
open Go.RowKit

/-- Texts with commas between them. -/
def jn : List (List UInt8) → List UInt8
  | [] => []
  | [p] => p
  | p :: q :: r => p ++ 44 :: jn (q :: r)

theorem jn_snoc : ∀ (acc : List (List UInt8)) (p : List UInt8), acc ≠ [] → jn (acc ++ [p]) = jn acc ++ 44 :: p
  | [], _, h => absurd rfl h
  | [a], p, _ => rfl
  | a :: b :: r, p, _ => by
    have h := jn_snoc (b :: r) p (by simp)
    rw [show a :: b :: r ++ [p] = a :: ((b :: r) ++ [p]) from rfl, show (b :: r) ++ [p] = b :: (r ++ [p]) from rfl, jn, show b :: (r ++ [p]) = (b :: r) ++ [p] from rfl, h, jn]
    simp

theorem pcs_app : ∀ (p r : List UInt8), (∀ c ∈ p, c ≠ 44) → pcs (p ++ 44 :: r) = p :: pcs r
  | [], r, _ => by simp [pcs]
  | c :: p, r, h => by
    have h1 := pcs_app p r (fun x hx => h x (List.mem_cons_of_mem _ hx))
    rw [List.cons_append, pcs, if_neg (h c (List.mem_cons_self ..)), h1]

theorem pcs_plain : ∀ (p : List UInt8), (∀ c ∈ p, c ≠ 44) → pcs p = [p]
  | [], _ => rfl
  | c :: p, h => by rw [pcs, if_neg (h c (List.mem_cons_self ..)), pcs_plain p (fun x hx => h x (List.mem_cons_of_mem _ hx))]

theorem pcs_jn : ∀ (acc : List (List UInt8)), acc ≠ [] → (∀ p ∈ acc, ∀ c ∈ p, c ≠ 44) → pcs (jn acc) = acc
  | [], h, _ => absurd rfl h
  | [p], _, h => pcs_plain p (h p (List.mem_cons_self ..))
  | p :: q :: r, _, h => by
    rw [jn, pcs_app p _ (h p (List.mem_cons_self ..)), pcs_jn (q :: r) (by simp) (fun x hx => h x (List.mem_cons_of_mem _ hx))]

theorem ones_plain : ∀ p ∈ ones, ∀ c ∈ p, c ≠ 44 := by decide

theorem ones_one {p : List UInt8} (h : p ∈ ones) : isOne (B p) = true := by
  unfold isOne
  rw [List.any_eq_true]
  exact ⟨p, h, by rw [bytes_toList, B_list]; simp⟩

theorem jn_len : ∀ (acc : List (List UInt8)), (∀ p ∈ acc, p.length ≤ 8) → (jn acc).length ≤ acc.length * 9
  | [], _ => by simp [jn]
  | [p], h => by have := h p (List.mem_cons_self ..); simp [jn]; omega
  | p :: q :: r, h => by
    have h1 := h p (List.mem_cons_self ..)
    have h2 := jn_len (q :: r) (fun x hx => h x (List.mem_cons_of_mem _ hx))
    rw [jn, List.length_append, List.length_cons]
    simp only [List.length_cons] at h2 ⊢
    omega

theorem ones_short : ∀ p ∈ ones, p.length ≤ 8 := by decide

theorem ints_at {w : World} {b off cap len : Nat} {zs : List Int} (h : IsInts w (.slice (some ⟨b, off, none⟩) len cap) zs) {k : Nat} (hk : k < zs.length) :
    w.cell? ⟨b, off + k, none⟩ = some (.int .i64 (zs.getD k 0)) := by
  obtain ⟨_, _, he, -, -, -, -, h5, -⟩ := h
  obtain ⟨b', off', ho, hc⟩ := h5 (by omega)
  simp only [Value.slice.injEq] at he
  rw [ho] at he
  simp only [Option.some.injEq, Addr.mk.injEq] at he
  obtain ⟨⟨rfl, rfl, -⟩, -⟩ := he
  exact hc k hk

theorem ints_addr {w : World} {ao : Option Addr} {cap len : Nat} {zs : List Int} (h : IsInts w (.slice ao len cap) zs) (hk : 0 < zs.length) : ∃ b off, ao = some ⟨b, off, none⟩ := by
  obtain ⟨_, _, he, -, -, -, -, h5, -⟩ := h
  obtain ⟨b', off', ho, -⟩ := h5 hk
  simp only [Value.slice.injEq] at he
  exact ⟨b', off', by rw [he.1, ho]⟩

theorem ints_wf {w : World} {v : Value} {zs : List Int} (h : IsInts w v zs) : ∀ z ∈ zs, -9223372036854775808 ≤ z ∧ z ≤ 9223372036854775807 := by
  obtain ⟨_, _, _, _, _, _, _, _, hw⟩ := h
  exact hw

def opsB : List ByteArray := ones.map B

theorem B_app (x y : List UInt8) : B x ++ B y = B (x ++ y) := by
  apply ByteArray.ext
  simp [B]

theorem str_step {acc : List (List UInt8)} (h : acc ≠ []) (P : List UInt8) : B (jn acc) ++ ⟨#[44]⟩ ++ B P = B (jn (acc ++ [P])) := by
  rw [show (⟨#[44]⟩ : ByteArray) = B [44] from rfl, B_app, B_app, jn_snoc acc P h]
  simp

theorem str_first (P : List UInt8) : B (jn []) ++ B P = B (jn ([] ++ [P])) := by
  rw [B_app]
  rfl

theorem ops_at {w : World} {g : Nat} (h : IsStrs w (.slice (some ⟨g, 0, none⟩) 10 10) opsB) {m : Nat} (hm : m < 10) : ∃ P, P ∈ ones ∧ w.cell? ⟨g, m, none⟩ = some (.string (B P)) := by
  have hl : m < opsB.length := hm
  have h1 := str_at h m hl
  have ho : m < ones.length := hm
  refine ⟨ones[m], List.getElem_mem ho, ?_⟩
  simp only [Nat.zero_add] at h1
  rw [h1]
  simp [opsB]

theorem then_nil : thenE (some (thenA (B (jn [])))) = 4 ∧ thenL (some (thenA (B (jn [])))) = [] :=
  then_not (acc := []) (q := []) (p := []) rfl (by simp [isOne, ones, bytes_toList, B])

set_option maxRecDepth 100000 in
set_option maxHeartbeats 6400000 in
theorem sthen_walk (lv : Value) (l : List Int) (w : World) (hla : Laid w) (hl : IsInts w lv l) :
    Calls Tryd.prog 8 #[lv] w fun e w' => e = .returned (.bool true) ∧ Below w.heap.size w w' := by
  have HL := hide hl
  have HLA := hide hla
  obtain ⟨la, lc, rfl, hl1, hl2, hl3, -, -, -⟩ := hl
  obtain ⟨i0, hi, hz0, hz1, hz2⟩ := info_parts infoStr
  clear hla
  obtain ⟨w0, hw0⟩ : ∃ w0, w0 = w.alloc (.cells #[.string ⟨#[73, 100, 101, 110, 116, 105, 116, 121]⟩, .string ⟨#[78, 101, 103]⟩, .string ⟨#[65, 98, 115]⟩, .string ⟨#[78, 111, 116]⟩, .string ⟨#[82, 101, 108, 117]⟩, .string ⟨#[83, 113, 114, 116]⟩, .string ⟨#[70, 108, 111, 111, 114]⟩, .string ⟨#[69, 120, 112]⟩, .string ⟨#[83, 105, 103, 109, 111, 105, 100]⟩, .string ⟨#[84, 97, 110, 104]⟩] 9) := ⟨_, rfl⟩
  have g0 : w.grownBy w0 none := by rw [hw0]; exact grown_new _ _
  have OPS : Hid (IsStrs w0 (.slice (some ⟨w.heap.size, 0, none⟩) 10 10) opsB) := by rw [hw0]; exact lit_isL (xs := opsB) scell_len (heap_alloc_new w _) rfl (by decide) (by decide)
  go_enter Tryd.func8, Tryd.ntmps8
  go_wp2_with fail
  rw [← hw0]
  clear hw0
  go_loopg [4, 5, 6] l.length (fun f lv sv iv wr => ∃ (acc : List (List UInt8)) (k : Nat), sv = .string (B (jn acc)) ∧ iv = .int .i64 k ∧ f = l.length - k ∧ k ≤ l.length ∧ k ≤ 40 ∧ acc.length = k ∧ (∀ p ∈ acc, p ∈ ones) ∧ OwnsS wr w0.heap.size lv (acc.map B) ∧ w0.grownBy wr none)
  case atStart => exact ⟨[], 0, rfl, rfl, rfl, by omega, by omega, rfl, by simp, OwnsL.nil _ _ _ _ _, grown_refl _⟩
  case round =>
    obtain ⟨acc, k, rfl, rfl, rfl, hk, hk40, hac, hones, hown, hw⟩ := hrel
    have HON := hide hones
    have HO := hide hown
    have HAC := hide hac
    obtain ⟨va, vc, ev⟩ := OwnsL.form hown
    rw [List.length_map, hac] at ev
    subst ev
    have hjl := jn_len acc (fun p hp => ones_short p (hones p hp))
    rw [hac] at hjl
    have HJ := hide hjl
    have gw := grown_trans g0 hw
    clear hones hown hac hjl
    by_cases hlt : k < l.length
    · by_cases hlt4 : k < 40
      · obtain ⟨b, off, rfl⟩ := ints_addr (HL.out.more gw) (by omega)
        have hcl := ints_at (HL.out.more gw) hlt
        have hwf := ints_wf HL.out (l.getD k 0) (by simp only [List.getD, List.getElem?_eq_getElem hlt, Option.getD_some]; exact List.getElem_mem hlt)
        obtain ⟨X, hX⟩ : ∃ X, X = l.getD k 0 := ⟨_, rfl⟩
        rw [← hX] at hcl hwf
        obtain ⟨x1, x2⟩ := hwf
        clear hX
        by_cases hx : X < 0
        · obtain ⟨K, hK⟩ : ∃ K : Nat, X + 1 = -(K : Int) := ⟨(-(X + 1)).toNat, by omega⟩
          obtain ⟨P, hP1, hP2⟩ := ops_at (OPS.out.more hw) (m := K % 10) (by omega)
          have HP1 := hide hP1
          have hs1 : (B (jn acc)).size ≤ 360 := by have := HJ.out; rw [B_size]; omega
          have hs2 : (B P).size ≤ 8 := by rw [B_size]; exact ones_short P hP1
          have hs3 : (B (jn acc) ++ (⟨#[44]⟩ : ByteArray)).size ≤ 361 := by rw [ByteArray.size_append]; simp only [ByteArray.size]; exact Nat.add_le_add hs1 (Nat.le_refl 1)
          clear hP1
          by_cases hk0 : k = 0
          · subst hk0
            have HNIL : Hid (acc = []) := List.length_eq_zero_iff.1 HAC.out
            rw [Nat.add_zero] at hcl
            go_wp2_with (at_builtin; refine wpList_append_own _ rfl (.tmp 46) (.tmp 48) 22 rfl w0.heap.size 9 i0 (.string ⟨#[]⟩) 1 16 Tryd.underlying22 hi hz0 hz1 hz2 rfl (by decide) _ _ _ rfl (by exact World.ownsRow.alloc HO.out _) ⟨wr.heap.size, 0, none⟩ 1 1 [.string (B P)] rfl rfl (cell_one_new _ _ _) (by simp [Value.oneCell']) (by simp only [maxLen, List.length_map]; have := HAC.out; omega) (by simp only [List.length_map]; have := HAC.out; omega) (by have := hw.size; simp; omega) ?_; intro v' w8 hown' hgrow _; obtain ⟨na, nc, rfl⟩ := own_form hown'; have HO8 := hide (owns_snoc rfl hown'); have g8 := grown_trans_row (grown_trans hw (grown_new _ _)) hgrow (fun g hg' => (World.ownsRow.lt HO.out g hg').1); clear hown' hgrow)
            go_wp2
            go_roundg (l.length - (0 + 1))
            case measure => omega
            case rel =>
              refine ⟨acc ++ [P], 0 + 1, ?_, by go_num, rfl, by omega, by omega, by rw [List.length_append, HAC.out]; rfl, fun p hp => ?_, ?_, g8⟩
              · rw [HNIL.out]; exact congrArg Value.string (str_first P)
              · rcases List.mem_append.1 hp with h | h
                · exact HON.out p h
                · rw [List.mem_singleton] at h; subst h; exact HP1.out
              · have h := HO8.out
                rw [List.length_map] at h
                exact h
          · have hkp : decide ((0 : Int) < (k : Int)) = true := decide_eq_true (by omega)
            go_wp2_with (at_builtin; refine wpList_append_own _ rfl (.tmp 46) (.tmp 48) 22 rfl w0.heap.size 9 i0 (.string ⟨#[]⟩) 1 16 Tryd.underlying22 hi hz0 hz1 hz2 rfl (by decide) _ _ _ rfl (by exact World.ownsRow.alloc HO.out _) ⟨wr.heap.size, 0, none⟩ 1 1 [.string (B P)] rfl rfl (cell_one_new _ _ _) (by simp [Value.oneCell']) (by simp only [maxLen, List.length_map]; have := HAC.out; omega) (by simp only [List.length_map]; have := HAC.out; omega) (by have := hw.size; simp; omega) ?_; intro v' w8 hown' hgrow _; obtain ⟨na, nc, rfl⟩ := own_form hown'; have HO8 := hide (owns_snoc rfl hown'); have g8 := grown_trans_row (grown_trans hw (grown_new _ _)) hgrow (fun g hg' => (World.ownsRow.lt HO.out g hg').1); clear hown' hgrow)
            go_wp2
            go_roundg (l.length - (k + 1))
            case measure => omega
            case rel =>
              refine ⟨acc ++ [P], k + 1, ?_, by go_num, rfl, by omega, by omega, by rw [List.length_append, HAC.out]; rfl, fun p hp => ?_, ?_, g8⟩
              · rw [← str_step (show acc ≠ [] from fun e => by have := HAC.out; rw [e] at this; simp at this; omega) P]
              · rcases List.mem_append.1 hp with h | h
                · exact HON.out p h
                · rw [List.mem_singleton] at h; subst h; exact HP1.out
              · have h := HO8.out
                rw [List.length_map] at h
                exact h
        · obtain ⟨K, hK⟩ : ∃ K : Nat, X = (K : Int) := ⟨X.toNat, by omega⟩
          subst hK
          obtain ⟨P, hP1, hP2⟩ := ops_at (OPS.out.more hw) (m := K % 10) (by omega)
          have HP1 := hide hP1
          have hs1 : (B (jn acc)).size ≤ 360 := by have := HJ.out; rw [B_size]; omega
          have hs2 : (B P).size ≤ 8 := by rw [B_size]; exact ones_short P hP1
          have hs3 : (B (jn acc) ++ (⟨#[44]⟩ : ByteArray)).size ≤ 361 := by rw [ByteArray.size_append]; simp only [ByteArray.size]; exact Nat.add_le_add hs1 (Nat.le_refl 1)
          clear hP1
          by_cases hk0 : k = 0
          · subst hk0
            have HNIL : Hid (acc = []) := List.length_eq_zero_iff.1 HAC.out
            rw [Nat.add_zero] at hcl
            go_wp2_with (at_builtin; refine wpList_append_own _ rfl (.tmp 46) (.tmp 48) 22 rfl w0.heap.size 9 i0 (.string ⟨#[]⟩) 1 16 Tryd.underlying22 hi hz0 hz1 hz2 rfl (by decide) _ _ _ rfl (by exact World.ownsRow.alloc HO.out _) ⟨wr.heap.size, 0, none⟩ 1 1 [.string (B P)] rfl rfl (cell_one_new _ _ _) (by simp [Value.oneCell']) (by simp only [maxLen, List.length_map]; have := HAC.out; omega) (by simp only [List.length_map]; have := HAC.out; omega) (by have := hw.size; simp; omega) ?_; intro v' w8 hown' hgrow _; obtain ⟨na, nc, rfl⟩ := own_form hown'; have HO8 := hide (owns_snoc rfl hown'); have g8 := grown_trans_row (grown_trans hw (grown_new _ _)) hgrow (fun g hg' => (World.ownsRow.lt HO.out g hg').1); clear hown' hgrow)
            go_wp2
            go_roundg (l.length - (0 + 1))
            case measure => omega
            case rel =>
              refine ⟨acc ++ [P], 0 + 1, ?_, by go_num, rfl, by omega, by omega, by rw [List.length_append, HAC.out]; rfl, fun p hp => ?_, ?_, g8⟩
              · rw [HNIL.out]; exact congrArg Value.string (str_first P)
              · rcases List.mem_append.1 hp with h | h
                · exact HON.out p h
                · rw [List.mem_singleton] at h; subst h; exact HP1.out
              · have h := HO8.out
                rw [List.length_map] at h
                exact h
          · have hkp : decide ((0 : Int) < (k : Int)) = true := decide_eq_true (by omega)
            go_wp2_with (at_builtin; refine wpList_append_own _ rfl (.tmp 46) (.tmp 48) 22 rfl w0.heap.size 9 i0 (.string ⟨#[]⟩) 1 16 Tryd.underlying22 hi hz0 hz1 hz2 rfl (by decide) _ _ _ rfl (by exact World.ownsRow.alloc HO.out _) ⟨wr.heap.size, 0, none⟩ 1 1 [.string (B P)] rfl rfl (cell_one_new _ _ _) (by simp [Value.oneCell']) (by simp only [maxLen, List.length_map]; have := HAC.out; omega) (by simp only [List.length_map]; have := HAC.out; omega) (by have := hw.size; simp; omega) ?_; intro v' w8 hown' hgrow _; obtain ⟨na, nc, rfl⟩ := own_form hown'; have HO8 := hide (owns_snoc rfl hown'); have g8 := grown_trans_row (grown_trans hw (grown_new _ _)) hgrow (fun g hg' => (World.ownsRow.lt HO.out g hg').1); clear hown' hgrow)
            go_wp2
            go_roundg (l.length - (k + 1))
            case measure => omega
            case rel =>
              refine ⟨acc ++ [P], k + 1, ?_, by go_num, rfl, by omega, by omega, by rw [List.length_append, HAC.out]; rfl, fun p hp => ?_, ?_, g8⟩
              · rw [← str_step (show acc ≠ [] from fun e => by have := HAC.out; rw [e] at this; simp at this; omega) P]
              · rcases List.mem_append.1 hp with h | h
                · exact HON.out p h
                · rw [List.mem_singleton] at h; subst h; exact HP1.out
              · have h := HO8.out
                rw [List.length_map] at h
                exact h
      · obtain rfl : k = 40 := by omega
        have hlt5 : decide (((40 : Nat) : Int) < 40) = false := rfl
        obtain ⟨X, hX⟩ : ∃ X, X = wr.alloc (.cells #[.string ⟨#[120]⟩] 9) := ⟨_, rfl⟩
        have hXs : X.heap.size = wr.heap.size + 1 := by rw [hX]; simp
        obtain ⟨Y, hY⟩ : ∃ Y, Y = X.alloc (.cells #[.string ⟨#[116, 104, 101, 110]⟩, .int .i64 3, .int .i64 0, .int .i64 0, .string (B (jn acc)), .int .i64 0, .slice none 0 0, .slice none 0 0, .slice none 0 0] 45) := ⟨_, rfl⟩
        have hYs : Y.heap.size = wr.heap.size + 1 + 1 := by rw [hY]; simp [hXs]
        obtain ⟨W, hW⟩ : ∃ W, W = Y.alloc (.cells #[.string ⟨#[82, 101, 108, 117]⟩, .string ⟨#[]⟩, .slice (some ⟨wr.heap.size, 0, none⟩) 1 1, .string ⟨#[121]⟩, .slice (some ⟨wr.heap.size + 1, 0, none⟩) 1 1] 25) := ⟨_, rfl⟩
        have gX : wr.grownBy X none := by rw [hX]; exact grown_new _ _
        have gY : X.grownBy Y none := by rw [hY]; exact grown_new _ _
        have gW : Y.grownBy W none := by rw [hW]; exact grown_new _ _
        have I1 : IsStrs X (.slice (some ⟨wr.heap.size, 0, none⟩) 1 1) [⟨#[120]⟩] := by rw [hX]; exact lit_one wr _
        have A1 : IsAttrs Y (.slice (some ⟨wr.heap.size + 1, 0, none⟩) 1 1) [thenA (B (jn acc))] := by rw [hY, ← hXs]; exact lit_then X _
        have B1 : W.heap[wr.heap.size + 1 + 1]? = some (.cells #[.string ⟨#[82, 101, 108, 117]⟩, .string ⟨#[]⟩, .slice (some ⟨wr.heap.size, 0, none⟩) 1 1, .string ⟨#[121]⟩, .slice (some ⟨wr.heap.size + 1, 0, none⟩) 1 1] 25 (0, 0)) := by rw [hW, ← hYs]; exact heap_alloc_new Y _
        have IW := hide (I1.more (grown_trans gY gW))
        have AW := hide (A1.more gW)
        have BW := hide B1
        have gz := grown_trans gX (grown_trans gY gW)
        have gw2 := grown_trans gw gz
        have HBZ : Hid (∀ a ∈ [thenA (B (jn acc))], a.s.size ≤ 4294967296) := by intro a ha; rw [List.mem_singleton] at ha; subst ha; show (B (jn acc)).size ≤ _; rw [B_size]; have := HJ.out; omega
        clear I1 A1 B1 hXs hYs gX gY gW
        go_wp2_with fail
        rw [← hX, ← hY, ← hW]
        clear hX hY hW
        refine (then_any ⟨⟨#[82, 101, 108, 117]⟩, ⟨#[]⟩, ⟨some ⟨wr.heap.size, 0, none⟩, 1, 1⟩, ⟨#[121]⟩, ⟨some ⟨wr.heap.size + 1, 0, none⟩, 1, 1⟩⟩ [thenA (B (jn acc))] W (HLA.out.more gw2) AW.out HBZ.out).mono ?_
        rintro e w4 ⟨v, rfl, ov, hg4⟩
        have g4 := grown_trans gw2 hg4
        rw [find_then] at ov
        rw [find_then]
        have hne : acc ≠ [] := fun e => by have := HAC.out; rw [e, List.length_nil] at this; omega
        obtain ⟨t1, t2⟩ := then_all (a := thenA (B (jn acc))) (acc := acc) (by show pcs (B (jn acc)).data.toList = acc; rw [B_list, pcs_jn acc hne (fun p hp => ones_plain p (HON.out p hp))]) (by rw [List.all_eq_true]; exact fun p hp => ones_one (HON.out p hp))
        rw [t2] at ov
        rw [t1]
        have HT1 := hide t1
        obtain ⟨xa, xc, rfl⟩ := OwnsL.form ov
        have hlx : (acc.map B).length * 16 ≤ 140737488351232 := by rw [List.length_map, HAC.out]; omega
        have SS := hide (samestrs_any _ _ (acc.map B) w4 (ov.isL (bytes := 16) scell_len hlx) ((HO.out.isL (bytes := 16) scell_len hlx).more (grown_trans gz hg4)))
        rw [List.length_map, HAC.out] at SS ⊢
        clear ov t1 t2 hlx
        have n4 := hide (box_kept BW.out hg4)
        go_wp2_with fail
        refine SS.out.mono ?_
        rintro e w5 ⟨rfl, hg5⟩
        have g5 := grown_trans g4 hg5
        obtain ⟨n0, n1, n2, n3, n4⟩ := nod_cells (n := ⟨⟨#[82, 101, 108, 117]⟩, ⟨#[]⟩, ⟨some ⟨wr.heap.size, 0, none⟩, 1, 1⟩, ⟨#[121]⟩, ⟨some ⟨wr.heap.size + 1, 0, none⟩, 1, 1⟩⟩) (box_kept n4.out hg5)
        go_wp2_with fail
        refine (check_of ⟨⟨#[82, 101, 108, 117]⟩, ⟨#[]⟩, ⟨some ⟨wr.heap.size, 0, none⟩, 1, 1⟩, ⟨#[121]⟩, ⟨some ⟨wr.heap.size + 1, 0, none⟩, 1, 1⟩⟩ [thenA (B (jn acc))] [⟨#[120]⟩] _ w5 (HLA.out.more g5) (IW.out.more (grown_trans hg4 hg5)) (AW.out.more (grown_trans hg4 hg5)) HBZ.out (fun wx h => rule_Relu wx h) (by rintro _ _ _ ⟨⟩; decide) (by rw [bytes_toList]; rfl)).mono ?_
        rintro e w6 ⟨rfl, hg6⟩
        have g6 := grown_trans g5 hg6
        rw [e_one, HT1.out]
        go_wp2_with fail
        refine (slive_any w6 (HLA.out.more g6)).mono ?_
        rintro e w7 ⟨rfl, hg7⟩
        go_wp2
        go_ret
        exact ⟨rfl, grown_below (grown_trans g6 hg7)⟩
    · by_cases hk0 : k = 0
      · subst hk0
        obtain ⟨X, hX⟩ : ∃ X, X = wr.alloc (.cells #[.string ⟨#[120]⟩] 9) := ⟨_, rfl⟩
        have hXs : X.heap.size = wr.heap.size + 1 := by rw [hX]; simp
        obtain ⟨Y, hY⟩ : ∃ Y, Y = X.alloc (.cells #[.string ⟨#[116, 104, 101, 110]⟩, .int .i64 3, .int .i64 0, .int .i64 0, .string (B (jn acc)), .int .i64 0, .slice none 0 0, .slice none 0 0, .slice none 0 0] 45) := ⟨_, rfl⟩
        have hYs : Y.heap.size = wr.heap.size + 1 + 1 := by rw [hY]; simp [hXs]
        obtain ⟨W, hW⟩ : ∃ W, W = Y.alloc (.cells #[.string ⟨#[82, 101, 108, 117]⟩, .string ⟨#[]⟩, .slice (some ⟨wr.heap.size, 0, none⟩) 1 1, .string ⟨#[121]⟩, .slice (some ⟨wr.heap.size + 1, 0, none⟩) 1 1] 25) := ⟨_, rfl⟩
        have gX : wr.grownBy X none := by rw [hX]; exact grown_new _ _
        have gY : X.grownBy Y none := by rw [hY]; exact grown_new _ _
        have gW : Y.grownBy W none := by rw [hW]; exact grown_new _ _
        have I1 : IsStrs X (.slice (some ⟨wr.heap.size, 0, none⟩) 1 1) [⟨#[120]⟩] := by rw [hX]; exact lit_one wr _
        have A1 : IsAttrs Y (.slice (some ⟨wr.heap.size + 1, 0, none⟩) 1 1) [thenA (B (jn acc))] := by rw [hY, ← hXs]; exact lit_then X _
        have B1 : W.heap[wr.heap.size + 1 + 1]? = some (.cells #[.string ⟨#[82, 101, 108, 117]⟩, .string ⟨#[]⟩, .slice (some ⟨wr.heap.size, 0, none⟩) 1 1, .string ⟨#[121]⟩, .slice (some ⟨wr.heap.size + 1, 0, none⟩) 1 1] 25 (0, 0)) := by rw [hW, ← hYs]; exact heap_alloc_new Y _
        have IW := hide (I1.more (grown_trans gY gW))
        have AW := hide (A1.more gW)
        have BW := hide B1
        have gz := grown_trans gX (grown_trans gY gW)
        have gw2 := grown_trans gw gz
        have HBZ : Hid (∀ a ∈ [thenA (B (jn acc))], a.s.size ≤ 4294967296) := by intro a ha; rw [List.mem_singleton] at ha; subst ha; show (B (jn acc)).size ≤ _; rw [B_size]; have := HJ.out; omega
        clear I1 A1 B1 hXs hYs gX gY gW
        go_wp2_with fail
        rw [← hX, ← hY, ← hW]
        clear hX hY hW
        refine (then_any ⟨⟨#[82, 101, 108, 117]⟩, ⟨#[]⟩, ⟨some ⟨wr.heap.size, 0, none⟩, 1, 1⟩, ⟨#[121]⟩, ⟨some ⟨wr.heap.size + 1, 0, none⟩, 1, 1⟩⟩ [thenA (B (jn acc))] W (HLA.out.more gw2) AW.out HBZ.out).mono ?_
        rintro e w4 ⟨v, rfl, ov, hg4⟩
        have g4 := grown_trans gw2 hg4
        rw [find_then] at ov
        rw [find_then]
        have hnil : acc = [] := List.length_eq_zero_iff.1 HAC.out
        rw [hnil] at ov
        rw [hnil]
        rw [then_nil.2] at ov
        rw [then_nil.1]
        obtain ⟨xa, xc, rfl⟩ := OwnsL.form ov
        clear ov
        go_wp2_with fail
        refine (slive_any w4 (HLA.out.more g4)).mono ?_
        rintro e w7 ⟨rfl, hg7⟩
        go_wp2
        go_ret
        exact ⟨rfl, grown_below (grown_trans g4 hg7)⟩
      · have hkz : ((k : Int) == 0) = false := by simpa using hk0
        obtain ⟨X, hX⟩ : ∃ X, X = wr.alloc (.cells #[.string ⟨#[120]⟩] 9) := ⟨_, rfl⟩
        have hXs : X.heap.size = wr.heap.size + 1 := by rw [hX]; simp
        obtain ⟨Y, hY⟩ : ∃ Y, Y = X.alloc (.cells #[.string ⟨#[116, 104, 101, 110]⟩, .int .i64 3, .int .i64 0, .int .i64 0, .string (B (jn acc)), .int .i64 0, .slice none 0 0, .slice none 0 0, .slice none 0 0] 45) := ⟨_, rfl⟩
        have hYs : Y.heap.size = wr.heap.size + 1 + 1 := by rw [hY]; simp [hXs]
        obtain ⟨W, hW⟩ : ∃ W, W = Y.alloc (.cells #[.string ⟨#[82, 101, 108, 117]⟩, .string ⟨#[]⟩, .slice (some ⟨wr.heap.size, 0, none⟩) 1 1, .string ⟨#[121]⟩, .slice (some ⟨wr.heap.size + 1, 0, none⟩) 1 1] 25) := ⟨_, rfl⟩
        have gX : wr.grownBy X none := by rw [hX]; exact grown_new _ _
        have gY : X.grownBy Y none := by rw [hY]; exact grown_new _ _
        have gW : Y.grownBy W none := by rw [hW]; exact grown_new _ _
        have I1 : IsStrs X (.slice (some ⟨wr.heap.size, 0, none⟩) 1 1) [⟨#[120]⟩] := by rw [hX]; exact lit_one wr _
        have A1 : IsAttrs Y (.slice (some ⟨wr.heap.size + 1, 0, none⟩) 1 1) [thenA (B (jn acc))] := by rw [hY, ← hXs]; exact lit_then X _
        have B1 : W.heap[wr.heap.size + 1 + 1]? = some (.cells #[.string ⟨#[82, 101, 108, 117]⟩, .string ⟨#[]⟩, .slice (some ⟨wr.heap.size, 0, none⟩) 1 1, .string ⟨#[121]⟩, .slice (some ⟨wr.heap.size + 1, 0, none⟩) 1 1] 25 (0, 0)) := by rw [hW, ← hYs]; exact heap_alloc_new Y _
        have IW := hide (I1.more (grown_trans gY gW))
        have AW := hide (A1.more gW)
        have BW := hide B1
        have gz := grown_trans gX (grown_trans gY gW)
        have gw2 := grown_trans gw gz
        have HBZ : Hid (∀ a ∈ [thenA (B (jn acc))], a.s.size ≤ 4294967296) := by intro a ha; rw [List.mem_singleton] at ha; subst ha; show (B (jn acc)).size ≤ _; rw [B_size]; have := HJ.out; omega
        clear I1 A1 B1 hXs hYs gX gY gW
        go_wp2_with fail
        rw [← hX, ← hY, ← hW]
        clear hX hY hW
        refine (then_any ⟨⟨#[82, 101, 108, 117]⟩, ⟨#[]⟩, ⟨some ⟨wr.heap.size, 0, none⟩, 1, 1⟩, ⟨#[121]⟩, ⟨some ⟨wr.heap.size + 1, 0, none⟩, 1, 1⟩⟩ [thenA (B (jn acc))] W (HLA.out.more gw2) AW.out HBZ.out).mono ?_
        rintro e w4 ⟨v, rfl, ov, hg4⟩
        have g4 := grown_trans gw2 hg4
        rw [find_then] at ov
        rw [find_then]
        have hne : acc ≠ [] := fun e => by have := HAC.out; rw [e, List.length_nil] at this; omega
        obtain ⟨t1, t2⟩ := then_all (a := thenA (B (jn acc))) (acc := acc) (by show pcs (B (jn acc)).data.toList = acc; rw [B_list, pcs_jn acc hne (fun p hp => ones_plain p (HON.out p hp))]) (by rw [List.all_eq_true]; exact fun p hp => ones_one (HON.out p hp))
        rw [t2] at ov
        rw [t1]
        have HT1 := hide t1
        obtain ⟨xa, xc, rfl⟩ := OwnsL.form ov
        have hlx : (acc.map B).length * 16 ≤ 140737488351232 := by rw [List.length_map, HAC.out]; omega
        have SS := hide (samestrs_any _ _ (acc.map B) w4 (ov.isL (bytes := 16) scell_len hlx) ((HO.out.isL (bytes := 16) scell_len hlx).more (grown_trans gz hg4)))
        rw [List.length_map, HAC.out] at SS ⊢
        clear ov t1 t2 hlx
        have n4 := hide (box_kept BW.out hg4)
        go_wp2_with fail
        refine SS.out.mono ?_
        rintro e w5 ⟨rfl, hg5⟩
        have g5 := grown_trans g4 hg5
        obtain ⟨n0, n1, n2, n3, n4⟩ := nod_cells (n := ⟨⟨#[82, 101, 108, 117]⟩, ⟨#[]⟩, ⟨some ⟨wr.heap.size, 0, none⟩, 1, 1⟩, ⟨#[121]⟩, ⟨some ⟨wr.heap.size + 1, 0, none⟩, 1, 1⟩⟩) (box_kept n4.out hg5)
        go_wp2_with fail
        refine (check_of ⟨⟨#[82, 101, 108, 117]⟩, ⟨#[]⟩, ⟨some ⟨wr.heap.size, 0, none⟩, 1, 1⟩, ⟨#[121]⟩, ⟨some ⟨wr.heap.size + 1, 0, none⟩, 1, 1⟩⟩ [thenA (B (jn acc))] [⟨#[120]⟩] _ w5 (HLA.out.more g5) (IW.out.more (grown_trans hg4 hg5)) (AW.out.more (grown_trans hg4 hg5)) HBZ.out (fun wx h => rule_Relu wx h) (by rintro _ _ _ ⟨⟩; decide) (by rw [bytes_toList]; rfl)).mono ?_
        rintro e w6 ⟨rfl, hg6⟩
        have g6 := grown_trans g5 hg6
        rw [e_one, HT1.out]
        go_wp2_with fail
        refine (slive_any w6 (HLA.out.more g6)).mono ?_
        rintro e w7 ⟨rfl, hg7⟩
        go_wp2
        go_ret
        exact ⟨rfl, grown_below (grown_trans g6 hg7)⟩
end Go.Proofs.YthiefdbngndjmabDoor
