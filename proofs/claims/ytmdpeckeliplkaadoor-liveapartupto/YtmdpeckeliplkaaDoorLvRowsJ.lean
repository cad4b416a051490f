/- The rows that tell which node is before which, by the walk. -/
import Derived.Test.YtmdpeckeliplkaaDoorLvPJ
import Derived.Test.YtmdpeckeliplkaaDoorGBoolJ
import Derived.Test.YtmdpeckeliplkaaDoorGLinksJ
import Derived.Deep.RegionHeld3
import Derived.Laws.MakeOwn
namespace Go.Proofs.YtmdpeckeliplkaaDoor
open Go.RowKit

theorem infoBools : (Tryd.prog.info? 35).map (fun i => (i.zero, i.size, i.bytes)) = some (some (.slice none 0 0), 1, 24) := by kernel_rfl

/-- A row into which the first k of another one are taken. -/
def jn (bs cs : List Bool) : Nat → List Bool
  | 0 => bs
  | k + 1 => (jn bs cs k).set k ((jn bs cs k).getD k false || cs.getD k false)

theorem jn_len (bs cs : List Bool) : ∀ k, (jn bs cs k).length = bs.length
  | 0 => rfl
  | k + 1 => by rw [jn, List.length_set]; exact jn_len bs cs k

theorem jn_at (bs cs : List Bool) : ∀ k j, k ≤ bs.length → (jn bs cs k).getD j false = if j < k then (bs.getD j false || cs.getD j false) else bs.getD j false
  | 0, j, _ => by rw [if_neg (by omega)]; rfl
  | k + 1, j, hk => by
    rw [jn, getD_set _ _ _ _ _ (by rw [jn_len]; omega)]
    by_cases e : j = k
    · subst e
      rw [if_pos rfl, if_pos (by omega), jn_at bs cs j j (by omega), if_neg (by omega)]
    · rw [if_neg e, jn_at bs cs k j (by omega)]
      by_cases e2 : j < k
      · rw [if_pos e2, if_pos (by omega)]
      · rw [if_neg e2, if_neg (by omega)]

theorem jn_all {bs cs : List Bool} (h : bs.length = cs.length) : jn bs cs cs.length = joinF bs cs := by
  refine List.ext_getElem (by rw [joinF_len h, jn_len]) (fun j h1 h2 => ?_)
  have e := jn_at bs cs cs.length j (by omega)
  rw [jn_len] at h1
  rw [if_pos (by omega)] at e
  simp only [List.getD] at e
  rw [List.getElem?_eq_getElem (by rw [jn_len]; omega), List.getElem?_eq_getElem (by omega), List.getElem?_eq_getElem (by omega)] at e
  simp only [Option.getD_some] at e
  rw [e]
  simp [joinF]

theorem getD_some {l : List Bool} {k : Nat} (h : k < l.length) : l[k]? = some (l.getD k false) := by
  rw [List.getD, List.getElem?_eq_getElem h]
  rfl

set_option maxRecDepth 100000 in
theorem join_any (base B1 B2 : Nat) (bs cs : List Bool) (w : World) (h1 : OwnBl w base B1 bs) (h2 : OwnBl w base B2 cs) (hl : bs.length = cs.length) (hne : B1 ≠ B2) (hn : cs.length ≤ 1048576) :
    Calls Tryd.prog 41 #[.slice (some ⟨B1, 0, none⟩) cs.length cs.length, .slice (some ⟨B2, 0, none⟩) cs.length cs.length] w fun e w' => e = .returned (.tuple #[]) ∧ OwnBl w' base B1 (joinF bs cs) ∧ w.grownBy w' (some B1) := by
  have H1 := hide h1
  have H2 := hide h2
  have HL := hide hl
  clear h1 h2 hl
  go_enter Tryd.func41, Tryd.ntmps41
  go_wp2
  go_loopw [8] (fun i wr => ∃ k : Nat, k ≤ cs.length ∧ i = .int .i64 k ∧ OwnBl wr base B1 (jn bs cs k) ∧ w.grownBy wr (some B1)) (fun i _ => cs.length - (intOf i).toNat)
  case atStart => exact ⟨0, Nat.zero_le _, rfl, H1.out, World.grownBy.refl _ _⟩
  case round =>
    obtain ⟨k, hk, rfl, ho, hg⟩ := hrel
    have HO := hide ho
    have HG := hide hg
    clear ho hg
    by_cases hlt : k < cs.length
    · have hx2 : OwnBl wr base B2 cs := World.ownsRow.kept H2.out HG.out (Or.inr (by simp [Value.ownBlock]; exact fun e => hne e.symm))
      obtain ⟨c2, -⟩ := hx2.at (getD_some hlt)
      have hjl : k < (jn bs cs k).length := by rw [jn_len, HL.out]; exact hlt
      obtain ⟨c1, f1⟩ := HO.out.at (getD_some hjl)
      obtain ⟨s1, t1⟩ := HO.out.set k ((jn bs cs k).getD k false || cs.getD k false)
      have S1 : Hid (OwnBl (wr.setCell ⟨B1, k, none⟩ (.bool ((jn bs cs k).getD k false || cs.getD k false))) base B1 (jn bs cs (k + 1))) := s1
      have T1 := hide (grown_same HG.out t1)
      obtain ⟨x, hx⟩ : ∃ x, x = (jn bs cs k).getD k false := ⟨_, rfl⟩
      obtain ⟨y, hy⟩ : ∃ y, y = cs.getD k false := ⟨_, rfl⟩
      rw [← hx] at c1 S1 T1
      rw [← hy] at c2 S1 T1
      clear hx2 hjl s1 t1 hx hy
      cases x <;> cases y <;>
      · simp only [Bool.or_false, Bool.or_true] at S1 T1
        go_wp2
        go_roundw
        case rel => exact ⟨k + 1, by omega, by go_num, S1.out, T1.out⟩
        case measure => simp [intOf]; omega
    · obtain rfl : k = cs.length := by omega
      rw [jn_all HL.out] at HO
      go_wp2
      go_end0
      exact ⟨rfl, HO.out, HG.out⟩

/-- Lists of numbers that can be read. -/
structure RdL (w : World) (B n : Nat) (rs : List Sl) (R : List (List Int)) : Prop where
  cell : ∀ k, k < n → w.cell? ⟨B, k, none⟩ = some (.slice (rs.getD k nilS).a (rs.getD k nilS).n (rs.getD k nilS).c)
  ints : ∀ k, k < n → IsInts w (rs.getD k nilS).v (R.getD k [])

theorem RdL.more {w w' : World} {B n : Nat} {rs : List Sl} {R : List (List Int)} (h : RdL w B n rs R) (hg : w.grownBy w' none) : RdL w' B n rs R :=
  ⟨fun k hk => (World.cell?_of_block (hg.block B (World.block_lt_of_cell? w _ (h.cell k hk)) (by simp))).trans (h.cell k hk), fun k hk => (h.ints k hk).more hg⟩

/-- Rows of yes and no that can be read. -/
structure Rb (w : World) (Q n : Nat) (q : Nat → Nat) (M : List (List Bool)) : Prop where
  row : ∀ a, a < n → w.cell? ⟨Q, a, none⟩ = some (.slice (some ⟨q a, 0, none⟩) n n)
  bit : ∀ a, a < n → ∀ b, b < n → w.cell? ⟨q a, b, none⟩ = some (.bool ((M.getD a []).getD b false))

theorem Rb.more {w w' : World} {Q n : Nat} {q : Nat → Nat} {M : List (List Bool)} (h : Rb w Q n q M) (hg : w.grownBy w' none) : Rb w' Q n q M :=
  ⟨fun k hk => (World.cell?_of_block (hg.block Q (World.block_lt_of_cell? w _ (h.row k hk)) (by simp))).trans (h.row k hk), fun a ha b hb => (World.cell?_of_block (hg.block (q a) (World.block_lt_of_cell? w _ (h.bit a ha b hb)) (by simp))).trans (h.bit a ha b hb)⟩

/-- Rows while they are made, from behind. -/
structure RW (w : World) (base Q n b : Nat) (q : Nat → Nat) (M : List (List Bool)) : Prop where
  len : M.length = n
  row : w.ownsRow base 35 1 (.slice (some ⟨Q, 0, none⟩) n n) n ((List.range n).map (fun a => if n - b ≤ a then .slice (some ⟨q a, 0, none⟩) n n else .slice none 0 0))
  each : ∀ a, n - b ≤ a → a < n → OwnBl w base (q a) (M.getD a []) ∧ (M.getD a []).length = n
  inj : ∀ a, n - b ≤ a → a < n → ∀ c, n - b ≤ c → c < n → a ≠ c → q a ≠ q c

theorem RW.ne {w : World} {base Q n b : Nat} {q : Nat → Nat} {M : List (List Bool)} (h : RW w base Q n b q M) {a : Nat} (h1 : n - b ≤ a) (h2 : a < n) : q a ≠ Q := by
  intro e
  have r1 := (h.each a h1 h2).1
  rw [e] at r1
  rcases r1.2 with ⟨e1, -⟩ | ⟨g, cap, cur, e1, -, r1, -⟩
  · cases e1
  · rcases h.row.2 with ⟨e2, -⟩ | ⟨g2, cap2, cur2, e2, -, r2, -⟩
    · cases e2
    · obtain rfl : Q = g := by simpa using (Value.slice.inj e1).1
      obtain rfl : Q = g2 := by simpa using (Value.slice.inj e2).1
      rw [r1] at r2
      have := (Obj.cells.inj (Option.some.inj r2)).2.1
      exact absurd this (by decide)

theorem RW.more {w w' : World} {base Q n b : Nat} {q : Nat → Nat} {M : List (List Bool)} (h : RW w base Q n b q M) (hg : w.grownBy w' none) : RW w' base Q n b q M :=
  ⟨h.len, World.ownsRow.kept h.row hg (Or.inr (by simp [Value.ownBlock])), fun a h1 h2 => ⟨(h.each a h1 h2).1.new hg, (h.each a h1 h2).2⟩, h.inj⟩

theorem RW.cell {w : World} {base Q n b : Nat} {q : Nat → Nat} {M : List (List Bool)} (h : RW w base Q n b q M) {a : Nat} (h1 : n - b ≤ a) (h2 : a < n) : w.cell? ⟨Q, a, none⟩ = some (.slice (some ⟨q a, 0, none⟩) n n) := by
  rw [World.ownsRow.cellAt h.row a (by omega), List.getElem?_map, List.getElem?_range h2]
  simp only [Option.map_some]
  rw [if_pos h1]

theorem RW.done {w : World} {base Q n : Nat} {q : Nat → Nat} {M : List (List Bool)} (h : RW w base Q n n q M) : Rb w Q n q M :=
  ⟨fun a ha => h.cell (by omega) ha, fun a ha b hb => ((h.each a (by omega) ha).1.at (getD_some (by rw [(h.each a (by omega) ha).2]; exact hb))).1⟩

/-- One row is another one. -/
theorem RW.put {w w' : World} {base Q n b : Nat} {q : Nat → Nat} {M : List (List Bool)} (h : RW w base Q n b q M) {a : Nat} (h1 : n - b ≤ a) (h2 : a < n) {row : List Bool} (hl : row.length = n) (ho : OwnBl w' base (q a) row) (hg : w.grownBy w' (some (q a))) : RW w' base Q n b q (M.set a row) := by
  have hm := h.len
  refine ⟨by rw [List.length_set]; exact hm, World.ownsRow.kept h.row hg (Or.inr (by simp [Value.ownBlock]; exact fun e => h.ne h1 h2 e.symm)), fun c h3 h4 => ?_, h.inj⟩
  rw [getD_set _ _ _ _ _ (by omega)]
  by_cases e : c = a
  · subst e
    rw [if_pos rfl]
    exact ⟨ho, hl⟩
  · rw [if_neg e]
    exact ⟨World.ownsRow.kept (h.each c h3 h4).1 hg (Or.inr (by simp [Value.ownBlock]; exact h.inj c h3 h4 a h1 h2 e)), (h.each c h3 h4).2⟩

/-- A new row. -/
theorem RW.make {w w1 : World} {base Q n b : Nat} {q : Nat → Nat} {M : List (List Bool)} (h : RW w base Q n b q M) (hb : b < n) (hn : n ≤ 1048576) {M1 : Array Value} (hM : M1.toList = List.replicate n (.bool false)) (hw1 : w1 = w.alloc (.cells M1 4)) (hbase : base ≤ w.heap.size) :
    RW (w1.setCell ⟨Q, n - 1 - b, none⟩ (.slice (some ⟨w.heap.size, 0, none⟩) n n)) base Q n (b + 1) (fun x => if x = n - 1 - b then w.heap.size else q x) (M.set (n - 1 - b) (List.replicate n false)) ∧ w1.grownBy (w1.setCell ⟨Q, n - 1 - b, none⟩ (.slice (some ⟨w.heap.size, 0, none⟩) n n)) (some Q) := by
  have g1 : w.grownBy w1 none := by rw [hw1]; exact grown_new _ _
  have hnew := heap_alloc_new w (.cells M1 4)
  rw [← hw1] at hnew
  have hm1 := h.more g1
  have hm := h.len
  have hs1 : M1.size = n := by rw [← Array.length_toList, hM, List.length_replicate]
  have hQ := (World.ownsRow.lt h.row Q rfl).2
  have st := World.ownsRow.stored hm1.row (n - 1 - b) (.slice (some ⟨w.heap.size, 0, none⟩) n n)
  have own1 : OwnBl w1 base w.heap.size (List.replicate n false) := by
    unfold OwnBl
    rw [List.length_replicate]
    refine ⟨by simp, Or.inr ⟨w.heap.size, n, M1, rfl, hbase, hnew, Nat.le_refl _, by simp only [maxLen]; omega, by omega, ?_⟩⟩
    rw [hM, Nat.mul_one, List.take_of_length_le (by simp), List.map_replicate]
  refine ⟨⟨by rw [List.length_set]; exact hm, ?_, fun c h3 h4 => ?_, fun a h3 h4 c h5 h6 hne => ?_⟩, st.2⟩
  · have e : (((List.range n).map (fun a => if n - b ≤ a then Value.slice (some ⟨q a, 0, none⟩) n n else .slice none 0 0)).set (n - 1 - b) (.slice (some ⟨w.heap.size, 0, none⟩) n n)) = (List.range n).map (fun a => if n - (b + 1) ≤ a then Value.slice (some ⟨(if a = n - 1 - b then w.heap.size else q a), 0, none⟩) n n else .slice none 0 0) := by
      refine List.ext_getElem (by simp) (fun j h7 h8 => ?_)
      rw [List.getElem_set]
      simp only [List.length_set, List.length_map, List.length_range] at h7
      simp only [List.getElem_map, List.getElem_range]
      by_cases e : n - 1 - b = j
      · rw [if_pos e, if_pos (by omega), if_pos e.symm]
      · rw [if_neg e]
        by_cases e2 : n - b ≤ j
        · rw [if_pos e2, if_pos (by omega), if_neg (fun h => e h.symm)]
        · rw [if_neg e2, if_neg (by omega)]
    have := st.1
    rw [e] at this
    exact this
  · rw [getD_set _ _ _ _ _ (by omega)]
    by_cases e : c = n - 1 - b
    · rw [if_pos e, if_pos e]
      exact ⟨World.ownsRow.kept own1 st.2 (Or.inr (by simp [Value.ownBlock]; omega)), by simp⟩
    · rw [if_neg e, if_neg e]
      exact ⟨World.ownsRow.kept (hm1.each c (by omega) h4).1 st.2 (Or.inr (by simp [Value.ownBlock]; exact h.ne (by omega) h4)), (hm1.each c (by omega) h4).2⟩
  · have lt : ∀ x, n - b ≤ x → x < n → q x < w.heap.size := fun x h7 h8 => ((h.each x h7 h8).1.lt).2
    by_cases e1 : a = n - 1 - b
    · rw [if_pos e1, if_neg (by omega)]
      have := lt c (by omega) h6
      omega
    · rw [if_neg e1]
      by_cases e2 : c = n - 1 - b
      · rw [if_pos e2]
        have := lt a (by omega) h4
        omega
      · rw [if_neg e2]
        exact h.inj a (by omega) h4 c (by omega) h6 hne

theorem RW.start {w w1 : World} {n : Nat} (hn : n ≤ 1048576) {M1 : Array Value} (hM : M1.toList = List.replicate n (.slice none 0 0)) (hw1 : w1 = w.alloc (.cells M1 35)) : RW w1 w.heap.size w.heap.size n 0 (fun _ => 0) (List.replicate n []) := by
  have hnew := heap_alloc_new w (.cells M1 35)
  rw [← hw1] at hnew
  have hs1 : M1.size = n := by rw [← Array.length_toList, hM, List.length_replicate]
  refine ⟨by simp, ⟨by simp, Or.inr ⟨w.heap.size, n, M1, rfl, Nat.le_refl _, hnew, Nat.le_refl _, by simp only [maxLen]; omega, by omega, ?_⟩⟩, fun a h1 h2 => by omega, fun a h1 h2 => by omega⟩
  rw [hM, Nat.mul_one, List.take_of_length_le (by simp)]
  refine List.ext_getElem (by simp) (fun j h1 h2 => ?_)
  simp only [List.length_replicate] at h1
  simp only [List.getElem_map, List.getElem_range, List.getElem_replicate]
  rw [if_neg (by omega)]
end Go.Proofs.YtmdpeckeliplkaaDoor
