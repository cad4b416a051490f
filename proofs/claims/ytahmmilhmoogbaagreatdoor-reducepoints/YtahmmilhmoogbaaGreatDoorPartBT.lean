/- Joined texts: RdAtt, RdAxis, RdLive, RdKeepP, RdIntsP, RdIntsQ, RdIntsR. -/
import Derived.Test.YtahmmilhmoogbaaGreatDoorPartBS
import Derived.Test.YtahmmilhmoogbaaGreatDoorPartBO
import Derived.ArgAppend
namespace Go.Proofs.YtahmmilhmoogbaaGreatDoor

open Go.RowKit

def inI (nm : ByteArray) (a : Int) : Atr := ⟨nm, 2, 0, a, ⟨#[]⟩, 0, nilS, nilS, nilS⟩
def kpAt (op : ByteArray) (k : Int) (s : Sl) (L : List Int) : At := ⟨op, [inI ⟨#[107, 101, 101, 112, 100, 105, 109, 115]⟩ k, inA ⟨#[97, 120, 101, 115]⟩ s], [⟨[], [], []⟩, ⟨[], [], L⟩]⟩
def pkAt (op : ByteArray) (k : Int) (s : Sl) (L : List Int) : At := ⟨op, [inA ⟨#[97, 120, 101, 115]⟩ s, inI ⟨#[107, 101, 101, 112, 100, 105, 109, 115]⟩ k], [⟨[], [], L⟩, ⟨[], [], []⟩]⟩
def kaAt (op : ByteArray) (k a : Int) : At := ⟨op, [inI ⟨#[107, 101, 101, 112, 100, 105, 109, 115]⟩ k, inI ⟨#[97, 120, 105, 115]⟩ a], [⟨[], [], []⟩, ⟨[], [], []⟩]⟩

theorem two_has {w : World} {op : ByteArray} {a b : Atr} {c d : Cont} (h1 : Has w a c) (h2 : Has w b d) : ∀ (j : Nat) (q : Atr), (At.xs ⟨op, [a, b], [c, d]⟩)[j]? = some q → ∃ e, (At.cs ⟨op, [a, b], [c, d]⟩)[j]? = some e ∧ Has w q e
  | 0, q, h => by cases h; exact ⟨_, rfl, h1⟩
  | 1, q, h => by cases h; exact ⟨_, rfl, h2⟩
  | _ + 2, q, h => by simp at h

theorem two_ok {w : World} {op out : ByteArray} {iv av : Sl} {a b : Atr} {c d : Cont} (h1 : Has w a c) (h2 : Has w b d) (r1 : -9223372036854775808 ≤ a.i ∧ a.i ≤ 9223372036854775807) (r2 : -9223372036854775808 ≤ b.i ∧ b.i ≤ 9223372036854775807) (h : IsAttrs w av.v [a, b]) : NodeOk w ⟨op, ⟨#[]⟩, iv, out, av⟩ ⟨op, [a, b], [c, d]⟩ :=
  ⟨rfl, h, two_has h1 h2, fun q hq => by
    simp only [List.mem_cons, List.not_mem_nil, or_false] at hq
    rcases hq with rfl | rfl
    · exact r1
    · exact r2⟩

theorem two_in {w : World} {op out : ByteArray} {iv av : Sl} {a b : Atr} {c d : Cont} {ins : List ByteArray} (hi : IsStrs w iv.v ins) (h1 : Has w a c) (h2 : Has w b d) (s1 : a.s.size ≤ 1048576) (s2 : b.s.size ≤ 1048576) (h : IsAttrs w av.v [a, b]) : NodeIn w ⟨op, ⟨#[]⟩, iv, out, av⟩ ins (At.xs ⟨op, [a, b], [c, d]⟩) (At.cs ⟨op, [a, b], [c, d]⟩) :=
  ⟨hi, h, two_has h1 h2, by simp, fun q hq => by
    simp only [List.mem_cons, List.not_mem_nil, or_false] at hq
    rcases hq with rfl | rfl
    · exact s1
    · exact s2⟩

theorem has_i (w : World) (nm : ByteArray) (a : Int) : Has w (inI nm a) ⟨[], [], []⟩ := ⟨ints_nil w, ints_nil w, ints_nil w⟩
theorem has_l {w : World} {nm : ByteArray} {s : Sl} {L : List Int} (h : IsInts w s.v L) : Has w (inA nm s) ⟨[], [], L⟩ := ⟨ints_nil w, ints_nil w, h⟩

theorem kp_check1 (k : Int) (s : Sl) (L : List Int) : checkF (ruleF ⟨#[82, 101, 100, 117, 99, 101, 83, 117, 109]⟩) ⟨#[82, 101, 100, 117, 99, 101, 83, 117, 109]⟩ [⟨#[120]⟩] ⟨#[122]⟩ (kpAt ⟨#[82, 101, 100, 117, 99, 101, 83, 117, 109]⟩ k s L).xs (kpAt ⟨#[82, 101, 100, 117, 99, 101, 83, 117, 109]⟩ k s L).cs = 0 := by kernel_rfl
theorem kp_check2 (k : Int) (s : Sl) (L : List Int) : checkF (ruleF ⟨#[82, 101, 100, 117, 99, 101, 77, 97, 120]⟩) ⟨#[82, 101, 100, 117, 99, 101, 77, 97, 120]⟩ [⟨#[120]⟩] ⟨#[122]⟩ (kpAt ⟨#[82, 101, 100, 117, 99, 101, 77, 97, 120]⟩ k s L).xs (kpAt ⟨#[82, 101, 100, 117, 99, 101, 77, 97, 120]⟩ k s L).cs = 0 := by kernel_rfl
theorem kp_check3 (k : Int) (s : Sl) (L : List Int) : checkF (ruleF ⟨#[82, 101, 100, 117, 99, 101, 77, 101, 97, 110]⟩) ⟨#[82, 101, 100, 117, 99, 101, 77, 101, 97, 110]⟩ [⟨#[120]⟩] ⟨#[122]⟩ (kpAt ⟨#[82, 101, 100, 117, 99, 101, 77, 101, 97, 110]⟩ k s L).xs (kpAt ⟨#[82, 101, 100, 117, 99, 101, 77, 101, 97, 110]⟩ k s L).cs = 0 := by kernel_rfl
theorem ka_check (k a : Int) : checkF (ruleF ⟨#[65, 114, 103, 77, 97, 120]⟩) ⟨#[65, 114, 103, 77, 97, 120]⟩ [⟨#[120]⟩] ⟨#[122]⟩ (kaAt ⟨#[65, 114, 103, 77, 97, 120]⟩ k a).xs (kaAt ⟨#[65, 114, 103, 77, 97, 120]⟩ k a).cs = 0 := by kernel_rfl
theorem pk_check (k : Int) (s : Sl) (L : List Int) : checkF (ruleF ⟨#[82, 101, 100, 117, 99, 101, 83, 117, 109]⟩) ⟨#[82, 101, 100, 117, 99, 101, 83, 117, 109]⟩ [⟨#[120]⟩] ⟨#[122]⟩ (pkAt ⟨#[82, 101, 100, 117, 99, 101, 83, 117, 109]⟩ k s L).xs (pkAt ⟨#[82, 101, 100, 117, 99, 101, 83, 117, 109]⟩ k s L).cs = 0 := by kernel_rfl
theorem kp_then (op : ByteArray) (k : Int) (s : Sl) (L : List Int) : thenL ((kpAt op k s L).xs.find? (isA ⟨#[116, 104, 101, 110]⟩ 3)) = [] := by kernel_rfl
theorem pk_then (op : ByteArray) (k : Int) (s : Sl) (L : List Int) : thenL ((pkAt op k s L).xs.find? (isA ⟨#[116, 104, 101, 110]⟩ 3)) = [] := by kernel_rfl
theorem ka_then (op : ByteArray) (k a : Int) : thenL ((kaAt op k a).xs.find? (isA ⟨#[116, 104, 101, 110]⟩ 3)) = [] := by kernel_rfl
theorem kp_keep (op : ByteArray) (k : Int) (s : Sl) (L : List Int) : At.int (kpAt op k s L) ⟨#[107, 101, 101, 112, 100, 105, 109, 115]⟩ 1 = k := by kernel_rfl
theorem ka_keep (op : ByteArray) (k a : Int) : At.int (kaAt op k a) ⟨#[107, 101, 101, 112, 100, 105, 109, 115]⟩ 1 = k := by kernel_rfl
theorem kp_along1 (k : Int) (s : Sl) (L : List Int) (r : Nat) : alongP (kpAt ⟨#[82, 101, 100, 117, 99, 101, 83, 117, 109]⟩ k s L) r = L := by kernel_rfl
theorem kp_along2 (k : Int) (s : Sl) (L : List Int) (r : Nat) : alongP (kpAt ⟨#[82, 101, 100, 117, 99, 101, 77, 97, 120]⟩ k s L) r = L := by kernel_rfl
theorem kp_along3 (k : Int) (s : Sl) (L : List Int) (r : Nat) : alongP (kpAt ⟨#[82, 101, 100, 117, 99, 101, 77, 101, 97, 110]⟩ k s L) r = L := by kernel_rfl
theorem ka_along (k a : Int) (r : Nat) : alongP (kaAt ⟨#[65, 114, 103, 77, 97, 120]⟩ k a) r = [a] := by kernel_rfl
theorem pk_along (k : Int) (s : Sl) (L : List Int) (r : Nat) : alongP (pkAt ⟨#[82, 101, 100, 117, 99, 101, 83, 117, 109]⟩ k s L) r = L := by kernel_rfl

end Go.Proofs.YtahmmilhmoogbaaGreatDoor

namespace Go.Proofs.YtahmmilhmoogbaaGreatDoor

open Go.RowKit

theorem infoAtt : (Tryz.prog.info? 41).map (fun i => (i.zero, i.size, i.bytes)) = some (some (.agg #[.string ⟨#[]⟩, .int .i64 0, .int .i64 0, .int .i64 0, .string ⟨#[]⟩, .int .i64 0, .slice none 0 0, .slice none 0 0, .slice none 0 0]), 9, 136) := by kernel_rfl

theorem store5r {w3 : World} {B : Nat} {z0 z1 z2 z3 z4 : Value} {t : TypeId} (a b c d e : Value) (hb : w3.heap[B]? = some (.cells #[z0, z1, z2, z3, z4] t (0, 0))) :
    (((((w3.setCell ⟨B, 0, none⟩ a).setCell ⟨B, 1, none⟩ b).setCell ⟨B, 2, none⟩ c).setCell ⟨B, 3, none⟩ d).setCell ⟨B, 4, none⟩ e).heap[B]? = some (.cells #[a, b, c, d, e] t (0, 0)) ∧ w3.grownBy (((((w3.setCell ⟨B, 0, none⟩ a).setCell ⟨B, 1, none⟩ b).setCell ⟨B, 2, none⟩ c).setCell ⟨B, 3, none⟩ d).setCell ⟨B, 4, none⟩ e) (some B) := by
  have h1 := heap_setCell_same w3 B 0 _ _ a hb
  have h2 := heap_setCell_same _ B 1 _ _ b h1
  have h3 := heap_setCell_same _ B 2 _ _ c h2
  have h4 := heap_setCell_same _ B 3 _ _ d h3
  have h5 := heap_setCell_same _ B 4 _ _ e h4
  exact ⟨by simpa using h5, grown_same (grown_same (grown_same (grown_same (set_grownR w3 B 0 a) (set_grownR _ B 1 b)) (set_grownR _ B 2 c)) (set_grownR _ B 3 d)) (set_grownR _ B 4 e)⟩

theorem four_boxes (w : World) (o0 o1 o2 o3 : Obj) : ∀ W, W = (((w.alloc o0).alloc o1).alloc o2).alloc o3 → W.heap[w.heap.size]? = some o0 ∧ W.heap[w.heap.size + 1]? = some o1 ∧ W.heap[w.heap.size + 1 + 1]? = some o2 ∧ W.heap[w.heap.size + 1 + 1 + 1]? = some o3 ∧ w.grownBy W none ∧ W.heap.size = w.heap.size + 1 + 1 + 1 + 1 := by
  rintro W rfl
  obtain ⟨a0, z0⟩ := new_alloc o0 (x := w) rfl
  obtain ⟨a1, z1⟩ := new_alloc o1 z0
  obtain ⟨a2, z2⟩ := new_alloc o2 z1
  obtain ⟨a3, z3⟩ := new_alloc o3 z2
  exact ⟨up_alloc _ (up_alloc _ (up_alloc _ a0)), up_alloc _ (up_alloc _ a1), up_alloc _ a2, a3, grown_trans (grown_trans (grown_trans (grown_new _ _) (grown_new _ _)) (grown_new _ _)) (grown_new _ _), z3⟩

theorem own_sliceR {w : World} {base size n : Nat} {e : TypeId} {v : Value} {xs : List Value} (h : w.ownsRow base e size v n xs) (hn : 0 < n) : ∃ g cap, v = .slice (some ⟨g, 0, none⟩) n cap := by
  rcases h.2 with ⟨rfl, h0⟩ | ⟨g, cap, cur, rfl, _⟩
  · omega
  · exact ⟨g, cap, rfl⟩

theorem own_attrsR {w : World} {base : Nat} {v : Value} {xs : List Atr} (h : w.ownsRow base 41 9 v xs.length (xs.flatMap acells)) (hl : xs.length ≤ 1000) : IsAttrs w v xs := OwnsL.isL (bytes := 136) acells_len h (by omega)

set_option maxRecDepth 100000 in
set_option maxHeartbeats 4000000 in
theorem axis_list (op : ByteArray) (hop : (op.toList == [65, 114, 103, 77, 97, 120]) = false) (a k : Int) (w : World) (ha : Rng a) : Calls Tryz.prog 10 #[.string op, .int .i64 a, .int .i64 k] w fun e w' => ∃ (iv s av : Sl), e = .returned (nval ⟨op, ⟨#[]⟩, iv, ⟨#[122]⟩, av⟩) ∧ w.grownBy w' none ∧ IsStrs w' iv.v [⟨#[120]⟩] ∧ IsInts w' s.v [a] ∧ IsAttrs w' av.v [inI ⟨#[107, 101, 101, 112, 100, 105, 109, 115]⟩ k, inA ⟨#[97, 120, 101, 115]⟩ s] := by
  obtain ⟨i1, hj, jz0, jz1, jz2⟩ := info_parts infoAtt
  obtain ⟨W1, hW1⟩ : ∃ W, W = ((((w.alloc (.cells #[.string ⟨#[]⟩, .string ⟨#[]⟩, .slice none 0 0, .string ⟨#[]⟩, .slice none 0 0] 35)).alloc (.cells #[.string ⟨#[120]⟩] 9)).alloc (.cells #[.string ⟨#[107, 101, 101, 112, 100, 105, 109, 115]⟩, .int .i64 2, .int .i64 0, .int .i64 k, .string ⟨#[]⟩, .int .i64 0, .slice none 0 0, .slice none 0 0, .slice none 0 0] 41)).alloc (.cells #[.string op, .string ⟨#[]⟩, .slice (some ⟨w.heap.size + 1, 0, none⟩) 1 1, .string ⟨#[122]⟩, .slice (some ⟨w.heap.size + 1 + 1, 0, none⟩) 1 1] 35)) := ⟨_, rfl⟩
  obtain ⟨b0, b1, b2, b3, g1, z1⟩ := four_boxes w _ _ _ _ W1 hW1
  obtain ⟨W3, hW3⟩ : ∃ W, W = ((W1.alloc (.cells #[.int .i64 a] 2)).alloc (.cells #[.string ⟨#[97, 120, 101, 115]⟩, .int .i64 7, .int .i64 0, .int .i64 0, .string ⟨#[]⟩, .int .i64 0, .slice none 0 0, .slice none 0 0, .slice (some ⟨w.heap.size + 1 + 1 + 1 + 1, 0, none⟩) 1 1] 41)) := ⟨_, rfl⟩
  have hb := two_boxes W1 (.cells #[.int .i64 a] 2) (.cells #[.string ⟨#[97, 120, 101, 115]⟩, .int .i64 7, .int .i64 0, .int .i64 0, .string ⟨#[]⟩, .int .i64 0, .slice none 0 0, .slice none 0 0, .slice (some ⟨w.heap.size + 1 + 1 + 1 + 1, 0, none⟩) 1 1] 41)
  rw [← hW3, z1] at hb
  have g3 : W1.grownBy W3 none := by rw [hW3]; exact grown_trans (grown_new _ _) (grown_new _ _)
  have D1 := hb.1
  have D2 := hb.2
  have B2 := box_kept b2 g3
  obtain ⟨n0, n1, n2, n3, n4⟩ := nod_cells (n := ⟨op, ⟨#[]⟩, ⟨some ⟨w.heap.size + 1, 0, none⟩, 1, 1⟩, ⟨#[122]⟩, ⟨some ⟨w.heap.size + 1 + 1, 0, none⟩, 1, 1⟩⟩) b3
  simp only at n0 n1 n2 n3 n4
  rw [hW1] at n4
  have FIN : Hid (∀ (w8 : World) (g cap : Nat), W3.grownBy w8 none → w8.ownsRow W3.heap.size 41 9 (.slice (some ⟨g, 0, none⟩) (1 + 1) cap) (1 + 1) (acells (inI ⟨#[107, 101, 101, 112, 100, 105, 109, 115]⟩ k) ++ acells (inA ⟨#[97, 120, 101, 115]⟩ ⟨some ⟨w.heap.size + 1 + 1 + 1 + 1, 0, none⟩, 1, 1⟩)) → w8.frozen? ⟨w.heap.size + 1 + 1 + 1, 4, none⟩ = false ∧ w8.cell? ⟨w.heap.size + 1 + 1 + 1, 4, none⟩ = some (.slice (some ⟨w.heap.size + 1 + 1, 0, none⟩) 1 1) ∧ ∀ q, q = w8.setCell ⟨w.heap.size + 1 + 1 + 1, 4, none⟩ (.slice (some ⟨g, 0, none⟩) (1 + 1) cap) → q.heap[w.heap.size + 1 + 1 + 1]? = some (.cells #[.string op, .string ⟨#[]⟩, .slice (some ⟨w.heap.size + 1, 0, none⟩) 1 1, .string ⟨#[122]⟩, .slice (some ⟨g, 0, none⟩) (1 + 1) cap] 35 (0, 0)) ∧ q.heap[w.heap.size]? = some (.cells #[.string ⟨#[]⟩, .string ⟨#[]⟩, .slice none 0 0, .string ⟨#[]⟩, .slice none 0 0] 35 (0, 0)) ∧ ∀ z, q.grownBy z (some (w.heap.size)) → w.grownBy z none ∧ IsStrs z (.slice (some ⟨w.heap.size + 1, 0, none⟩) 1 1) [⟨#[120]⟩] ∧ IsInts z (.slice (some ⟨w.heap.size + 1 + 1 + 1 + 1, 0, none⟩) 1 1) [a] ∧ IsAttrs z (.slice (some ⟨g, 0, none⟩) (1 + 1) cap) [inI ⟨#[107, 101, 101, 112, 100, 105, 109, 115]⟩ k, inA ⟨#[97, 120, 101, 115]⟩ ⟨some ⟨w.heap.size + 1 + 1 + 1 + 1, 0, none⟩, 1, 1⟩]) := fun w8 g cap h1 h2 => by
    have hz3 : w.heap.size + 1 + 1 + 1 + 1 + 1 < W3.heap.size := (Array.getElem?_eq_some_iff.1 D2).1
    have k3 := box_kept b3 (grown_trans g3 h1)
    obtain ⟨-, -, -, -, m4⟩ := nod_cells (n := ⟨op, ⟨#[]⟩, ⟨some ⟨w.heap.size + 1, 0, none⟩, 1, 1⟩, ⟨#[122]⟩, ⟨some ⟨w.heap.size + 1 + 1, 0, none⟩, 1, 1⟩⟩) k3
    refine ⟨(nod_frozen k3).2.2.2.2, m4, fun q hq => ?_⟩
    have kq := heap_setCell_same w8 (w.heap.size + 1 + 1 + 1) 4 _ _ (.slice (some ⟨g, 0, none⟩) (1 + 1) cap) k3
    have gq := set_grownR w8 (w.heap.size + 1 + 1 + 1) 4 (.slice (some ⟨g, 0, none⟩) (1 + 1) cap)
    rw [← hq] at kq gq
    have hs := h1.size
    have g13 := grown_trans g1 (grown_trans g3 h1)
    have hg1 := (World.ownsRow.lt h2 g rfl).1
    refine ⟨by simpa using kq, (gq.block _ (by omega) (by simp only [ne_eq, Option.some.injEq]; omega)).trans (box_kept b0 (grown_trans g3 h1)), fun z hz => ?_⟩
    have up : ∀ (i : Nat) (o : Obj), i ≠ w.heap.size → i ≠ w.heap.size + 1 + 1 + 1 → i < w8.heap.size → w8.heap[i]? = some o → z.heap[i]? = some o := fun i o e1 e2 e3 e4 => (hz.block i (Nat.lt_of_lt_of_le e3 gq.size) (by simp only [ne_eq, Option.some.injEq]; exact e1)).trans ((gq.block i e3 (by simp only [ne_eq, Option.some.injEq]; exact e2)).trans e4)
    refine ⟨grown_drop (grown_drop g13 gq (by omega)) hz (Nat.le_refl _), x_strs (up _ _ (by omega) (by omega) (by omega) (box_kept b1 (grown_trans g3 h1))), blk_ints (zs := [a]) (up _ _ (by omega) (by omega) (by omega) (box_kept D1 h1)) (by simp) (fun z hz => by simp at hz; subst hz; exact ha), own_attrsR (World.ownsRow.kept (World.ownsRow.kept h2 gq (.inr (by simp only [Value.ownBlock, ne_eq, Option.some.injEq]; omega))) hz (.inr (by simp only [Value.ownBlock, ne_eq, Option.some.injEq]; omega))) (by simp)⟩
  have H2 := hide B2
  have HD2 := hide D2
  have Z1 := hide z1
  clear b0 b1 b2 b3 g1 g3 n0 n1 n2 n3 B2 D2 z1 D1 hb ha
  go_enter Tryz.func10, Tryz.ntmps10
  go_wp2_with (first | (at_builtin; rw [← hW1, ← hW3]; refine wpList_append_grows _ rfl (.tmp 24) (.tmp 28) 33 rfl 41 i1 (.agg #[.string ⟨#[]⟩, .int .i64 0, .int .i64 0, .int .i64 0, .string ⟨#[]⟩, .int .i64 0, .slice none 0 0, .slice none 0 0, .slice none 0 0]) 9 136 Tryz.underlying33 hj jz0 jz1 jz2 rfl (by decide) (some ⟨w.heap.size + 1 + 1, 0, none⟩) 1 1 (acells (inI ⟨#[107, 101, 101, 112, 100, 105, 109, 115]⟩ k)) rfl (fun e => by cases e) rfl (fun b e => by cases e; exact World.news_of_block H2.out) ⟨w.heap.size + 1 + 1 + 1 + 1 + 1, 0, none⟩ 1 1 (acells (inA ⟨#[97, 120, 101, 115]⟩ ⟨some ⟨w.heap.size + 1 + 1 + 1 + 1, 0, none⟩, 1, 1⟩)) rfl rfl (World.news_of_block HD2.out) (acell_one _) (by omega) (by simp only [maxLen]; omega) (by omega) ?_; intro v8 w8 hown8 hg8; obtain ⟨g, cap, rfl⟩ := own_sliceR hown8 (by omega); obtain ⟨f4, c4, fq⟩ := FIN.out w8 g cap hg8 hown8; obtain ⟨kq, k0, fz⟩ := fq _ rfl; obtain ⟨m0, m1, m2, m3, m4⟩ := nod_cells (n := ⟨op, ⟨#[]⟩, ⟨some ⟨w.heap.size + 1, 0, none⟩, 1, 1⟩, ⟨#[122]⟩, ⟨some ⟨g, 0, none⟩, 1 + 1, cap⟩⟩) kq; obtain ⟨r0, r1, r2, r3, r4⟩ := nod_cells (n := ⟨⟨#[]⟩, ⟨#[]⟩, ⟨none, 0, 0⟩, ⟨#[]⟩, ⟨none, 0, 0⟩⟩) k0; simp only at m0 m1 m2 m3 m4 r0 r1 r2 r3 r4; obtain ⟨f0, f1, f2, f3, f5⟩ := nod_frozen k0; obtain ⟨st, sg⟩ := store5r (.string op) (.string ⟨#[]⟩) (.slice (some ⟨w.heap.size + 1, 0, none⟩) 1 1) (.string ⟨#[122]⟩) (.slice (some ⟨g, 0, none⟩) (1 + 1) cap) k0; have FZ := hide (fz _ sg); have ST := hide st; clear hown8 hg8 n4 fq kq k0 fz st sg) | fail)
  refine bodyPost_ret (ret_nod rfl _ _ w.heap.size rfl ST.out) rfl ?_
  exact ⟨⟨some ⟨w.heap.size + 1, 0, none⟩, 1, 1⟩, ⟨some ⟨w.heap.size + 1 + 1 + 1 + 1, 0, none⟩, 1, 1⟩, ⟨some ⟨g, 0, none⟩, 1 + 1, cap⟩, rfl, FZ.out⟩

set_option maxRecDepth 100000 in
set_option maxHeartbeats 4000000 in
theorem axis_int (a k : Int) (w : World) : Calls Tryz.prog 10 #[.string ⟨#[65, 114, 103, 77, 97, 120]⟩, .int .i64 a, .int .i64 k] w fun e w' => ∃ (iv av : Sl), e = .returned (nval ⟨⟨#[65, 114, 103, 77, 97, 120]⟩, ⟨#[]⟩, iv, ⟨#[122]⟩, av⟩) ∧ w.grownBy w' none ∧ IsStrs w' iv.v [⟨#[120]⟩] ∧ IsAttrs w' av.v [inI ⟨#[107, 101, 101, 112, 100, 105, 109, 115]⟩ k, inI ⟨#[97, 120, 105, 115]⟩ a] := by
  obtain ⟨i1, hj, jz0, jz1, jz2⟩ := info_parts infoAtt
  obtain ⟨W1, hW1⟩ : ∃ W, W = ((((w.alloc (.cells #[.string ⟨#[]⟩, .string ⟨#[]⟩, .slice none 0 0, .string ⟨#[]⟩, .slice none 0 0] 35)).alloc (.cells #[.string ⟨#[120]⟩] 9)).alloc (.cells #[.string ⟨#[107, 101, 101, 112, 100, 105, 109, 115]⟩, .int .i64 2, .int .i64 0, .int .i64 k, .string ⟨#[]⟩, .int .i64 0, .slice none 0 0, .slice none 0 0, .slice none 0 0] 41)).alloc (.cells #[.string ⟨#[65, 114, 103, 77, 97, 120]⟩, .string ⟨#[]⟩, .slice (some ⟨w.heap.size + 1, 0, none⟩) 1 1, .string ⟨#[122]⟩, .slice (some ⟨w.heap.size + 1 + 1, 0, none⟩) 1 1] 35)) := ⟨_, rfl⟩
  obtain ⟨b0, b1, b2, b3, g1, z1⟩ := four_boxes w _ _ _ _ W1 hW1
  obtain ⟨W3, hW3⟩ : ∃ W, W = (W1.alloc (.cells #[.string ⟨#[97, 120, 105, 115]⟩, .int .i64 2, .int .i64 0, .int .i64 a, .string ⟨#[]⟩, .int .i64 0, .slice none 0 0, .slice none 0 0, .slice none 0 0] 41)) := ⟨_, rfl⟩
  have D2 := heap_alloc_new W1 (.cells #[.string ⟨#[97, 120, 105, 115]⟩, .int .i64 2, .int .i64 0, .int .i64 a, .string ⟨#[]⟩, .int .i64 0, .slice none 0 0, .slice none 0 0, .slice none 0 0] 41)
  rw [← hW3, z1] at D2
  have g3 : W1.grownBy W3 none := by rw [hW3]; exact grown_new _ _
  have B2 := box_kept b2 g3
  obtain ⟨n0, n1, n2, n3, n4⟩ := nod_cells (n := ⟨⟨#[65, 114, 103, 77, 97, 120]⟩, ⟨#[]⟩, ⟨some ⟨w.heap.size + 1, 0, none⟩, 1, 1⟩, ⟨#[122]⟩, ⟨some ⟨w.heap.size + 1 + 1, 0, none⟩, 1, 1⟩⟩) b3
  simp only at n0 n1 n2 n3 n4
  rw [hW1] at n4
  have FIN : Hid (∀ (w8 : World) (g cap : Nat), W3.grownBy w8 none → w8.ownsRow W3.heap.size 41 9 (.slice (some ⟨g, 0, none⟩) (1 + 1) cap) (1 + 1) (acells (inI ⟨#[107, 101, 101, 112, 100, 105, 109, 115]⟩ k) ++ acells (inI ⟨#[97, 120, 105, 115]⟩ a)) → w8.frozen? ⟨w.heap.size + 1 + 1 + 1, 4, none⟩ = false ∧ w8.cell? ⟨w.heap.size + 1 + 1 + 1, 4, none⟩ = some (.slice (some ⟨w.heap.size + 1 + 1, 0, none⟩) 1 1) ∧ ∀ q, q = w8.setCell ⟨w.heap.size + 1 + 1 + 1, 4, none⟩ (.slice (some ⟨g, 0, none⟩) (1 + 1) cap) → q.heap[w.heap.size + 1 + 1 + 1]? = some (.cells #[.string ⟨#[65, 114, 103, 77, 97, 120]⟩, .string ⟨#[]⟩, .slice (some ⟨w.heap.size + 1, 0, none⟩) 1 1, .string ⟨#[122]⟩, .slice (some ⟨g, 0, none⟩) (1 + 1) cap] 35 (0, 0)) ∧ q.heap[w.heap.size]? = some (.cells #[.string ⟨#[]⟩, .string ⟨#[]⟩, .slice none 0 0, .string ⟨#[]⟩, .slice none 0 0] 35 (0, 0)) ∧ ∀ z, q.grownBy z (some (w.heap.size)) → w.grownBy z none ∧ IsStrs z (.slice (some ⟨w.heap.size + 1, 0, none⟩) 1 1) [⟨#[120]⟩] ∧ IsAttrs z (.slice (some ⟨g, 0, none⟩) (1 + 1) cap) [inI ⟨#[107, 101, 101, 112, 100, 105, 109, 115]⟩ k, inI ⟨#[97, 120, 105, 115]⟩ a]) := fun w8 g cap h1 h2 => by
    have hz3 : w.heap.size + 1 + 1 + 1 + 1 < W3.heap.size := (Array.getElem?_eq_some_iff.1 D2).1
    have k3 := box_kept b3 (grown_trans g3 h1)
    obtain ⟨-, -, -, -, m4⟩ := nod_cells (n := ⟨⟨#[65, 114, 103, 77, 97, 120]⟩, ⟨#[]⟩, ⟨some ⟨w.heap.size + 1, 0, none⟩, 1, 1⟩, ⟨#[122]⟩, ⟨some ⟨w.heap.size + 1 + 1, 0, none⟩, 1, 1⟩⟩) k3
    refine ⟨(nod_frozen k3).2.2.2.2, m4, fun q hq => ?_⟩
    have kq := heap_setCell_same w8 (w.heap.size + 1 + 1 + 1) 4 _ _ (.slice (some ⟨g, 0, none⟩) (1 + 1) cap) k3
    have gq := set_grownR w8 (w.heap.size + 1 + 1 + 1) 4 (.slice (some ⟨g, 0, none⟩) (1 + 1) cap)
    rw [← hq] at kq gq
    have hs := h1.size
    have g13 := grown_trans g1 (grown_trans g3 h1)
    have hg1 := (World.ownsRow.lt h2 g rfl).1
    refine ⟨by simpa using kq, (gq.block _ (by omega) (by simp only [ne_eq, Option.some.injEq]; omega)).trans (box_kept b0 (grown_trans g3 h1)), fun z hz => ?_⟩
    have up : ∀ (i : Nat) (o : Obj), i ≠ w.heap.size → i ≠ w.heap.size + 1 + 1 + 1 → i < w8.heap.size → w8.heap[i]? = some o → z.heap[i]? = some o := fun i o e1 e2 e3 e4 => (hz.block i (Nat.lt_of_lt_of_le e3 gq.size) (by simp only [ne_eq, Option.some.injEq]; exact e1)).trans ((gq.block i e3 (by simp only [ne_eq, Option.some.injEq]; exact e2)).trans e4)
    refine ⟨grown_drop (grown_drop g13 gq (by omega)) hz (Nat.le_refl _), x_strs (up _ _ (by omega) (by omega) (by omega) (box_kept b1 (grown_trans g3 h1))), own_attrsR (World.ownsRow.kept (World.ownsRow.kept h2 gq (.inr (by simp only [Value.ownBlock, ne_eq, Option.some.injEq]; omega))) hz (.inr (by simp only [Value.ownBlock, ne_eq, Option.some.injEq]; omega))) (by simp)⟩
  have H2 := hide B2
  have HD2 := hide D2
  have Z1 := hide z1
  clear b0 b1 b2 b3 g1 g3 n0 n1 n2 n3 B2 D2 z1
  go_enter Tryz.func10, Tryz.ntmps10
  go_wp2_with (first | (at_builtin; rw [← hW1, ← hW3]; refine wpList_append_grows _ rfl (.tmp 17) (.tmp 20) 33 rfl 41 i1 (.agg #[.string ⟨#[]⟩, .int .i64 0, .int .i64 0, .int .i64 0, .string ⟨#[]⟩, .int .i64 0, .slice none 0 0, .slice none 0 0, .slice none 0 0]) 9 136 Tryz.underlying33 hj jz0 jz1 jz2 rfl (by decide) (some ⟨w.heap.size + 1 + 1, 0, none⟩) 1 1 (acells (inI ⟨#[107, 101, 101, 112, 100, 105, 109, 115]⟩ k)) rfl (fun e => by cases e) rfl (fun b e => by cases e; exact World.news_of_block H2.out) ⟨w.heap.size + 1 + 1 + 1 + 1, 0, none⟩ 1 1 (acells (inI ⟨#[97, 120, 105, 115]⟩ a)) rfl rfl (World.news_of_block HD2.out) (acell_one _) (by omega) (by simp only [maxLen]; omega) (by omega) ?_; intro v8 w8 hown8 hg8; obtain ⟨g, cap, rfl⟩ := own_sliceR hown8 (by omega); obtain ⟨f4, c4, fq⟩ := FIN.out w8 g cap hg8 hown8; obtain ⟨kq, k0, fz⟩ := fq _ rfl; obtain ⟨m0, m1, m2, m3, m4⟩ := nod_cells (n := ⟨⟨#[65, 114, 103, 77, 97, 120]⟩, ⟨#[]⟩, ⟨some ⟨w.heap.size + 1, 0, none⟩, 1, 1⟩, ⟨#[122]⟩, ⟨some ⟨g, 0, none⟩, 1 + 1, cap⟩⟩) kq; obtain ⟨r0, r1, r2, r3, r4⟩ := nod_cells (n := ⟨⟨#[]⟩, ⟨#[]⟩, ⟨none, 0, 0⟩, ⟨#[]⟩, ⟨none, 0, 0⟩⟩) k0; simp only at m0 m1 m2 m3 m4 r0 r1 r2 r3 r4; obtain ⟨f0, f1, f2, f3, f5⟩ := nod_frozen k0; obtain ⟨st, sg⟩ := store5r (.string ⟨#[65, 114, 103, 77, 97, 120]⟩) (.string ⟨#[]⟩) (.slice (some ⟨w.heap.size + 1, 0, none⟩) 1 1) (.string ⟨#[122]⟩) (.slice (some ⟨g, 0, none⟩) (1 + 1) cap) k0; have FZ := hide (fz _ sg); have ST := hide st; clear hown8 hg8 n4 fq kq k0 fz st sg) | fail)
  refine bodyPost_ret (ret_nod rfl _ _ w.heap.size rfl ST.out) rfl ?_
  exact ⟨⟨some ⟨w.heap.size + 1, 0, none⟩, 1, 1⟩, ⟨some ⟨g, 0, none⟩, 1 + 1, cap⟩, rfl, FZ.out⟩

end Go.Proofs.YtahmmilhmoogbaaGreatDoor

namespace Go.Proofs.YtahmmilhmoogbaaGreatDoor

open Go.RowKit

set_option maxRecDepth 100000 in
set_option maxHeartbeats 4000000 in
theorem small11_any (u : Sl) (ps : List (Ten × Tq)) (w : World) (hv : TensIn w u.v ps) : Calls Tryz.prog 7 #[.slice u.a u.n u.c] w (Told w) := by
  obtain ⟨xa, xc, e1, p1, p2, p3⟩ := hv.vals.form
  rw [List.length_map] at e1 p1 p3
  obtain ⟨ua, un, uc⟩ := u
  simp only [Sl.v, Value.slice.injEq] at e1
  obtain ⟨rfl, rfl, rfl⟩ := e1
  have HV := hide hv
  clear hv
  go_enter Tryz.func7, Tryz.ntmps7
  go_wp2_with fail
  go_loopw [3] (fun i wr => w.grownBy wr none ∧ ∃ (k : Nat), k ≤ ps.length ∧ i = .int .i64 k) (fun i _ => ps.length - (intOf i).toNat)
  case atStart => exact ⟨grown_refl _, 0, Nat.zero_le _, rfl⟩
  case round =>
    obtain ⟨hg, k, hk, rfl⟩ := hrel
    have HG := hide hg
    by_cases hlt : k < ps.length
    · obtain ⟨b, off, rfl⟩ := HV.out.vals.addr (k := k) (by rw [List.length_map]; exact hlt)
      obtain ⟨-, -, a2⟩ := (HV.out.more hg).at k hlt
      obtain ⟨⟨ta, tn, tc⟩, hp⟩ : ∃ p, p = ps[k].1.tv := ⟨_, rfl⟩
      rw [← hp] at a2
      simp only at a2
      clear hp hg
      by_cases hb : 600 < tn
      · have hb' : (600 : Int) < tn := by omega
        go_wp2
        go_ret
        exact ⟨_, rfl, HG.out⟩
      · have hb' : ¬ (600 : Int) < tn := by omega
        go_wp2_with fail
        go_roundw
        case rel => exact ⟨HG.out, k + 1, by omega, by go_num⟩
        case measure => simp [intOf]; omega
    · obtain rfl : k = ps.length := by omega
      clear hg
      by_cases h6 : ps.length ≤ 6
      · have h6' : (ps.length : Int) ≤ 6 := by omega
        go_wp2
        go_ret
        exact ⟨_, rfl, HG.out⟩
      · have h6' : ¬ (ps.length : Int) ≤ 6 := by omega
        go_wp2
        go_ret
        exact ⟨_, rfl, HG.out⟩

theorem live_sum (s : Sl) : sumR (pkAt ⟨#[82, 101, 100, 117, 99, 101, 83, 117, 109]⟩ 0 s [0]) 6 [2, 2] [1, 2, 3, 4] = .ok (6, [2], [4, 6]) := by kernel_rfl

set_option maxRecDepth 100000 in
set_option maxHeartbeats 8000000 in
theorem live11_any (w : World) (hl : Laid w) : Calls Tryz.prog 8 #[] w fun e w' => e = .returned (.bool true) ∧ w.grownBy w' none := by
  have HL := hide hl
  clear hl
  obtain ⟨W, hW⟩ : ∃ W, W = (((w.alloc (.cells #[.string ⟨#[120]⟩] 9)).alloc (.cells #[.int .i64 0] 2)).alloc (.cells #[.string ⟨#[97, 120, 101, 115]⟩, .int .i64 7, .int .i64 0, .int .i64 0, .string ⟨#[]⟩, .int .i64 0, .slice none 0 0, .slice none 0 0, .slice (some ⟨w.heap.size + 1, 0, none⟩) 1 1, .string ⟨#[107, 101, 101, 112, 100, 105, 109, 115]⟩, .int .i64 2, .int .i64 0, .int .i64 0, .string ⟨#[]⟩, .int .i64 0, .slice none 0 0, .slice none 0 0, .slice none 0 0] 41)).alloc (.cells #[.string ⟨#[82, 101, 100, 117, 99, 101, 83, 117, 109]⟩, .string ⟨#[]⟩, .slice (some ⟨w.heap.size, 0, none⟩) 1 1, .string ⟨#[122]⟩, .slice (some ⟨w.heap.size + 1 + 1, 0, none⟩) 2 2] 35) := ⟨_, rfl⟩
  obtain ⟨b0, b1, b2, b3, gW, zW⟩ := four_boxes w _ _ _ _ W hW
  obtain ⟨n0, n1, n2, n3, n4⟩ := nod_cells (n := ⟨⟨#[82, 101, 100, 117, 99, 101, 83, 117, 109]⟩, ⟨#[]⟩, ⟨some ⟨w.heap.size, 0, none⟩, 1, 1⟩, ⟨#[122]⟩, ⟨some ⟨w.heap.size + 1 + 1, 0, none⟩, 2, 2⟩⟩) b3
  simp only at n0 n1 n2 n3 n4
  rw [hW] at n0 n1 n2 n3 n4
  obtain ⟨V, hV⟩ : ∃ V, V = ((W.alloc (.cells #[.int .i64 2, .int .i64 2] 3)).alloc (.cells #[.int .i64 1, .int .i64 2, .int .i64 3, .int .i64 4] 2)).alloc (.cells #[.int .i64 6, .slice (some ⟨w.heap.size + 1 + 1 + 1 + 1, 0, none⟩) 2 2, .slice (some ⟨w.heap.size + 1 + 1 + 1 + 1 + 1, 0, none⟩) 4 4] 25) := ⟨_, rfl⟩
  obtain ⟨c0, c1, c2⟩ := three_boxes W (.cells #[.int .i64 2, .int .i64 2] 3) (.cells #[.int .i64 1, .int .i64 2, .int .i64 3, .int .i64 4] 2) (.cells #[.int .i64 6, .slice (some ⟨w.heap.size + 1 + 1 + 1 + 1, 0, none⟩) 2 2, .slice (some ⟨w.heap.size + 1 + 1 + 1 + 1 + 1, 0, none⟩) 4 4] 25)
  rw [← hV, zW] at c0 c1 c2
  have gV : W.grownBy V none := by rw [hV]; exact grown_trans (grown_trans (grown_new _ _) (grown_new _ _)) (grown_new _ _)
  have GV := hide (grown_trans gW gV)
  have AT : IsAttrs V (.slice (some ⟨w.heap.size + 1 + 1, 0, none⟩) 2 2) [inA ⟨#[97, 120, 101, 115]⟩ ⟨some ⟨w.heap.size + 1, 0, none⟩, 1, 1⟩, inI ⟨#[107, 101, 101, 112, 100, 105, 109, 115]⟩ 0] := lit_isLG (te := 41) (bytes := 136) (xs := [inA ⟨#[97, 120, 101, 115]⟩ ⟨some ⟨w.heap.size + 1, 0, none⟩, 1, 1⟩, inI ⟨#[107, 101, 101, 112, 100, 105, 109, 115]⟩ 0]) acells_len (box_kept b2 gV) rfl rfl (Nat.le_of_ble_eq_true rfl) (Nat.le_of_ble_eq_true rfl)
  have IL : IsInts V (.slice (some ⟨w.heap.size + 1, 0, none⟩) 1 1) [0] := blk_ints (zs := [0]) (box_kept b1 gV) (by simp) (by simp)
  have E1 := hide (sum_do ⟨⟨#[82, 101, 100, 117, 99, 101, 83, 117, 109]⟩, ⟨#[]⟩, ⟨some ⟨w.heap.size, 0, none⟩, 1, 1⟩, ⟨#[122]⟩, ⟨some ⟨w.heap.size + 1 + 1, 0, none⟩, 2, 2⟩⟩ (pkAt ⟨#[82, 101, 100, 117, 99, 101, 83, 117, 109]⟩ 0 ⟨some ⟨w.heap.size + 1, 0, none⟩, 1, 1⟩ [0]) ⟨#[120]⟩ rfl ⟨some ⟨w.heap.size + 1 + 1 + 1 + 1 + 1 + 1, 0, none⟩, 1, 1⟩ ⟨6, ⟨some ⟨w.heap.size + 1 + 1 + 1 + 1, 0, none⟩, 2, 2⟩, ⟨some ⟨w.heap.size + 1 + 1 + 1 + 1 + 1, 0, none⟩, 4, 4⟩⟩ [2, 2] [1, 2, 3, 4] V (HL.out.more GV.out) (two_in (x_strs (box_kept b0 gV)) (has_l IL) (has_i V _ _) (by show 0 ≤ 1048576; omega) (by show 0 ≤ 1048576; omega) AT) (two_ok (has_l IL) (has_i V _ _) (by show -9223372036854775808 ≤ (0 : Int) ∧ (0 : Int) ≤ 9223372036854775807; omega) (by show -9223372036854775808 ≤ (0 : Int) ∧ (0 : Int) ≤ 9223372036854775807; omega) AT) (pk_check _ _ _) (pk_then _ _ _ _) (by show 1 ≤ 1048576; omega) (one_ten _ c2 (blk_ints (zs := [2, 2]) c0 (by simp) (by simp)) (blk_ints (zs := [1, 2, 3, 4]) c1 (by simp) (by simp))))
  rw [show sumR (pkAt ⟨#[82, 101, 100, 117, 99, 101, 83, 117, 109]⟩ 0 ⟨some ⟨w.heap.size + 1, 0, none⟩, 1, 1⟩ [0]) (Ten.ty ⟨6, ⟨some ⟨w.heap.size + 1 + 1 + 1 + 1, 0, none⟩, 2, 2⟩, ⟨some ⟨w.heap.size + 1 + 1 + 1 + 1 + 1, 0, none⟩, 4, 4⟩⟩) [2, 2] [1, 2, 3, 4] = .ok (6, [2], [4, 6]) from live_sum _] at E1
  unfold nval at E1
  simp only at E1
  clear b0 b1 b2 b3 gW gV c0 c1 c2 zW AT IL
  go_enter Tryz.func8, Tryz.ntmps8
  go_wp2_with fail
  rw [← hW, ← hV]
  clear hW hV n0 n1 n2 n3 n4
  refine E1.out.mono ?_
  rintro e w1 ⟨hg1, ⟨ty, ⟨da, dn, dc⟩, ⟨ta, tn, tc⟩⟩, ht, rfl, od, ot⟩
  simp only at ht
  subst ht
  unfold tval
  simp only
  obtain ⟨p, hp⟩ : ∃ p, p = w1.alloc (.cells #[.int .i64 6, .slice da dn dc, .slice ta tn tc] 25) := ⟨_, rfl⟩
  obtain ⟨bp, zp⟩ := new_alloc (.cells #[.int .i64 6, .slice da dn dc, .slice ta tn tc] 25) (x := w1) rfl
  rw [← hp] at bp zp
  have gp : w1.grownBy p none := by rw [hp]; exact grown_new _ _
  obtain ⟨q, hq⟩ : ∃ q, q = (((p.alloc (.cells #[.string ⟨#[120]⟩] 9)).alloc (.cells #[.int .i64 2] 3)).alloc (.cells #[.int .i64 0, .int .i64 0] 2)).alloc (.cells #[.int .i64 1, .slice (some ⟨w1.heap.size + 1 + 1, 0, none⟩) 1 1, .slice (some ⟨w1.heap.size + 1 + 1 + 1, 0, none⟩) 2 2] 25) := ⟨_, rfl⟩
  obtain ⟨c0, c1, c2, c3, gq, zq⟩ := four_boxes p _ _ _ _ q hq
  rw [zp] at c0 c1 c2 c3
  have GP := hide (grown_trans GV.out (grown_trans hg1 gp))
  have GQ := hide (grown_trans GP.out gq)
  have E2 := hide (soft_do ⟨⟨#[83, 111, 102, 116, 109, 97, 120]⟩, ⟨#[]⟩, ⟨some ⟨w1.heap.size + 1, 0, none⟩, 1, 1⟩, ⟨#[122]⟩, nilS⟩ ⟨⟨#[83, 111, 102, 116, 109, 97, 120]⟩, [], []⟩ ⟨#[120]⟩ rfl ⟨some ⟨w1.heap.size + 1 + 1 + 1 + 1, 0, none⟩, 1, 1⟩ ⟨1, ⟨some ⟨w1.heap.size + 1 + 1, 0, none⟩, 1, 1⟩, ⟨some ⟨w1.heap.size + 1 + 1 + 1, 0, none⟩, 2, 2⟩⟩ rfl q (HL.out.more GQ.out) (bare_in q _ _ _ _ (x_strs c0)) (bare_ok q _ _ _) (by kernel_rfl) (by kernel_rfl) (by show 1 ≤ 1048576; omega) (one_ten _ c3 (blk_ints (zs := [2]) c1 (by simp) (by simp)) (blk_ints (zs := [0, 0]) c2 (by simp) (by simp))) (by kernel_rfl))
  unfold nval nilS at E2
  simp only at E2
  have D1 := hide (od.ints.more (grown_trans gp gq))
  have T1 := hide (ot.ints.more (grown_trans gp gq))
  have BP := hide (box_kept bp gq)
  clear bp zp gp c0 c1 c2 c3 gq zq od ot E1 hg1
  go_wp2_with fail
  rw [← hp, ← hq]
  clear hp hq
  refine E2.out.mono ?_
  rintro e w2 ⟨hg2, ⟨ty, ⟨ea, en, ec⟩, ⟨va, vn, vc⟩⟩, ht, rfl, od, ot⟩
  simp only at ht
  subst ht
  unfold tval
  simp only
  obtain ⟨p2, hp2⟩ : ∃ p, p = w2.alloc (.cells #[.int .i64 1, .slice ea en ec, .slice va vn vc] 25) := ⟨_, rfl⟩
  obtain ⟨bp2, zp2⟩ := new_alloc (.cells #[.int .i64 1, .slice ea en ec, .slice va vn vc] 25) (x := w2) rfl
  rw [← hp2] at bp2 zp2
  have gp2 : w2.grownBy p2 none := by rw [hp2]; exact grown_new _ _
  obtain ⟨r, hr⟩ : ∃ r, r = (p2.alloc (.cells #[.int .i64 2] 3)).alloc (.cells #[.int .i64 4, .int .i64 6] 2) := ⟨_, rfl⟩
  obtain ⟨d0, d1⟩ := two_boxes p2 (.cells #[.int .i64 2] 3) (.cells #[.int .i64 4, .int .i64 6] 2)
  rw [← hr] at d0 d1
  have gr : p2.grownBy r none := by rw [hr]; exact grown_trans (grown_new _ _) (grown_new _ _)
  have GR := hide (grown_trans (grown_trans hg2 gp2) gr)
  have D2' := hide (od.ints.more (grown_trans gp2 gr))
  have T2' := hide (ot.ints.more (grown_trans gp2 gr))
  have BP2 := hide (box_kept bp2 gr)
  obtain ⟨x0, x1, x2⟩ := ten_cells (box_kept BP.out (grown_trans hg2 gp2))
  have SA := hide (sameten_eq 6 _ _ _ _ [2] [4, 6] r (D1.out.more GR.out) (T1.out.more GR.out) (blk_ints (zs := [2]) d0 (by simp) (by simp)) (blk_ints (zs := [4, 6]) d1 (by simp) (by simp)))
  rw [zp2] at SA
  simp only [Sl.v, List.length_cons, List.length_nil, Nat.zero_add] at SA
  rw [hp2] at x0 x1 x2
  have GR2 := hide (grown_trans GQ.out GR.out)
  clear d0 d1 gr gp2 bp2 zp2 od ot hg2 E2
  go_wp2_with (first | (go_at_call 12; rw [← hp2, ← hr]; refine SA.out.mono ?_; rintro e w7 ⟨rfl, hg7⟩; obtain ⟨y0, y1, y2⟩ := ten_cells (box_kept BP2.out hg7); clear x0 x1 x2) | fail)
  obtain ⟨t, ht⟩ : ∃ t, t = (w7.alloc (.cells #[.int .i64 2] 3)).alloc (.cells #[.int .i64 1056964608, .int .i64 1056964608] 2) := ⟨_, rfl⟩
  obtain ⟨d0, d1⟩ := two_boxes w7 (.cells #[.int .i64 2] 3) (.cells #[.int .i64 1056964608, .int .i64 1056964608] 2)
  rw [← ht] at d0 d1 ⊢
  have gt : w7.grownBy t none := by rw [ht]; exact grown_trans (grown_new _ _) (grown_new _ _)
  have g7t := grown_trans hg7 gt
  have SB := hide (sameten_eq 1 _ _ _ _ [2] [1056964608, 1056964608] t (D2'.out.more g7t) (T2'.out.more g7t) (blk_ints (zs := [2]) d0 (by simp) (by simp)) (blk_ints (zs := [1056964608, 1056964608]) d1 (by simp) (by simp)))
  simp only [Sl.v, List.length_cons, List.length_nil, Nat.zero_add] at SB
  refine SB.out.mono ?_
  rintro e w8 ⟨rfl, hg8⟩
  have GZ := hide (grown_trans GR2.out (grown_trans g7t hg8))
  clear d0 d1 gt g7t hg7 hg8 ht
  go_wp2
  go_ret
  exact ⟨rfl, GZ.out⟩

end Go.Proofs.YtahmmilhmoogbaaGreatDoor

namespace Go.Proofs.YtahmmilhmoogbaaGreatDoor

open Go.RowKit

theorem red_zero (A : At) (x : List Int) (L : List Int) (hk : A.int ⟨#[107, 101, 101, 112, 100, 105, 109, 115]⟩ 1 = 0) (ha : alongP A x.length = L) : reducedP A x = (axesP L x.length).bind fun g => .ok (keptL false x g) := by
  unfold reducedP
  rw [hk, ha]
  rfl

theorem sum_s (k t : Int) (s : Sl) (L x xs : List Int) : sumR (kpAt ⟨#[82, 101, 100, 117, 99, 101, 83, 117, 109]⟩ k nilS L) t x xs = sumR (kpAt ⟨#[82, 101, 100, 117, 99, 101, 83, 117, 109]⟩ k s L) t x xs := by kernel_rfl
theorem max_s (k t : Int) (s : Sl) (L x xs : List Int) : maxR (kpAt ⟨#[82, 101, 100, 117, 99, 101, 77, 97, 120]⟩ k nilS L) t x xs = maxR (kpAt ⟨#[82, 101, 100, 117, 99, 101, 77, 97, 120]⟩ k s L) t x xs := by kernel_rfl
theorem mean_s (k t : Int) (s : Sl) (L x xs : List Int) : meanR (kpAt ⟨#[82, 101, 100, 117, 99, 101, 77, 101, 97, 110]⟩ k nilS L) t x xs = meanR (kpAt ⟨#[82, 101, 100, 117, 99, 101, 77, 101, 97, 110]⟩ k s L) t x xs := by kernel_rfl

def NodeQ (op : ByteArray) (t : Int) (x xs : List Int) (r : R (Int × List Int × List Int)) (w : World) (e : Ending) (w' : World) : Prop :=
  ∃ (iv av : Sl), e = .returned (.agg #[.string op, .string ⟨#[]⟩, .slice iv.a iv.n iv.c, .string ⟨#[122]⟩, .slice av.a av.n av.c]) ∧ w.grownBy w' none ∧ ∀ (wx : World) (u : Sl) (T0 : Ten), T0.ty = t → w'.grownBy wx none → TensIn wx u.v [(T0, (x, xs))] → Calls Tryz.prog 9 #[.agg #[.string op, .string ⟨#[]⟩, .slice iv.a iv.n iv.c, .string ⟨#[122]⟩, .slice av.a av.n av.c], .slice u.a u.n u.c] wx (DoQ wx r)

end Go.Proofs.YtahmmilhmoogbaaGreatDoor

namespace Go.Proofs.YtahmmilhmoogbaaGreatDoor

open Go.RowKit

theorem furF_at (d : Nat) (g : Bool) : ∀ (ps : List Int) (m c : Nat), m < ps.length → c < d → (furF d g ps).getD (m * d + c) 0 = furG d g (ps.getD m 0) c
  | p :: ps, 0, c, _, hc => by
    unfold furF
    rw [List.flatMap_cons, Nat.zero_mul, Nat.zero_add]
    simp only [List.getD]
    rw [List.getElem?_append_left (by simp; exact hc), List.getElem?_map, List.getElem?_range hc]
    rfl
  | p :: ps, m + 1, c, hm, hc => by
    have ih := furF_at d g ps m c (by simpa using hm) hc
    unfold furF at ih ⊢
    rw [List.flatMap_cons]
    simp only [List.getD] at ih ⊢
    rw [List.getElem?_append_right (by simp [Nat.add_mul]; omega), List.length_map, List.length_range, show (m + 1) * d + c - d = m * d + c from by rw [Nat.add_mul]; omega, ih, List.getElem?_cons_succ]

theorem cnt_kept : ∀ (x : List Int) (g : List Bool), g.length = x.length → (∀ z ∈ x, 1 ≤ z) → (cntF x g : Int) = prod (keptL true x g)
  | [], _, _, _ => by simp [cntF, keptL, prod]
  | d :: x, [], h, _ => by simp at h
  | d :: x, b :: g, h, hx => by
    have ih := cnt_kept x g (by simpa using h) (fun z hz => hx z (by simp [hz]))
    have hd := hx d (by simp)
    simp only [cntF, keptL]
    rw [Int.natCast_mul, ih]
    cases b with
    | true => simp [prod]
    | false => simp [prod]; rw [Int.max_eq_left (by omega)]

end Go.Proofs.YtahmmilhmoogbaaGreatDoor

namespace Go.Proofs.YtahmmilhmoogbaaGreatDoor

open Go.RowKit

theorem eachL_at (f : List Int → Int) (xs pl : List Int) (c j : Nat) (h : j < c) : (eachL f xs pl c).getD j 0 = f (pickL xs (grpR pl pl.length j)) := by
  simp [eachL, List.getD, h]

theorem eachL_len (f : List Int → Int) (xs pl : List Int) (c : Nat) : (eachL f xs pl c).length = c := by simp [eachL]

end Go.Proofs.YtahmmilhmoogbaaGreatDoor

namespace Go.Proofs.YtahmmilhmoogbaaGreatDoor

open Go.RowKit

theorem axes_one {n : Nat} {a : Int} {g : List Bool} (h : axesO n [a] (List.replicate n false) = some g) : ∃ i, axisO a n = some i ∧ g = (List.replicate n false).set i true := by
  unfold axesO at h
  split at h
  · cases h
  · rename_i i hi
    split at h
    · cases h
    · unfold axesO at h
      cases h
      exact ⟨i, hi, rfl⟩

theorem pb_chk {t : Int} {x xs : List Int} (h : pbE t x xs = 0) : ∀ z ∈ xs, chk t z = true := by
  unfold pbE at h
  split at h
  · cases h
  · split at h
    · rename_i h1 h2
      exact absurd h (by simpa using h2)
    · split at h
      · cases h
      · split at h
        · rename_i h4
          exact fun z hz => List.all_eq_true.1 h4 z hz
        · cases h

end Go.Proofs.YtahmmilhmoogbaaGreatDoor
