/- Joined texts: NRule, NRuleA. -/
import Derived.Test.YtaoplfpigjkgpaaGreatDoorPartAK
namespace Go.Proofs.YtaoplfpigjkgpaaGreatDoor

open Go.RowKit

structure Ra where
  name : ByteArray
  kind : Int
  must : Bool

def rcells (r : Ra) : List Value := [.string r.name, .int .i64 r.kind, .bool r.must]

theorem rcells_len (r : Ra) : (rcells r).length = 3 := rfl

abbrev OwnsR (w : World) (base : Nat) (v : Value) (xs : List Ra) : Prop := OwnsL 178 3 rcells w base v xs

theorem infoRa : (Tryz.prog.info? 178).map (fun i => (i.zero, i.size, i.bytes)) = some (some (.agg #[.string ⟨#[]⟩, .int .i64 0, .bool false]), 3, 32) := by kernel_rfl

theorem raInfo : (Tryz.prog.info? 178).map (·.size) = some 3 := by kernel_rfl

theorem ret_ra {fn : Func} {p : Tmp} (h : fn.results = #[.cell p 178]) (tmps : Array Value) (w : World) (B : Nat) (hp : tmps.getD p undef = .pointer (some ⟨B, 0, none⟩)) {a b c : Value}
    (hb : w.heap[B]? = some (.cells #[a, b, c] 178 (0, 0))) : (results fn tmps).run Tryz.prog w = .ok (.agg #[a, b, c]) w :=
  results_cell_row h tmps w B 178 #[a, b, c] (0, 0) _ hp hb Tryz.underlying178 rfl (by rw [raInfo]; rfl)

set_option maxRecDepth 100000 in
set_option maxHeartbeats 1600000 in
theorem may_any (nm : ByteArray) (kd : Int) (w : World) :
    Calls Tryz.prog 145 #[.string nm, .int .i64 kd] w fun e w' => e = .returned (.agg #[.string nm, .int .i64 kd, .bool false]) ∧ w.grownBy w' none := by
  go_enter Tryz.func145, Tryz.ntmps145
  go_wp2
  refine bodyPost_ret (ret_ra rfl _ _ w.heap.size rfl (heap_alloc_new w _)) rfl ?_
  exact ⟨rfl, grown_new _ _⟩

set_option maxRecDepth 100000 in
set_option maxHeartbeats 1600000 in
theorem must_any (nm : ByteArray) (kd : Int) (w : World) :
    Calls Tryz.prog 146 #[.string nm, .int .i64 kd] w fun e w' => e = .returned (.agg #[.string nm, .int .i64 kd, .bool true]) ∧ w.grownBy w' none := by
  go_enter Tryz.func146, Tryz.ntmps146
  go_wp2
  refine bodyPost_ret (ret_ra rfl _ _ w.heap.size rfl (heap_alloc_new w _)) rfl ?_
  exact ⟨rfl, grown_new _ _⟩

def thenRa : Ra := ⟨⟨#[116, 104, 101, 110]⟩, 3, false⟩

theorem ruleInfo : (Tryz.prog.info? 150).map (·.size) = some 3 := by kernel_rfl

theorem ret_rule {fn : Func} {p : Tmp} (h : fn.results = #[.cell p 150]) (tmps : Array Value) (w : World) (B : Nat) (hp : tmps.getD p undef = .pointer (some ⟨B, 0, none⟩)) {a b c : Value}
    (hb : w.heap[B]? = some (.cells #[a, b, c] 150 (0, 0))) : (results fn tmps).run Tryz.prog w = .ok (.agg #[a, b, c]) w :=
  results_cell_row h tmps w B 150 #[a, b, c] (0, 0) _ hp hb Tryz.underlying150 rfl (by rw [ruleInfo]; rfl)

def LitR (w : World) (v : Value) (xs : List Ra) : Prop := (xs = [] ∧ v = .slice none 0 0) ∨ ∃ g cur, v = .slice (some ⟨g, 0, none⟩) xs.length xs.length ∧ w.heap[g]? = some (.cells cur 178 (0, 0)) ∧ cur.toList = xs.flatMap rcells ∧ cur.size = xs.length * 3

theorem LitR.owns {w : World} {v : Value} {xs : List Ra} (h : LitR w v xs) (hl : xs.length ≤ 20) : OwnsR w 0 v xs := by
  rcases h with ⟨rfl, rfl⟩ | ⟨g, cur, rfl, hb, hc, hs⟩
  · exact OwnsL.nil _ _ _ _ _
  · refine ⟨flat_len rcells_len xs, Or.inr ⟨g, xs.length, cur, rfl, Nat.zero_le _, hb, Nat.le_refl _, by simp only [maxLen]; omega, hs, ?_⟩⟩
    rw [hc]
    exact List.take_of_length_le (by rw [flat_len rcells_len]; exact Nat.le_refl _)

theorem LitR.form {w : World} {v : Value} {xs : List Ra} (h : LitR w v xs) : ∃ a, v = .slice a xs.length xs.length := by
  rcases h with ⟨rfl, rfl⟩ | ⟨g, cur, rfl, _⟩
  · exact ⟨none, rfl⟩
  · exact ⟨_, rfl⟩

theorem LitR.alloc {w : World} {v : Value} {xs : List Ra} (h : LitR w v xs) {w' : World} (hg : w.grownBy w' none) : LitR w' v xs := by
  rcases h with h | ⟨g, cur, e, hb, r⟩
  · exact Or.inl h
  · exact Or.inr ⟨g, cur, e, box_kept hb hg, r⟩

def Taken (lo hi : Int) (xs : List Ra) (v : Value) (w w' : World) (e : Ending) : Prop :=
  ∃ a n c, e = .returned (.agg #[.int .i64 lo, .int .i64 hi, .slice a n c]) ∧ OwnsR w' 0 (.slice a n c) xs ∧ ∀ k, (Value.slice a n c).ownBlock = some k → v.ownBlock = some k ∨ w.heap.size ≤ k

theorem grown_row_box {a b c : World} {row : Option Nat} {B : Nat} (h : a.grownBy b row) (k : b.grownBy c (some B)) (hB : a.heap.size ≤ B) : a.grownBy c row :=
  ⟨k.os.trans h.os, k.tape.trans h.tape, k.output.trans h.output, Nat.le_trans h.size k.size, fun i hi hn => (k.block i (Nat.lt_of_lt_of_le hi h.size) (fun e => by cases e; omega)).trans (h.block i hi hn)⟩

theorem grown_none_row {a b c : World} {row : Option Nat} (h : a.grownBy b none) (k : b.grownBy c row) : a.grownBy c row :=
  ⟨k.os.trans h.os, k.tape.trans h.tape, k.output.trans h.output, Nat.le_trans h.size k.size, fun i hi hn => (k.block i (Nat.lt_of_lt_of_le hi h.size) hn).trans (h.block i hi (by simp))⟩

theorem store3r {w3 : World} {B : Nat} {z0 z1 z2 : Value} (a b c : Value) (hb : w3.heap[B]? = some (.cells #[z0, z1, z2] 150 (0, 0))) :
    (((w3.setCell ⟨B, 0, none⟩ a).setCell ⟨B, 1, none⟩ b).setCell ⟨B, 2, none⟩ c).heap[B]? = some (.cells #[a, b, c] 150 (0, 0)) ∧
    w3.grownBy (((w3.setCell ⟨B, 0, none⟩ a).setCell ⟨B, 1, none⟩ b).setCell ⟨B, 2, none⟩ c) (some B) := by
  have h1 := heap_setCell_same w3 B 0 _ _ a hb
  have h2 := heap_setCell_same _ B 1 _ _ b h1
  have h3 := heap_setCell_same _ B 2 _ _ c h2
  have g : ∀ (x : World) (j : Nat) (v : Value), x.grownBy (x.setCell ⟨B, j, none⟩ v) (some B) := fun x j v =>
    ⟨rfl, rfl, rfl, by simp [World.setCell], fun k _ hk => Below.heap_setCell _ _ _ _ (fun e => hk (by rw [e]))⟩
  exact ⟨by simpa using h3, grown_same (grown_same (g w3 0 a) (g _ 1 b)) (g _ 2 c)⟩

theorem rule_cells {w : World} {B : Nat} {a b c : Value} (hb : w.heap[B]? = some (.cells #[a, b, c] 150 (0, 0))) :
    w.cell? ⟨B, 0, none⟩ = some a ∧ w.cell? ⟨B, 1, none⟩ = some b ∧ w.cell? ⟨B, 2, none⟩ = some c ∧ w.frozen? ⟨B, 0, none⟩ = false ∧ w.frozen? ⟨B, 1, none⟩ = false ∧ w.frozen? ⟨B, 2, none⟩ = false :=
  ⟨(cell_of_row _ _ 0 _ _ (0, 0) hb).trans rfl, (cell_of_row _ _ 1 _ _ (0, 0) hb).trans rfl, (cell_of_row _ _ 2 _ _ (0, 0) hb).trans rfl, frozen_of_row w B 0 _ _ hb, frozen_of_row w B 1 _ _ hb, frozen_of_row w B 2 _ _ hb⟩

theorem LitR.lt {w : World} {v : Value} {xs : List Ra} (h : LitR w v xs) : ∀ k, v.ownBlock = some k → k < w.heap.size := by
  intro k hk
  rcases h with ⟨_, rfl⟩ | ⟨g, cur, rfl, hb, _⟩
  · cases hk
  · cases hk
    exact (Array.getElem?_eq_some_iff.1 hb).1

set_option maxRecDepth 100000 in
set_option maxHeartbeats 1600000 in
theorem takes_any (lo hi : Int) (v : Value) (xs : List Ra) (w : World) (hv : LitR w v xs) (hl : xs.length ≤ 20) :
    Calls Tryz.prog 144 #[.int .i64 lo, .int .i64 hi, v] w fun e w' => Taken lo hi (xs ++ [thenRa]) v w w' e ∧ w.grownBy w' v.ownBlock := by
  obtain ⟨i0, hi0, hz0, hz1, hz2⟩ := info_parts infoRa
  have HV := hide hv
  obtain ⟨va, rfl⟩ := hv.form
  obtain ⟨w0, hw0⟩ : ∃ w0, w0 = w.alloc (.cells #[.int .i64 0, .int .i64 0, .slice none 0 0] 150) := ⟨_, rfl⟩
  have g0 : w.grownBy w0 none := by rw [hw0]; exact grown_new _ _
  have b0 := heap_alloc_new w (.cells #[.int .i64 0, .int .i64 0, .slice none 0 0] 150)
  rw [← hw0] at b0
  have B0 := hide b0
  clear hv b0
  go_enter Tryz.func144, Tryz.ntmps144
  go_wp2_with fail
  rw [← hw0]
  clear hw0
  refine (may_any _ _ _).mono ?_
  rintro e w1 ⟨rfl, hg1⟩
  have g1 := grown_trans g0 hg1
  have L1 := hide ((HV.out.alloc g1).alloc (grown_new w1 (.cells #[.string ⟨#[116, 104, 101, 110]⟩, .int .i64 3, .bool false] 178)))
  have B1 := hide (box_kept (box_kept B0.out hg1) (grown_new w1 (.cells #[.string ⟨#[116, 104, 101, 110]⟩, .int .i64 3, .bool false] 178)))
  have LT := hide HV.out.lt
  go_wp2_with (at_builtin; refine wpList_append_lies _ rfl (.tmp 9) (.tmp 11) 148 rfl 0 178 i0 (.agg #[.string ⟨#[]⟩, .int .i64 0, .bool false]) 3 32 Tryz.underlying148 hi0 hz0 hz1 hz2 rfl (by decide) _ _ _ rfl (by exact L1.out.owns hl) ⟨w1.heap.size, 0, none⟩ 1 1 (rcells thenRa) rfl rfl (by exact World.news_of_block (heap_alloc_new w1 _)) (by simp [rcells, Value.oneCell']) (by omega) (by simp only [maxLen]; omega) (by omega) (Nat.zero_le _) (w1.heap.size + 1) (by simp) ?_; intro g nc w6 hown' hgrow hat _; have hne : g ≠ w.heap.size := (by rcases hat with h | h; (have := LT.out _ h; omega); (have := g1.size; omega)); have HAT := hide hat; have HNE := hide hne; clear hne hat; have B6 := hide ((hgrow.block w.heap.size (Array.getElem?_eq_some_iff.1 B1.out).1 (fun e => by have := LT.out _ e.symm; omega)).trans B1.out); obtain ⟨r0, r1, r2, f0, f1, f2⟩ := rule_cells B6.out; have HO6 := hide hown'; have HG6 := hide hgrow; clear hown' hgrow)
  obtain ⟨hX, gX⟩ := store3r (.int .i64 lo) (.int .i64 hi) (.slice (some ⟨g, 0, none⟩) (xs.length + 1) nc) B6.out
  have HX := hide hX
  have GX := hide gX
  clear hX gX
  go_wp2
  refine bodyPost_ret (ret_rule rfl _ _ w.heap.size rfl HX.out) rfl ?_
  refine ⟨⟨_, _, nc, rfl, ?_, fun k hk => ?_⟩, ?_⟩
  · have h := World.ownsRow.kept HO6.out GX.out (Or.inr (fun e => HNE.out (by cases e; rfl)))
    unfold OwnsR OwnsL
    rw [List.length_append, List.flatMap_append]
    simpa using h
  · cases hk
    rcases HAT.out with h | h
    · exact Or.inl h
    · exact Or.inr (by have := g1.size; show w.heap.size ≤ g; omega)
  · exact grown_row_box (grown_none_row (grown_trans g1 (grown_new _ _)) HG6.out) GX.out (Nat.le_refl _)

end Go.Proofs.YtaoplfpigjkgpaaGreatDoor

namespace Go.Proofs.YtaoplfpigjkgpaaGreatDoor

open Go.RowKit

def Ruled (r : Option (Int × Int × List Ra)) (w' : World) (e : Ending) : Prop := match r with
  | none => e = .returned (.tuple #[.agg #[.int .i64 0, .int .i64 0, .slice none 0 0], .bool false])
  | some (lo, hi, rs) => ∃ a n c, e = .returned (.tuple #[.agg #[.int .i64 lo, .int .i64 hi, .slice a n c], .bool true]) ∧ OwnsR w' 0 (.slice a n c) rs

theorem ret_rule2 {fn : Func} {p u : Tmp} (h : fn.results = #[.cell p 150, .tmp u]) (tmps : Array Value) (w : World) (B : Nat) (hp : tmps.getD p undef = .pointer (some ⟨B, 0, none⟩)) {a b c : Value}
    (hb : w.heap[B]? = some (.cells #[a, b, c] 150 (0, 0))) : (results fn tmps).run Tryz.prog w = .ok (.tuple #[.agg #[a, b, c], tmps.getD u undef]) w := by
  have hl := run_loadVar_row (P := Tryz.prog) w B _ 150 #[a, b, c] (0, 0) _ hb Tryz.underlying150 rfl (by rw [ruleInfo]; rfl)
  rw [results_cell_tmp h, hp]
  simp [asAddr, hl, Result.andThen]

theorem rule_put {w w0 w1 wx w6 : World} {row : Option Nat} {lo hi : Int} {a : Option Addr} {n c : Nat} {rs : List Ra} (hg0 : w.grownBy w0 none) (hb : w0.heap[w.heap.size]? = some (.cells #[.int .i64 0, .int .i64 0, .slice none 0 0] 150 (0, 0)))
    (hg1 : w0.grownBy w1 none) (hgx : w1.grownBy wx none) (hg6 : wx.grownBy w6 row) (hrow : ∀ g, row = some g → w1.heap.size ≤ g) (ho : OwnsR w6 0 (.slice a n c) rs) (hne : (Value.slice a n c).ownBlock ≠ some w.heap.size) :
    w6.heap[w.heap.size]? = some (.cells #[.int .i64 0, .int .i64 0, .slice none 0 0] 150 (0, 0)) ∧
    (((w6.setCell ⟨w.heap.size, 0, none⟩ (.int .i64 lo)).setCell ⟨w.heap.size, 1, none⟩ (.int .i64 hi)).setCell ⟨w.heap.size, 2, none⟩ (.slice a n c)).heap[w.heap.size]? = some (.cells #[.int .i64 lo, .int .i64 hi, .slice a n c] 150 (0, 0)) ∧
    OwnsR (((w6.setCell ⟨w.heap.size, 0, none⟩ (.int .i64 lo)).setCell ⟨w.heap.size, 1, none⟩ (.int .i64 hi)).setCell ⟨w.heap.size, 2, none⟩ (.slice a n c)) 0 (.slice a n c) rs ∧
    w.grownBy (((w6.setCell ⟨w.heap.size, 0, none⟩ (.int .i64 lo)).setCell ⟨w.heap.size, 1, none⟩ (.int .i64 hi)).setCell ⟨w.heap.size, 2, none⟩ (.slice a n c)) none := by
  have hlt := (Array.getElem?_eq_some_iff.1 hb).1
  have b1 := box_kept (box_kept hb hg1) hgx
  have s1 := hg1.size
  have b6 : w6.heap[w.heap.size]? = some (.cells #[.int .i64 0, .int .i64 0, .slice none 0 0] 150 (0, 0)) := (hg6.block _ (Array.getElem?_eq_some_iff.1 b1).1 (fun e => by have := hrow _ e.symm; omega)).trans b1
  obtain ⟨hX, gX⟩ := store3r (.int .i64 lo) (.int .i64 hi) (.slice a n c) b6
  refine ⟨b6, hX, World.ownsRow.kept ho gX (Or.inr hne), ?_⟩
  have g6 : w.grownBy w6 none := grown_trans_row (grown_trans (grown_trans hg0 hg1) hgx) hg6 (fun g e => by have := hrow g e; have := (grown_trans hg0 hg1).size; omega)
  exact grown_row_box g6 gX (Nat.le_refl _)

set_option maxRecDepth 100000 in
set_option maxHeartbeats 1600000 in
theorem rule_Relu (w : World) (hl : Laid w) :
    Calls Tryz.prog 105 #[.string ⟨#[82, 101, 108, 117]⟩] w fun e w' => Ruled (some (1, 1, [thenRa])) w' e ∧ w.grownBy w' none := by
  have e1 : isOne ⟨#[82, 101, 108, 117]⟩ = true := by simp only [isOne, bytes_toList]; rfl
  obtain ⟨w0, hw0⟩ : ∃ w0, w0 = w.alloc (.cells #[.int .i64 0, .int .i64 0, .slice none 0 0] 150) := ⟨_, rfl⟩
  have g0 : w.grownBy w0 none := by rw [hw0]; exact grown_new _ _
  have b0 := heap_alloc_new w (.cells #[.int .i64 0, .int .i64 0, .slice none 0 0] 150)
  rw [← hw0] at b0
  have B0 := hide b0
  have OO := hide (ofone_any ⟨#[82, 101, 108, 117]⟩ w0 (hl.more g0))
  rw [e1] at OO
  clear hl b0 e1
  go_enter Tryz.func105, Tryz.ntmps105
  go_wp2_with fail
  rw [← hw0]
  clear hw0
  refine OO.out.mono ?_
  rintro e v0 ⟨rfl, h0⟩
  go_wp2_with fail
  refine (takes_any _ _ _ [] _ (Or.inl ⟨rfl, rfl⟩) (by decide)).mono ?_
  rintro e w6 ⟨⟨a, n, c, rfl, ho, hat⟩, hg6⟩
  have hlt := (Array.getElem?_eq_some_iff.1 B0.out).1
  have hsk := h0.size
  have hne : (Value.slice a n c).ownBlock ≠ some w.heap.size := fun hh => by
    rcases hat _ hh with h | h
    · cases h
    · omega
  obtain ⟨b6, hX, hO, gX⟩ := rule_put (lo := 1) (hi := 1) g0 B0.out h0 (grown_refl _) hg6 (fun g e => by cases e) ho hne
  obtain ⟨r0, r1, r2, f0, f1, f2⟩ := rule_cells b6
  have HX := hide hX
  have HO := hide hO
  have GX := hide gX
  clear hX hO gX b6 ho hg6 hne hat hlt hsk
  go_wp2
  refine bodyPost_ret (ret_rule2 rfl _ _ w.heap.size rfl HX.out) rfl ?_
  exact ⟨⟨_, _, _, rfl, HO.out⟩, GX.out⟩

set_option maxRecDepth 100000 in
set_option maxHeartbeats 1600000 in
theorem rule_Add (w : World) (hl : Laid w) :
    Calls Tryz.prog 105 #[.string ⟨#[65, 100, 100]⟩] w fun e w' => Ruled (some (2, 2, [thenRa])) w' e ∧ w.grownBy w' none := by
  have e1 : isOne ⟨#[65, 100, 100]⟩ = false := by simp only [isOne, bytes_toList]; rfl
  obtain ⟨w0, hw0⟩ : ∃ w0, w0 = w.alloc (.cells #[.int .i64 0, .int .i64 0, .slice none 0 0] 150) := ⟨_, rfl⟩
  have g0 : w.grownBy w0 none := by rw [hw0]; exact grown_new _ _
  have b0 := heap_alloc_new w (.cells #[.int .i64 0, .int .i64 0, .slice none 0 0] 150)
  rw [← hw0] at b0
  have B0 := hide b0
  have OO := hide (ofone_any ⟨#[65, 100, 100]⟩ w0 (hl.more g0))
  rw [e1] at OO
  clear hl b0 e1
  go_enter Tryz.func105, Tryz.ntmps105
  go_wp2_with fail
  rw [← hw0]
  clear hw0
  refine OO.out.mono ?_
  rintro e v0 ⟨rfl, h0⟩
  go_wp2_with fail
  refine (takes_any _ _ _ [] _ (Or.inl ⟨rfl, rfl⟩) (by decide)).mono ?_
  rintro e w6 ⟨⟨a, n, c, rfl, ho, hat⟩, hg6⟩
  have hlt := (Array.getElem?_eq_some_iff.1 B0.out).1
  have hsk := h0.size
  have hne : (Value.slice a n c).ownBlock ≠ some w.heap.size := fun hh => by
    rcases hat _ hh with h | h
    · cases h
    · omega
  obtain ⟨b6, hX, hO, gX⟩ := rule_put (lo := 2) (hi := 2) g0 B0.out h0 (grown_refl _) hg6 (fun g e => by cases e) ho hne
  obtain ⟨r0, r1, r2, f0, f1, f2⟩ := rule_cells b6
  have HX := hide hX
  have HO := hide hO
  have GX := hide gX
  clear hX hO gX b6 ho hg6 hne hat hlt hsk
  go_wp2
  refine bodyPost_ret (ret_rule2 rfl _ _ w.heap.size rfl HX.out) rfl ?_
  exact ⟨⟨_, _, _, rfl, HO.out⟩, GX.out⟩

set_option maxRecDepth 100000 in
set_option maxHeartbeats 1600000 in
theorem rule_Cast (w : World) (hl : Laid w) :
    Calls Tryz.prog 105 #[.string ⟨#[67, 97, 115, 116]⟩] w fun e w' => Ruled (some (1, 1, [⟨⟨#[116, 111]⟩, 2, true⟩, thenRa])) w' e ∧ w.grownBy w' none := by
  have e1 : isOne ⟨#[67, 97, 115, 116]⟩ = false := by simp only [isOne, bytes_toList]; rfl
  obtain ⟨w0, hw0⟩ : ∃ w0, w0 = w.alloc (.cells #[.int .i64 0, .int .i64 0, .slice none 0 0] 150) := ⟨_, rfl⟩
  have g0 : w.grownBy w0 none := by rw [hw0]; exact grown_new _ _
  have b0 := heap_alloc_new w (.cells #[.int .i64 0, .int .i64 0, .slice none 0 0] 150)
  rw [← hw0] at b0
  have B0 := hide b0
  have OO := hide (ofone_any ⟨#[67, 97, 115, 116]⟩ w0 (hl.more g0))
  rw [e1] at OO
  clear hl b0 e1
  go_enter Tryz.func105, Tryz.ntmps105
  go_wp2_with fail
  rw [← hw0]
  clear hw0
  refine OO.out.mono ?_
  rintro e v0 ⟨rfl, h0⟩
  go_wp2_with fail
  refine (must_any _ _ _).mono ?_
  rintro e v1 ⟨rfl, h1'⟩
  have h1 := grown_trans h0 h1'
  go_wp2_with fail
  refine (takes_any _ _ _ [⟨⟨#[116, 111]⟩, 2, true⟩] _ (Or.inr ⟨_, _, rfl, heap_alloc_new _ _, rfl, rfl⟩) (by decide)).mono ?_
  rintro e w6 ⟨⟨a, n, c, rfl, ho, hat⟩, hg6⟩
  have hlt := (Array.getElem?_eq_some_iff.1 B0.out).1
  have hsk := h1.size
  have hne : (Value.slice a n c).ownBlock ≠ some w.heap.size := fun hh => by
    rcases hat _ hh with h | h
    · have : v1.heap.size = w.heap.size := by simpa [Value.ownBlock] using h
      omega
    · have : v1.heap.size + 1 ≤ w.heap.size := by simpa using h
      omega
  obtain ⟨b6, hX, hO, gX⟩ := rule_put (lo := 1) (hi := 1) g0 B0.out h1 (grown_new v1 (.cells #[.string ⟨#[116, 111]⟩, .int .i64 2, .bool true] 178)) hg6 (fun g e => by cases e; exact Nat.le_refl _) ho hne
  obtain ⟨r0, r1, r2, f0, f1, f2⟩ := rule_cells b6
  have HX := hide hX
  have HO := hide hO
  have GX := hide gX
  clear hX hO gX b6 ho hg6 hne hat hlt hsk
  go_wp2
  refine bodyPost_ret (ret_rule2 rfl _ _ w.heap.size rfl HX.out) rfl ?_
  exact ⟨⟨_, _, _, rfl, HO.out⟩, GX.out⟩

end Go.Proofs.YtaoplfpigjkgpaaGreatDoor
