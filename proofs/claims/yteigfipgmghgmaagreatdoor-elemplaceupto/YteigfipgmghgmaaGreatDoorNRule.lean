/- What an operator takes, by the walk. -/
import Derived.Test.YteigfipgmghgmaaGreatDoorNThen
namespace Go.Proofs.YteigfipgmghgmaaGreatDoor
open Go.RowKit

/-- An attribute that an operator has. -/
structure Ra where
  name : ByteArray
  kind : Int
  must : Bool

def rcells (r : Ra) : List Value := [.string r.name, .int .i64 r.kind, .bool r.must]

theorem rcells_len (r : Ra) : (rcells r).length = 3 := rfl

abbrev OwnsR (w : World) (base : Nat) (v : Value) (xs : List Ra) : Prop := OwnsL 161 3 rcells w base v xs

theorem infoRa : (Tryz.prog.info? 161).map (fun i => (i.zero, i.size, i.bytes)) = some (some (.agg #[.string ⟨#[]⟩, .int .i64 0, .bool false]), 3, 32) := by kernel_rfl

theorem raInfo : (Tryz.prog.info? 161).map (·.size) = some 3 := by kernel_rfl

theorem ret_ra {fn : Func} {p : Tmp} (h : fn.results = #[.cell p 161]) (tmps : Array Value) (w : World) (B : Nat) (hp : tmps.getD p undef = .pointer (some ⟨B, 0, none⟩)) {a b c : Value}
    (hb : w.heap[B]? = some (.cells #[a, b, c] 161 (0, 0))) : (results fn tmps).run Tryz.prog w = .ok (.agg #[a, b, c]) w :=
  results_cell_row h tmps w B 161 #[a, b, c] (0, 0) _ hp hb Tryz.underlying161 rfl (by rw [raInfo]; rfl)

set_option maxRecDepth 100000 in
set_option maxHeartbeats 1600000 in
theorem may_any (nm : ByteArray) (kd : Int) (w : World) :
    Calls Tryz.prog 137 #[.string nm, .int .i64 kd] w fun e w' => e = .returned (.agg #[.string nm, .int .i64 kd, .bool false]) ∧ w.grownBy w' none := by
  go_enter Tryz.func137, Tryz.ntmps137
  go_wp2
  refine bodyPost_ret (ret_ra rfl _ _ w.heap.size rfl (heap_alloc_new w _)) rfl ?_
  exact ⟨rfl, grown_new _ _⟩

set_option maxRecDepth 100000 in
set_option maxHeartbeats 1600000 in
theorem must_any (nm : ByteArray) (kd : Int) (w : World) :
    Calls Tryz.prog 138 #[.string nm, .int .i64 kd] w fun e w' => e = .returned (.agg #[.string nm, .int .i64 kd, .bool true]) ∧ w.grownBy w' none := by
  go_enter Tryz.func138, Tryz.ntmps138
  go_wp2
  refine bodyPost_ret (ret_ra rfl _ _ w.heap.size rfl (heap_alloc_new w _)) rfl ?_
  exact ⟨rfl, grown_new _ _⟩

def thenRa : Ra := ⟨⟨#[116, 104, 101, 110]⟩, 3, false⟩

theorem ruleInfo : (Tryz.prog.info? 134).map (·.size) = some 3 := by kernel_rfl

theorem ret_rule {fn : Func} {p : Tmp} (h : fn.results = #[.cell p 134]) (tmps : Array Value) (w : World) (B : Nat) (hp : tmps.getD p undef = .pointer (some ⟨B, 0, none⟩)) {a b c : Value}
    (hb : w.heap[B]? = some (.cells #[a, b, c] 134 (0, 0))) : (results fn tmps).run Tryz.prog w = .ok (.agg #[a, b, c]) w :=
  results_cell_row h tmps w B 134 #[a, b, c] (0, 0) _ hp hb Tryz.underlying134 rfl (by rw [ruleInfo]; rfl)

/-- An operator's list lies in a block of its own, just as long as it is. -/
def LitR (w : World) (v : Value) (xs : List Ra) : Prop := (xs = [] ∧ v = .slice none 0 0) ∨ ∃ g cur, v = .slice (some ⟨g, 0, none⟩) xs.length xs.length ∧ w.heap[g]? = some (.cells cur 161 (0, 0)) ∧ cur.toList = xs.flatMap rcells ∧ cur.size = xs.length * 3

theorem LitR.owns {w : World} {v : Value} {xs : List Ra} (h : LitR w v xs) (hl : xs.length ≤ 20) : OwnsR w 0 v xs := by
  rcases h with ⟨rfl, rfl⟩ | ⟨g, cur, rfl, hb, hc, hs⟩
  · exact OwnsL.nil _ _ _ _ _
  · refine ⟨flat_len rcells_len xs, Or.inr ⟨g, xs.length, cur, rfl, Nat.zero_le _, hb, Nat.le_refl _, by simp only [maxLen]; omega, hs, ?_⟩⟩
    rw [hc]
    exact List.take_of_length_le (by rw [flat_len rcells_len]; exact Nat.le_refl _)

theorem LitR.form {w : World} {v : Value} {xs : List Ra} (h : LitR w v xs) : ∃ a, v = .slice a xs.length xs.length := by
  rcases h with ⟨rfl, rfl⟩ | ⟨g, cur, rfl, _⟩
  · exact ⟨none, rfl⟩
  · exact ⟨_, rfl⟩

theorem LitR.alloc {w : World} {v : Value} {xs : List Ra} (h : LitR w v xs) {w' : World} (hg : w.grownBy w' none) : LitR w' v xs := by
  rcases h with h | ⟨g, cur, e, hb, r⟩
  · exact Or.inl h
  · exact Or.inr ⟨g, cur, e, box_kept hb hg, r⟩

/-- What takes answers. -/
def Taken (lo hi : Int) (xs : List Ra) (v : Value) (w w' : World) (e : Ending) : Prop :=
  ∃ a n c, e = .returned (.agg #[.int .i64 lo, .int .i64 hi, .slice a n c]) ∧ OwnsR w' 0 (.slice a n c) xs ∧ ∀ k, (Value.slice a n c).ownBlock = some k → v.ownBlock = some k ∨ w.heap.size ≤ k

theorem grown_row_box {a b c : World} {row : Option Nat} {B : Nat} (h : a.grownBy b row) (k : b.grownBy c (some B)) (hB : a.heap.size ≤ B) : a.grownBy c row :=
  ⟨k.os.trans h.os, k.tape.trans h.tape, k.output.trans h.output, Nat.le_trans h.size k.size, fun i hi hn => (k.block i (Nat.lt_of_lt_of_le hi h.size) (fun e => by cases e; omega)).trans (h.block i hi hn)⟩

theorem grown_none_row {a b c : World} {row : Option Nat} (h : a.grownBy b none) (k : b.grownBy c row) : a.grownBy c row :=
  ⟨k.os.trans h.os, k.tape.trans h.tape, k.output.trans h.output, Nat.le_trans h.size k.size, fun i hi hn => (k.block i (Nat.lt_of_lt_of_le hi h.size) hn).trans (h.block i hi (by simp))⟩

theorem store3r {w3 : World} {B : Nat} {z0 z1 z2 : Value} (a b c : Value) (hb : w3.heap[B]? = some (.cells #[z0, z1, z2] 134 (0, 0))) :
    (((w3.setCell ⟨B, 0, none⟩ a).setCell ⟨B, 1, none⟩ b).setCell ⟨B, 2, none⟩ c).heap[B]? = some (.cells #[a, b, c] 134 (0, 0)) ∧
    w3.grownBy (((w3.setCell ⟨B, 0, none⟩ a).setCell ⟨B, 1, none⟩ b).setCell ⟨B, 2, none⟩ c) (some B) := by
  have h1 := heap_setCell_same w3 B 0 _ _ a hb
  have h2 := heap_setCell_same _ B 1 _ _ b h1
  have h3 := heap_setCell_same _ B 2 _ _ c h2
  have g : ∀ (x : World) (j : Nat) (v : Value), x.grownBy (x.setCell ⟨B, j, none⟩ v) (some B) := fun x j v =>
    ⟨rfl, rfl, rfl, by simp [World.setCell], fun k _ hk => Below.heap_setCell _ _ _ _ (fun e => hk (by rw [e]))⟩
  exact ⟨by simpa using h3, grown_same (grown_same (g w3 0 a) (g _ 1 b)) (g _ 2 c)⟩

theorem rule_cells {w : World} {B : Nat} {a b c : Value} (hb : w.heap[B]? = some (.cells #[a, b, c] 134 (0, 0))) :
    w.cell? ⟨B, 0, none⟩ = some a ∧ w.cell? ⟨B, 1, none⟩ = some b ∧ w.cell? ⟨B, 2, none⟩ = some c ∧ w.frozen? ⟨B, 0, none⟩ = false ∧ w.frozen? ⟨B, 1, none⟩ = false ∧ w.frozen? ⟨B, 2, none⟩ = false :=
  ⟨(cell_of_row _ _ 0 _ _ (0, 0) hb).trans rfl, (cell_of_row _ _ 1 _ _ (0, 0) hb).trans rfl, (cell_of_row _ _ 2 _ _ (0, 0) hb).trans rfl, frozen_of_row w B 0 _ _ hb, frozen_of_row w B 1 _ _ hb, frozen_of_row w B 2 _ _ hb⟩

theorem LitR.lt {w : World} {v : Value} {xs : List Ra} (h : LitR w v xs) : ∀ k, v.ownBlock = some k → k < w.heap.size := by
  intro k hk
  rcases h with ⟨_, rfl⟩ | ⟨g, cur, rfl, hb, _⟩
  · cases hk
  · cases hk
    exact (Array.getElem?_eq_some_iff.1 hb).1

theorem own3_form {w : World} {base : Nat} {e : TypeId} {size : Nat} {v : Value} {n : Nat} {xs : List Value} (h : w.ownsRow base e size v n xs) : ∃ a c, v = .slice a n c := by
  rcases h.2 with ⟨rfl, rfl⟩ | ⟨g, cap, cur, rfl, _⟩
  · exact ⟨_, _, rfl⟩
  · exact ⟨_, _, rfl⟩

set_option maxRecDepth 100000 in
set_option maxHeartbeats 1600000 in
theorem takes_any (lo hi : Int) (v : Value) (xs : List Ra) (w : World) (hv : LitR w v xs) (hl : xs.length ≤ 20) :
    Calls Tryz.prog 136 #[.int .i64 lo, .int .i64 hi, v] w fun e w' => Taken lo hi (xs ++ [thenRa]) v w w' e ∧ w.grownBy w' v.ownBlock := by
  obtain ⟨i0, hi0, hz0, hz1, hz2⟩ := info_parts infoRa
  have HV := hide hv
  obtain ⟨va, rfl⟩ := hv.form
  obtain ⟨w0, hw0⟩ : ∃ w0, w0 = w.alloc (.cells #[.int .i64 0, .int .i64 0, .slice none 0 0] 134) := ⟨_, rfl⟩
  have g0 : w.grownBy w0 none := by rw [hw0]; exact grown_new _ _
  have b0 := heap_alloc_new w (.cells #[.int .i64 0, .int .i64 0, .slice none 0 0] 134)
  rw [← hw0] at b0
  have B0 := hide b0
  clear hv b0
  go_enter Tryz.func136, Tryz.ntmps136
  go_wp2_with fail
  rw [← hw0]
  clear hw0
  refine (may_any _ _ _).mono ?_
  rintro e w1 ⟨rfl, hg1⟩
  have g1 := grown_trans g0 hg1
  have L1 := hide ((HV.out.alloc g1).alloc (grown_new w1 (.cells #[.string ⟨#[116, 104, 101, 110]⟩, .int .i64 3, .bool false] 161)))
  have B1 := hide (box_kept (box_kept B0.out hg1) (grown_new w1 (.cells #[.string ⟨#[116, 104, 101, 110]⟩, .int .i64 3, .bool false] 161)))
  have LT := hide HV.out.lt
  go_wp2_with (at_builtin; refine wpList_append_lies _ rfl (.tmp 9) (.tmp 11) 132 rfl 0 161 i0 (.agg #[.string ⟨#[]⟩, .int .i64 0, .bool false]) 3 32 Tryz.underlying132 hi0 hz0 hz1 hz2 rfl (by decide) _ _ _ rfl (by exact L1.out.owns hl) ⟨w1.heap.size, 0, none⟩ 1 1 (rcells thenRa) rfl rfl (by exact World.news_of_block (heap_alloc_new w1 _)) (by simp [rcells, Value.oneCell']) (by omega) (by simp only [maxLen]; omega) (by omega) (Nat.zero_le _) (w1.heap.size + 1) (by simp) ?_; intro g nc w6 hown' hgrow hat _; have hne : g ≠ w.heap.size := (by rcases hat with h | h; (have := LT.out _ h; omega); (have := g1.size; omega)); have HAT := hide hat; have HNE := hide hne; clear hne hat; have B6 := hide ((hgrow.block w.heap.size (Array.getElem?_eq_some_iff.1 B1.out).1 (fun e => by have := LT.out _ e.symm; omega)).trans B1.out); obtain ⟨r0, r1, r2, f0, f1, f2⟩ := rule_cells B6.out; have HO6 := hide hown'; have HG6 := hide hgrow; clear hown' hgrow)
  obtain ⟨hX, gX⟩ := store3r (.int .i64 lo) (.int .i64 hi) (.slice (some ⟨g, 0, none⟩) (xs.length + 1) nc) B6.out
  have HX := hide hX
  have GX := hide gX
  clear hX gX
  go_wp2
  refine bodyPost_ret (ret_rule rfl _ _ w.heap.size rfl HX.out) rfl ?_
  refine ⟨⟨_, _, nc, rfl, ?_, fun k hk => ?_⟩, ?_⟩
  · have h := World.ownsRow.kept HO6.out GX.out (Or.inr (fun e => HNE.out (by cases e; rfl)))
    unfold OwnsR OwnsL
    rw [List.length_append, List.flatMap_append]
    simpa using h
  · cases hk
    rcases HAT.out with h | h
    · exact Or.inl h
    · exact Or.inr (by have := g1.size; show w.heap.size ≤ g; omega)
  · exact grown_row_box (grown_none_row (grown_trans g1 (grown_new _ _)) HG6.out) GX.out (Nat.le_refl _)
end Go.Proofs.YteigfipgmghgmaaGreatDoor
