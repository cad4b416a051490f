/- Joined texts: NRuleA, NIdx. -/
import Derived.Test.YtabddmiffcnnjaaGreatDoorQartAJ
namespace Go.Proofs.YtabddmiffcnnjaaGreatDoor

open Go.RowKit

def Ruled (r : Option (Int × Int × List Ra)) (w' : World) (e : Ending) : Prop := match r with
  | none => e = .returned (.tuple #[.agg #[.int .i64 0, .int .i64 0, .slice none 0 0], .bool false])
  | some (lo, hi, rs) => ∃ a n c, e = .returned (.tuple #[.agg #[.int .i64 lo, .int .i64 hi, .slice a n c], .bool true]) ∧ OwnsR w' 0 (.slice a n c) rs

theorem ret_rule2 {fn : Func} {p u : Tmp} (h : fn.results = #[.cell p 102, .tmp u]) (tmps : Array Value) (w : World) (B : Nat) (hp : tmps.getD p undef = .pointer (some ⟨B, 0, none⟩)) {a b c : Value}
    (hb : w.heap[B]? = some (.cells #[a, b, c] 102 (0, 0))) : (results fn tmps).run Tryz.prog w = .ok (.tuple #[.agg #[a, b, c], tmps.getD u undef]) w := by
  have hl := run_loadVar_row (P := Tryz.prog) w B _ 102 #[a, b, c] (0, 0) _ hb Tryz.underlying102 rfl (by rw [ruleInfo]; rfl)
  rw [results_cell_tmp h, hp]
  simp [asAddr, hl, Result.andThen]

theorem rule_put {w w0 w1 wx w6 : World} {row : Option Nat} {lo hi : Int} {a : Option Addr} {n c : Nat} {rs : List Ra} (hg0 : w.grownBy w0 none) (hb : w0.heap[w.heap.size]? = some (.cells #[.int .i64 0, .int .i64 0, .slice none 0 0] 102 (0, 0)))
    (hg1 : w0.grownBy w1 none) (hgx : w1.grownBy wx none) (hg6 : wx.grownBy w6 row) (hrow : ∀ g, row = some g → w1.heap.size ≤ g) (ho : OwnsR w6 0 (.slice a n c) rs) (hne : (Value.slice a n c).ownBlock ≠ some w.heap.size) :
    w6.heap[w.heap.size]? = some (.cells #[.int .i64 0, .int .i64 0, .slice none 0 0] 102 (0, 0)) ∧
    (((w6.setCell ⟨w.heap.size, 0, none⟩ (.int .i64 lo)).setCell ⟨w.heap.size, 1, none⟩ (.int .i64 hi)).setCell ⟨w.heap.size, 2, none⟩ (.slice a n c)).heap[w.heap.size]? = some (.cells #[.int .i64 lo, .int .i64 hi, .slice a n c] 102 (0, 0)) ∧
    OwnsR (((w6.setCell ⟨w.heap.size, 0, none⟩ (.int .i64 lo)).setCell ⟨w.heap.size, 1, none⟩ (.int .i64 hi)).setCell ⟨w.heap.size, 2, none⟩ (.slice a n c)) 0 (.slice a n c) rs ∧
    w.grownBy (((w6.setCell ⟨w.heap.size, 0, none⟩ (.int .i64 lo)).setCell ⟨w.heap.size, 1, none⟩ (.int .i64 hi)).setCell ⟨w.heap.size, 2, none⟩ (.slice a n c)) none := by
  have hlt := (Array.getElem?_eq_some_iff.1 hb).1
  have b1 := box_kept (box_kept hb hg1) hgx
  have s1 := hg1.size
  have b6 : w6.heap[w.heap.size]? = some (.cells #[.int .i64 0, .int .i64 0, .slice none 0 0] 102 (0, 0)) := (hg6.block _ (Array.getElem?_eq_some_iff.1 b1).1 (fun e => by have := hrow _ e.symm; omega)).trans b1
  obtain ⟨hX, gX⟩ := store3r (.int .i64 lo) (.int .i64 hi) (.slice a n c) b6
  refine ⟨b6, hX, World.ownsRow.kept ho gX (Or.inr hne), ?_⟩
  have g6 : w.grownBy w6 none := grown_trans_row (grown_trans (grown_trans hg0 hg1) hgx) hg6 (fun g e => by have := hrow g e; have := (grown_trans hg0 hg1).size; omega)
  exact grown_row_box g6 gX (Nat.le_refl _)

set_option maxRecDepth 100000 in
set_option maxHeartbeats 1600000 in
theorem rule_Relu (w : World) (hl : Laid w) :
    Calls Tryz.prog 58 #[.string ⟨#[82, 101, 108, 117]⟩] w fun e w' => Ruled (some (1, 1, [thenRa])) w' e ∧ w.grownBy w' none := by
  have e1 : isOne ⟨#[82, 101, 108, 117]⟩ = true := by simp only [isOne, bytes_toList]; rfl
  obtain ⟨w0, hw0⟩ : ∃ w0, w0 = w.alloc (.cells #[.int .i64 0, .int .i64 0, .slice none 0 0] 102) := ⟨_, rfl⟩
  have g0 : w.grownBy w0 none := by rw [hw0]; exact grown_new _ _
  have b0 := heap_alloc_new w (.cells #[.int .i64 0, .int .i64 0, .slice none 0 0] 102)
  rw [← hw0] at b0
  have B0 := hide b0
  have OO := hide (ofone_any ⟨#[82, 101, 108, 117]⟩ w0 (hl.more g0))
  rw [e1] at OO
  clear hl b0 e1
  go_enter Tryz.func58, Tryz.ntmps58
  go_wp2_with fail
  rw [← hw0]
  clear hw0
  refine OO.out.mono ?_
  rintro e v0 ⟨rfl, h0⟩
  go_wp2_with fail
  refine (takes_any _ _ _ [] _ (Or.inl ⟨rfl, rfl⟩) (by decide)).mono ?_
  rintro e w6 ⟨⟨a, n, c, rfl, ho, hat⟩, hg6⟩
  have hlt := (Array.getElem?_eq_some_iff.1 B0.out).1
  have hsk := h0.size
  have hne : (Value.slice a n c).ownBlock ≠ some w.heap.size := fun hh => by
    rcases hat _ hh with h | h
    · cases h
    · omega
  obtain ⟨b6, hX, hO, gX⟩ := rule_put (lo := 1) (hi := 1) g0 B0.out h0 (grown_refl _) hg6 (fun g e => by cases e) ho hne
  obtain ⟨r0, r1, r2, f0, f1, f2⟩ := rule_cells b6
  have HX := hide hX
  have HO := hide hO
  have GX := hide gX
  clear hX hO gX b6 ho hg6 hne hat hlt hsk
  go_wp2
  refine bodyPost_ret (ret_rule2 rfl _ _ w.heap.size rfl HX.out) rfl ?_
  exact ⟨⟨_, _, _, rfl, HO.out⟩, GX.out⟩

set_option maxRecDepth 100000 in
set_option maxHeartbeats 1600000 in
theorem rule_Add (w : World) (hl : Laid w) :
    Calls Tryz.prog 58 #[.string ⟨#[65, 100, 100]⟩] w fun e w' => Ruled (some (2, 2, [thenRa])) w' e ∧ w.grownBy w' none := by
  have e1 : isOne ⟨#[65, 100, 100]⟩ = false := by simp only [isOne, bytes_toList]; rfl
  obtain ⟨w0, hw0⟩ : ∃ w0, w0 = w.alloc (.cells #[.int .i64 0, .int .i64 0, .slice none 0 0] 102) := ⟨_, rfl⟩
  have g0 : w.grownBy w0 none := by rw [hw0]; exact grown_new _ _
  have b0 := heap_alloc_new w (.cells #[.int .i64 0, .int .i64 0, .slice none 0 0] 102)
  rw [← hw0] at b0
  have B0 := hide b0
  have OO := hide (ofone_any ⟨#[65, 100, 100]⟩ w0 (hl.more g0))
  rw [e1] at OO
  clear hl b0 e1
  go_enter Tryz.func58, Tryz.ntmps58
  go_wp2_with fail
  rw [← hw0]
  clear hw0
  refine OO.out.mono ?_
  rintro e v0 ⟨rfl, h0⟩
  go_wp2_with fail
  refine (takes_any _ _ _ [] _ (Or.inl ⟨rfl, rfl⟩) (by decide)).mono ?_
  rintro e w6 ⟨⟨a, n, c, rfl, ho, hat⟩, hg6⟩
  have hlt := (Array.getElem?_eq_some_iff.1 B0.out).1
  have hsk := h0.size
  have hne : (Value.slice a n c).ownBlock ≠ some w.heap.size := fun hh => by
    rcases hat _ hh with h | h
    · cases h
    · omega
  obtain ⟨b6, hX, hO, gX⟩ := rule_put (lo := 2) (hi := 2) g0 B0.out h0 (grown_refl _) hg6 (fun g e => by cases e) ho hne
  obtain ⟨r0, r1, r2, f0, f1, f2⟩ := rule_cells b6
  have HX := hide hX
  have HO := hide hO
  have GX := hide gX
  clear hX hO gX b6 ho hg6 hne hat hlt hsk
  go_wp2
  refine bodyPost_ret (ret_rule2 rfl _ _ w.heap.size rfl HX.out) rfl ?_
  exact ⟨⟨_, _, _, rfl, HO.out⟩, GX.out⟩

set_option maxRecDepth 100000 in
set_option maxHeartbeats 1600000 in
theorem rule_Cast (w : World) (hl : Laid w) :
    Calls Tryz.prog 58 #[.string ⟨#[67, 97, 115, 116]⟩] w fun e w' => Ruled (some (1, 1, [⟨⟨#[116, 111]⟩, 2, true⟩, thenRa])) w' e ∧ w.grownBy w' none := by
  have e1 : isOne ⟨#[67, 97, 115, 116]⟩ = false := by simp only [isOne, bytes_toList]; rfl
  obtain ⟨w0, hw0⟩ : ∃ w0, w0 = w.alloc (.cells #[.int .i64 0, .int .i64 0, .slice none 0 0] 102) := ⟨_, rfl⟩
  have g0 : w.grownBy w0 none := by rw [hw0]; exact grown_new _ _
  have b0 := heap_alloc_new w (.cells #[.int .i64 0, .int .i64 0, .slice none 0 0] 102)
  rw [← hw0] at b0
  have B0 := hide b0
  have OO := hide (ofone_any ⟨#[67, 97, 115, 116]⟩ w0 (hl.more g0))
  rw [e1] at OO
  clear hl b0 e1
  go_enter Tryz.func58, Tryz.ntmps58
  go_wp2_with fail
  rw [← hw0]
  clear hw0
  refine OO.out.mono ?_
  rintro e v0 ⟨rfl, h0⟩
  go_wp2_with fail
  refine (must_any _ _ _).mono ?_
  rintro e v1 ⟨rfl, h1'⟩
  have h1 := grown_trans h0 h1'
  go_wp2_with fail
  refine (takes_any _ _ _ [⟨⟨#[116, 111]⟩, 2, true⟩] _ (Or.inr ⟨_, _, rfl, heap_alloc_new _ _, rfl, rfl⟩) (by decide)).mono ?_
  rintro e w6 ⟨⟨a, n, c, rfl, ho, hat⟩, hg6⟩
  have hlt := (Array.getElem?_eq_some_iff.1 B0.out).1
  have hsk := h1.size
  have hne : (Value.slice a n c).ownBlock ≠ some w.heap.size := fun hh => by
    rcases hat _ hh with h | h
    · have : v1.heap.size = w.heap.size := by simpa [Value.ownBlock] using h
      omega
    · have : v1.heap.size + 1 ≤ w.heap.size := by simpa using h
      omega
  obtain ⟨b6, hX, hO, gX⟩ := rule_put (lo := 1) (hi := 1) g0 B0.out h1 (grown_new v1 (.cells #[.string ⟨#[116, 111]⟩, .int .i64 2, .bool true] 135)) hg6 (fun g e => by cases e; exact Nat.le_refl _) ho hne
  obtain ⟨r0, r1, r2, f0, f1, f2⟩ := rule_cells b6
  have HX := hide hX
  have HO := hide hO
  have GX := hide gX
  clear hX hO gX b6 ho hg6 hne hat hlt hsk
  go_wp2
  refine bodyPost_ret (ret_rule2 rfl _ _ w.heap.size rfl HX.out) rfl ?_
  exact ⟨⟨_, _, _, rfl, HO.out⟩, GX.out⟩

end Go.Proofs.YtabddmiffcnnjaaGreatDoor

namespace Go.Proofs.YtabddmiffcnnjaaGreatDoor

open Go.RowKit

abbrev IsStrs (w : World) (v : Value) (xs : List ByteArray) : Prop := IsL 16 1 scell w v xs

def isS (x : ByteArray) (y : ByteArray) : Bool := x.toList == y.toList

theorem str_at {w : World} {b off len cap : Nat} {xs : List ByteArray} (h : IsL 16 1 scell w (.slice (some ⟨b, off, none⟩) len cap) xs) (k : Nat) (hk : k < xs.length) : w.cell? ⟨b, off + k, none⟩ = some (.string xs[k]) := by
  have := h.at k hk 0 (by omega)
  simpa using this

set_option maxRecDepth 100000 in
set_option maxHeartbeats 1600000 in
theorem index_str (v : Value) (xs : List ByteArray) (x : ByteArray) (w : World) (hv : IsStrs w v xs) :
    Calls Tryz.prog 106 #[v, .string x] w fun e w' => e = .returned (.int .i64 (place (isS x) xs 0)) ∧ w.grownBy w' none := by
  have HV := hide hv
  obtain ⟨ao, cap, rfl, h1, h2, h3⟩ := hv.form
  clear hv
  go_enter Tryz.func106, Tryz.ntmps106
  go_wp2_with fail
  go_loopw [8] (fun i wr => w.grownBy wr none ∧ ∃ k : Nat, k ≤ xs.length ∧ i = .int .i64 k ∧ place (isS x) xs 0 = place (isS x) (xs.drop k) k) (fun i _ => xs.length - (intOf i).toNat)
  case atStart => exact ⟨grown_refl _, 0, Nat.zero_le _, rfl, rfl⟩
  case round =>
    obtain ⟨hg, k, hk, rfl, hpl⟩ := hrel
    have HPL := hide hpl
    clear hpl
    by_cases hlt : k < xs.length
    · have HVk := HV.out.more hg
      obtain ⟨b, off, rfl⟩ := HVk.addr hlt
      have a0 := str_at HVk k hlt
      clear HVk
      by_cases ht : (x.toList == xs[k].toList) = true
      · have HT := hide ht
        go_wp2
        go_ret
        exact ⟨by rw [HPL.out, place_at hlt HT.out]; rfl, hg⟩
      · have ht' : (x.toList == xs[k].toList) = false := by simpa using ht
        have HT := hide ht'
        clear ht
        go_wp2
        go_roundw
        case rel => exact ⟨hg, k + 1, by omega, by go_num, by rw [HPL.out, place_past hlt HT.out]⟩
        case measure => simp [intOf]; omega
    · obtain rfl : k = xs.length := by omega
      go_wp2
      go_ret
      exact ⟨by rw [HPL.out, List.drop_of_length_le (Nat.le_refl _)]; rfl, hg⟩

theorem place_ge {α : Type} (P : α → Bool) (xs : List α) : decide (0 ≤ place P xs 0) = xs.any P := by
  rcases place_cases P xs 0 with ⟨e1, e2⟩ | ⟨j, hj, e1, e2⟩
  · rw [e1]
    have h : xs.any P = false := by
      rw [Bool.eq_false_iff]
      intro h
      obtain ⟨x, hx, hp⟩ := List.any_eq_true.1 h
      exact absurd hp (by simpa using List.find?_eq_none.1 e2 x hx)
    rw [h]
    rfl
  · rw [e1]
    have h : xs.any P = true := List.any_eq_true.2 ⟨xs[j], List.getElem_mem hj, List.find?_some e2⟩
    rw [h]
    simp

set_option maxRecDepth 100000 in
set_option maxHeartbeats 1600000 in
theorem contains_str (v : Value) (xs : List ByteArray) (x : ByteArray) (w : World) (hv : IsStrs w v xs) :
    Calls Tryz.prog 59 #[v, .string x] w fun e w' => e = .returned (.bool (xs.any (isS x))) ∧ w.grownBy w' none := by
  have IX := hide (index_str v xs x w hv)
  have HP := hide (place_ge (isS x) xs)
  clear hv
  go_enter Tryz.func59, Tryz.ntmps59
  go_wp2_with fail
  refine IX.out.mono ?_
  rintro e w1 ⟨rfl, hg⟩
  go_wp2
  go_ret
  exact ⟨by rw [← HP.out]; rfl, hg⟩

def sameR (nm : ByteArray) (r : Ra) : Bool := r.name.toList == nm.toList

def aheadA (nm : ByteArray) (b : Atr) : Bool := b.name.toList == nm.toList

theorem ra_cells {w : World} {B : Nat} {r : Ra} (hb : w.heap[B]? = some (.cells #[.string r.name, .int .i64 r.kind, .bool r.must] 135 (0, 0))) :
    w.cell? ⟨B, 0, none⟩ = some (.string r.name) ∧ w.cell? ⟨B, 1, none⟩ = some (.int .i64 r.kind) ∧ w.cell? ⟨B, 2, none⟩ = some (.bool r.must) :=
  ⟨(cell_of_row _ _ 0 _ _ (0, 0) hb).trans rfl, (cell_of_row _ _ 1 _ _ (0, 0) hb).trans rfl, (cell_of_row _ _ 2 _ _ (0, 0) hb).trans rfl⟩

set_option maxRecDepth 100000 in
set_option maxHeartbeats 1600000 in
theorem same1_any (r : Ra) (p : Nat) (nm : ByteArray) (w : World) (hp : w.cell? ⟨p, 0, none⟩ = some (.string nm)) :
    Calls Tryz.prog 107 #[.agg #[.string r.name, .int .i64 r.kind, .bool r.must], .pointer (some ⟨p, 0, none⟩)] w fun e w' => e = .returned (.bool (sameR nm r)) ∧ w.grownBy w' none := by
  have g0 := grown_new w (.cells #[.string r.name, .int .i64 r.kind, .bool r.must] 135)
  obtain ⟨c0, -⟩ := ra_cells (heap_alloc_new w (.cells #[.string r.name, .int .i64 r.kind, .bool r.must] 135))
  have cp : (w.alloc (.cells #[.string r.name, .int .i64 r.kind, .bool r.must] 135)).cell? ⟨p, 0, none⟩ = some (.string nm) := by
    rw [← hp]; exact World.cell?_of_block (g0.block p (World.block_lt_of_cell? w _ hp) (by simp))
  have G0 := hide g0
  clear hp g0
  go_enter Tryz.func107, Tryz.ntmps107
  go_wp2
  go_ret
  exact ⟨rfl, G0.out⟩

set_option maxRecDepth 100000 in
set_option maxHeartbeats 1600000 in
theorem ahead_any (a : Atr) (p : Nat) (nm : ByteArray) (w : World) (hp : w.cell? ⟨p, 0, none⟩ = some (.string nm)) :
    Calls Tryz.prog 109 #[aval a, .pointer (some ⟨p, 0, none⟩)] w fun e w' => e = .returned (.bool (aheadA nm a)) ∧ w.grownBy w' none := by
  have g0 := grown_new w (.cells #[.string a.name, .int .i64 a.kind, .int .i64 a.f, .int .i64 a.i, .string a.s, .int .i64 a.ty, .slice a.dv.a a.dv.n a.dv.c, .slice a.tv.a a.tv.n a.tv.c, .slice a.iv.a a.iv.n a.iv.c] 65)
  obtain ⟨c0, -⟩ := atr_cells (heap_alloc_new w (.cells #[.string a.name, .int .i64 a.kind, .int .i64 a.f, .int .i64 a.i, .string a.s, .int .i64 a.ty, .slice a.dv.a a.dv.n a.dv.c, .slice a.tv.a a.tv.n a.tv.c, .slice a.iv.a a.iv.n a.iv.c] 65))
  have cp : (w.alloc (.cells #[.string a.name, .int .i64 a.kind, .int .i64 a.f, .int .i64 a.i, .string a.s, .int .i64 a.ty, .slice a.dv.a a.dv.n a.dv.c, .slice a.tv.a a.tv.n a.tv.c, .slice a.iv.a a.iv.n a.iv.c] 65)).cell? ⟨p, 0, none⟩ = some (.string nm) := by
    rw [← hp]; exact World.cell?_of_block (g0.block p (World.block_lt_of_cell? w _ hp) (by simp))
  have G0 := hide g0
  clear hp g0
  unfold aval
  go_enter Tryz.func109, Tryz.ntmps109
  go_wp2
  go_ret
  exact ⟨rfl, G0.out⟩

theorem cell_more {w w' : World} {a : Addr} {x : Value} (h : w.cell? a = some x) (hg : w.grownBy w' none) : w'.cell? a = some x :=
  (World.cell?_of_block (hg.block a.block (World.block_lt_of_cell? w _ h) (by simp))).trans h

abbrev IsRas (w : World) (v : Value) (xs : List Ra) : Prop := IsL 32 3 rcells w v xs

theorem IsL.ra {w : World} {b off len cap : Nat} {xs : List Ra} (h : IsL 32 3 rcells w (.slice (some ⟨b, off, none⟩) len cap) xs) (k : Nat) (hk : k < xs.length) :
    w.cell? ⟨b, off + k * 3, none⟩ = some (.string xs[k].name) ∧ w.cell? ⟨b, off + k * 3 + 1, none⟩ = some (.int .i64 xs[k].kind) ∧ w.cell? ⟨b, off + k * 3 + 2, none⟩ = some (.bool xs[k].must) := by
  have f := fun j hj => h.at k hk j hj
  exact ⟨f 0 (by omega), f 1 (by omega), f 2 (by omega)⟩

set_option maxRecDepth 100000 in
set_option maxHeartbeats 1600000 in
theorem index_ra (v : Value) (xs : List Ra) (p : Nat) (nm : ByteArray) (w : World) (hv : IsRas w v xs) (hp : w.cell? ⟨p, 0, none⟩ = some (.string nm)) :
    Calls Tryz.prog 108 #[v, .func (.func 107) #[] #[.pointer (some ⟨p, 0, none⟩)]] w fun e w' => e = .returned (.int .i64 (place (sameR nm) xs 0)) ∧ w.grownBy w' none := by
  have HV := hide hv
  obtain ⟨ao, cap, rfl, h1, h2, h3⟩ := hv.form
  have HP := hide hp
  clear hv hp
  go_enter Tryz.func108, Tryz.ntmps108
  go_wp2_with fail
  go_loopw [8] (fun i wr => w.grownBy wr none ∧ ∃ k : Nat, k ≤ xs.length ∧ i = .int .i64 k ∧ place (sameR nm) xs 0 = place (sameR nm) (xs.drop k) k) (fun i _ => xs.length - (intOf i).toNat)
  case atStart => exact ⟨grown_refl _, 0, Nat.zero_le _, rfl, rfl⟩
  case round =>
    obtain ⟨hg, k, hk, rfl, hpl⟩ := hrel
    have HPL := hide hpl
    clear hpl
    by_cases hlt : k < xs.length
    · have HVk := HV.out.more hg
      obtain ⟨b, off, rfl⟩ := HVk.addr hlt
      obtain ⟨a0, a1, a2⟩ := HVk.ra k hlt
      have NA := hide (fun (wx : World) (hx : w.grownBy wx none) => same1_any xs[k] p nm wx (cell_more HP.out hx))
      clear HVk
      go_wp2_with fail
      refine (NA.out wr hg).mono ?_
      rintro e w1 ⟨rfl, hg1⟩
      have g1 := grown_trans hg hg1
      cases ht : sameR nm xs[k] with
      | true =>
        have HT := hide ht
        clear ht
        go_wp2
        go_ret
        exact ⟨by rw [HPL.out, place_at hlt HT.out]; rfl, g1⟩
      | false =>
        have HT := hide ht
        clear ht
        go_wp2
        go_roundw
        case rel => exact ⟨g1, k + 1, by omega, by go_num, by rw [HPL.out, place_past hlt HT.out]⟩
        case measure => simp [intOf]; omega
    · obtain rfl : k = xs.length := by omega
      go_wp2
      go_ret
      exact ⟨by rw [HPL.out, List.drop_of_length_le (Nat.le_refl _)]; rfl, hg⟩

set_option maxRecDepth 100000 in
set_option maxHeartbeats 1600000 in
theorem index_ahead (v : Value) (xs : List Atr) (p : Nat) (nm : ByteArray) (w : World) (hv : IsAttrs w v xs) (hp : w.cell? ⟨p, 0, none⟩ = some (.string nm)) :
    Calls Tryz.prog 90 #[v, .func (.func 109) #[] #[.pointer (some ⟨p, 0, none⟩)]] w fun e w' => e = .returned (.int .i64 (place (aheadA nm) xs 0)) ∧ w.grownBy w' none := by
  have HV := hide hv
  obtain ⟨ao, cap, rfl, h1, h2, h3⟩ := hv.form
  have HP := hide hp
  clear hv hp
  go_enter Tryz.func90, Tryz.ntmps90
  go_wp2_with fail
  go_loopw [8] (fun i wr => w.grownBy wr none ∧ ∃ k : Nat, k ≤ xs.length ∧ i = .int .i64 k ∧ place (aheadA nm) xs 0 = place (aheadA nm) (xs.drop k) k) (fun i _ => xs.length - (intOf i).toNat)
  case atStart => exact ⟨grown_refl _, 0, Nat.zero_le _, rfl, rfl⟩
  case round =>
    obtain ⟨hg, k, hk, rfl, hpl⟩ := hrel
    have HPL := hide hpl
    clear hpl
    by_cases hlt : k < xs.length
    · have HVk := HV.out.more hg
      obtain ⟨b, off, rfl⟩ := HVk.addr hlt
      obtain ⟨a0, a1, a2, a3, a4, a5, a6, a7, a8⟩ := HVk.attr k hlt
      have NA := hide (fun (wx : World) (hx : w.grownBy wx none) => ahead_any xs[k] p nm wx (cell_more HP.out hx))
      clear HVk
      go_wp2_with fail
      refine (NA.out wr hg).mono ?_
      rintro e w1 ⟨rfl, hg1⟩
      have g1 := grown_trans hg hg1
      cases ht : aheadA nm xs[k] with
      | true =>
        have HT := hide ht
        clear ht
        go_wp2
        go_ret
        exact ⟨by rw [HPL.out, place_at hlt HT.out]; rfl, g1⟩
      | false =>
        have HT := hide ht
        clear ht
        go_wp2
        go_roundw
        case rel => exact ⟨g1, k + 1, by omega, by go_num, by rw [HPL.out, place_past hlt HT.out]⟩
        case measure => simp [intOf]; omega
    · obtain rfl : k = xs.length := by omega
      go_wp2
      go_ret
      exact ⟨by rw [HPL.out, List.drop_of_length_le (Nat.le_refl _)]; rfl, hg⟩

set_option maxRecDepth 100000 in
set_option maxHeartbeats 1600000 in
theorem contains_ahead (v : Value) (xs : List Atr) (p : Nat) (nm : ByteArray) (w : World) (hv : IsAttrs w v xs) (hp : w.cell? ⟨p, 0, none⟩ = some (.string nm)) :
    Calls Tryz.prog 110 #[v, .func (.func 109) #[] #[.pointer (some ⟨p, 0, none⟩)]] w fun e w' => e = .returned (.bool (xs.any (aheadA nm))) ∧ w.grownBy w' none := by
  have IX := hide (index_ahead v xs p nm w hv hp)
  have HP := hide (place_ge (aheadA nm) xs)
  clear hv hp
  go_enter Tryz.func110, Tryz.ntmps110
  go_wp2_with fail
  refine IX.out.mono ?_
  rintro e w1 ⟨rfl, hg⟩
  go_wp2
  go_ret
  exact ⟨by rw [← HP.out]; rfl, hg⟩

end Go.Proofs.YtabddmiffcnnjaaGreatDoor
