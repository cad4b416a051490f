/- Looking for names among names, attributes and what an operator has, by the walk. -/
import Derived.Test.YteigfipgmghgmaaGreatDoorNRuleA
namespace Go.Proofs.YteigfipgmghgmaaGreatDoor
open Go.RowKit

abbrev IsStrs (w : World) (v : Value) (xs : List ByteArray) : Prop := IsL 16 1 scell w v xs

def isS (x : ByteArray) (y : ByteArray) : Bool := x.toList == y.toList

theorem str_at {w : World} {b off len cap : Nat} {xs : List ByteArray} (h : IsL 16 1 scell w (.slice (some ⟨b, off, none⟩) len cap) xs) (k : Nat) (hk : k < xs.length) : w.cell? ⟨b, off + k, none⟩ = some (.string xs[k]) := by
  have := h.at k hk 0 (by omega)
  simpa using this

set_option maxRecDepth 100000 in
set_option maxHeartbeats 1600000 in
theorem index_str (v : Value) (xs : List ByteArray) (x : ByteArray) (w : World) (hv : IsStrs w v xs) :
    Calls Tryz.prog 139 #[v, .string x] w fun e w' => e = .returned (.int .i64 (place (isS x) xs 0)) ∧ w.grownBy w' none := by
  have HV := hide hv
  obtain ⟨ao, cap, rfl, h1, h2, h3⟩ := hv.form
  clear hv
  go_enter Tryz.func139, Tryz.ntmps139
  go_wp2_with fail
  go_loopw [8] (fun i wr => w.grownBy wr none ∧ ∃ k : Nat, k ≤ xs.length ∧ i = .int .i64 k ∧ place (isS x) xs 0 = place (isS x) (xs.drop k) k) (fun i _ => xs.length - (intOf i).toNat)
  case atStart => exact ⟨grown_refl _, 0, Nat.zero_le _, rfl, rfl⟩
  case round =>
    obtain ⟨hg, k, hk, rfl, hpl⟩ := hrel
    have HPL := hide hpl
    clear hpl
    by_cases hlt : k < xs.length
    · have HVk := HV.out.more hg
      obtain ⟨b, off, rfl⟩ := HVk.addr hlt
      have a0 := str_at HVk k hlt
      clear HVk
      by_cases ht : (x.toList == xs[k].toList) = true
      · have HT := hide ht
        go_wp2
        go_ret
        exact ⟨by rw [HPL.out, place_at hlt HT.out]; rfl, hg⟩
      · have ht' : (x.toList == xs[k].toList) = false := by simpa using ht
        have HT := hide ht'
        clear ht
        go_wp2
        go_roundw
        case rel => exact ⟨hg, k + 1, by omega, by go_num, by rw [HPL.out, place_past hlt HT.out]⟩
        case measure => simp [intOf]; omega
    · obtain rfl : k = xs.length := by omega
      go_wp2
      go_ret
      exact ⟨by rw [HPL.out, List.drop_of_length_le (Nat.le_refl _)]; rfl, hg⟩

theorem place_ge {α : Type} (P : α → Bool) (xs : List α) : decide (0 ≤ place P xs 0) = xs.any P := by
  rcases place_cases P xs 0 with ⟨e1, e2⟩ | ⟨j, hj, e1, e2⟩
  · rw [e1]
    have h : xs.any P = false := by
      rw [Bool.eq_false_iff]
      intro h
      obtain ⟨x, hx, hp⟩ := List.any_eq_true.1 h
      exact absurd hp (by simpa using List.find?_eq_none.1 e2 x hx)
    rw [h]
    rfl
  · rw [e1]
    have h : xs.any P = true := List.any_eq_true.2 ⟨xs[j], List.getElem_mem hj, List.find?_some e2⟩
    rw [h]
    simp

set_option maxRecDepth 100000 in
set_option maxHeartbeats 1600000 in
theorem contains_str (v : Value) (xs : List ByteArray) (x : ByteArray) (w : World) (hv : IsStrs w v xs) :
    Calls Tryz.prog 99 #[v, .string x] w fun e w' => e = .returned (.bool (xs.any (isS x))) ∧ w.grownBy w' none := by
  have IX := hide (index_str v xs x w hv)
  have HP := hide (place_ge (isS x) xs)
  clear hv
  go_enter Tryz.func99, Tryz.ntmps99
  go_wp2_with fail
  refine IX.out.mono ?_
  rintro e w1 ⟨rfl, hg⟩
  go_wp2
  go_ret
  exact ⟨by rw [← HP.out]; rfl, hg⟩

def sameR (nm : ByteArray) (r : Ra) : Bool := r.name.toList == nm.toList

def aheadA (nm : ByteArray) (b : Atr) : Bool := b.name.toList == nm.toList

theorem ra_cells {w : World} {B : Nat} {r : Ra} (hb : w.heap[B]? = some (.cells #[.string r.name, .int .i64 r.kind, .bool r.must] 161 (0, 0))) :
    w.cell? ⟨B, 0, none⟩ = some (.string r.name) ∧ w.cell? ⟨B, 1, none⟩ = some (.int .i64 r.kind) ∧ w.cell? ⟨B, 2, none⟩ = some (.bool r.must) :=
  ⟨(cell_of_row _ _ 0 _ _ (0, 0) hb).trans rfl, (cell_of_row _ _ 1 _ _ (0, 0) hb).trans rfl, (cell_of_row _ _ 2 _ _ (0, 0) hb).trans rfl⟩

set_option maxRecDepth 100000 in
set_option maxHeartbeats 1600000 in
theorem same1_any (r : Ra) (p : Nat) (nm : ByteArray) (w : World) (hp : w.cell? ⟨p, 0, none⟩ = some (.string nm)) :
    Calls Tryz.prog 140 #[.agg #[.string r.name, .int .i64 r.kind, .bool r.must], .pointer (some ⟨p, 0, none⟩)] w fun e w' => e = .returned (.bool (sameR nm r)) ∧ w.grownBy w' none := by
  have g0 := grown_new w (.cells #[.string r.name, .int .i64 r.kind, .bool r.must] 161)
  obtain ⟨c0, -⟩ := ra_cells (heap_alloc_new w (.cells #[.string r.name, .int .i64 r.kind, .bool r.must] 161))
  have cp : (w.alloc (.cells #[.string r.name, .int .i64 r.kind, .bool r.must] 161)).cell? ⟨p, 0, none⟩ = some (.string nm) := by
    rw [← hp]; exact World.cell?_of_block (g0.block p (World.block_lt_of_cell? w _ hp) (by simp))
  have G0 := hide g0
  clear hp g0
  go_enter Tryz.func140, Tryz.ntmps140
  go_wp2
  go_ret
  exact ⟨rfl, G0.out⟩

set_option maxRecDepth 100000 in
set_option maxHeartbeats 1600000 in
theorem ahead_any (a : Atr) (p : Nat) (nm : ByteArray) (w : World) (hp : w.cell? ⟨p, 0, none⟩ = some (.string nm)) :
    Calls Tryz.prog 142 #[aval a, .pointer (some ⟨p, 0, none⟩)] w fun e w' => e = .returned (.bool (aheadA nm a)) ∧ w.grownBy w' none := by
  have g0 := grown_new w (.cells #[.string a.name, .int .i64 a.kind, .int .i64 a.f, .int .i64 a.i, .string a.s, .int .i64 a.ty, .slice a.dv.a a.dv.n a.dv.c, .slice a.tv.a a.tv.n a.tv.c, .slice a.iv.a a.iv.n a.iv.c] 92)
  obtain ⟨c0, -⟩ := atr_cells (heap_alloc_new w (.cells #[.string a.name, .int .i64 a.kind, .int .i64 a.f, .int .i64 a.i, .string a.s, .int .i64 a.ty, .slice a.dv.a a.dv.n a.dv.c, .slice a.tv.a a.tv.n a.tv.c, .slice a.iv.a a.iv.n a.iv.c] 92))
  have cp : (w.alloc (.cells #[.string a.name, .int .i64 a.kind, .int .i64 a.f, .int .i64 a.i, .string a.s, .int .i64 a.ty, .slice a.dv.a a.dv.n a.dv.c, .slice a.tv.a a.tv.n a.tv.c, .slice a.iv.a a.iv.n a.iv.c] 92)).cell? ⟨p, 0, none⟩ = some (.string nm) := by
    rw [← hp]; exact World.cell?_of_block (g0.block p (World.block_lt_of_cell? w _ hp) (by simp))
  have G0 := hide g0
  clear hp g0
  unfold aval
  go_enter Tryz.func142, Tryz.ntmps142
  go_wp2
  go_ret
  exact ⟨rfl, G0.out⟩

theorem cell_more {w w' : World} {a : Addr} {x : Value} (h : w.cell? a = some x) (hg : w.grownBy w' none) : w'.cell? a = some x :=
  (World.cell?_of_block (hg.block a.block (World.block_lt_of_cell? w _ h) (by simp))).trans h

abbrev IsRas (w : World) (v : Value) (xs : List Ra) : Prop := IsL 32 3 rcells w v xs

theorem IsL.ra {w : World} {b off len cap : Nat} {xs : List Ra} (h : IsL 32 3 rcells w (.slice (some ⟨b, off, none⟩) len cap) xs) (k : Nat) (hk : k < xs.length) :
    w.cell? ⟨b, off + k * 3, none⟩ = some (.string xs[k].name) ∧ w.cell? ⟨b, off + k * 3 + 1, none⟩ = some (.int .i64 xs[k].kind) ∧ w.cell? ⟨b, off + k * 3 + 2, none⟩ = some (.bool xs[k].must) := by
  have f := fun j hj => h.at k hk j hj
  exact ⟨f 0 (by omega), f 1 (by omega), f 2 (by omega)⟩

set_option maxRecDepth 100000 in
set_option maxHeartbeats 1600000 in
theorem index_ra (v : Value) (xs : List Ra) (p : Nat) (nm : ByteArray) (w : World) (hv : IsRas w v xs) (hp : w.cell? ⟨p, 0, none⟩ = some (.string nm)) :
    Calls Tryz.prog 141 #[v, .func (.func 140) #[] #[.pointer (some ⟨p, 0, none⟩)]] w fun e w' => e = .returned (.int .i64 (place (sameR nm) xs 0)) ∧ w.grownBy w' none := by
  have HV := hide hv
  obtain ⟨ao, cap, rfl, h1, h2, h3⟩ := hv.form
  have HP := hide hp
  clear hv hp
  go_enter Tryz.func141, Tryz.ntmps141
  go_wp2_with fail
  go_loopw [8] (fun i wr => w.grownBy wr none ∧ ∃ k : Nat, k ≤ xs.length ∧ i = .int .i64 k ∧ place (sameR nm) xs 0 = place (sameR nm) (xs.drop k) k) (fun i _ => xs.length - (intOf i).toNat)
  case atStart => exact ⟨grown_refl _, 0, Nat.zero_le _, rfl, rfl⟩
  case round =>
    obtain ⟨hg, k, hk, rfl, hpl⟩ := hrel
    have HPL := hide hpl
    clear hpl
    by_cases hlt : k < xs.length
    · have HVk := HV.out.more hg
      obtain ⟨b, off, rfl⟩ := HVk.addr hlt
      obtain ⟨a0, a1, a2⟩ := HVk.ra k hlt
      have NA := hide (fun (wx : World) (hx : w.grownBy wx none) => same1_any xs[k] p nm wx (cell_more HP.out hx))
      clear HVk
      go_wp2_with fail
      refine (NA.out wr hg).mono ?_
      rintro e w1 ⟨rfl, hg1⟩
      have g1 := grown_trans hg hg1
      cases ht : sameR nm xs[k] with
      | true =>
        have HT := hide ht
        clear ht
        go_wp2
        go_ret
        exact ⟨by rw [HPL.out, place_at hlt HT.out]; rfl, g1⟩
      | false =>
        have HT := hide ht
        clear ht
        go_wp2
        go_roundw
        case rel => exact ⟨g1, k + 1, by omega, by go_num, by rw [HPL.out, place_past hlt HT.out]⟩
        case measure => simp [intOf]; omega
    · obtain rfl : k = xs.length := by omega
      go_wp2
      go_ret
      exact ⟨by rw [HPL.out, List.drop_of_length_le (Nat.le_refl _)]; rfl, hg⟩

set_option maxRecDepth 100000 in
set_option maxHeartbeats 1600000 in
theorem index_ahead (v : Value) (xs : List Atr) (p : Nat) (nm : ByteArray) (w : World) (hv : IsAttrs w v xs) (hp : w.cell? ⟨p, 0, none⟩ = some (.string nm)) :
    Calls Tryz.prog 90 #[v, .func (.func 142) #[] #[.pointer (some ⟨p, 0, none⟩)]] w fun e w' => e = .returned (.int .i64 (place (aheadA nm) xs 0)) ∧ w.grownBy w' none := by
  have HV := hide hv
  obtain ⟨ao, cap, rfl, h1, h2, h3⟩ := hv.form
  have HP := hide hp
  clear hv hp
  go_enter Tryz.func90, Tryz.ntmps90
  go_wp2_with fail
  go_loopw [8] (fun i wr => w.grownBy wr none ∧ ∃ k : Nat, k ≤ xs.length ∧ i = .int .i64 k ∧ place (aheadA nm) xs 0 = place (aheadA nm) (xs.drop k) k) (fun i _ => xs.length - (intOf i).toNat)
  case atStart => exact ⟨grown_refl _, 0, Nat.zero_le _, rfl, rfl⟩
  case round =>
    obtain ⟨hg, k, hk, rfl, hpl⟩ := hrel
    have HPL := hide hpl
    clear hpl
    by_cases hlt : k < xs.length
    · have HVk := HV.out.more hg
      obtain ⟨b, off, rfl⟩ := HVk.addr hlt
      obtain ⟨a0, a1, a2, a3, a4, a5, a6, a7, a8⟩ := HVk.attr k hlt
      have NA := hide (fun (wx : World) (hx : w.grownBy wx none) => ahead_any xs[k] p nm wx (cell_more HP.out hx))
      clear HVk
      go_wp2_with fail
      refine (NA.out wr hg).mono ?_
      rintro e w1 ⟨rfl, hg1⟩
      have g1 := grown_trans hg hg1
      cases ht : aheadA nm xs[k] with
      | true =>
        have HT := hide ht
        clear ht
        go_wp2
        go_ret
        exact ⟨by rw [HPL.out, place_at hlt HT.out]; rfl, g1⟩
      | false =>
        have HT := hide ht
        clear ht
        go_wp2
        go_roundw
        case rel => exact ⟨g1, k + 1, by omega, by go_num, by rw [HPL.out, place_past hlt HT.out]⟩
        case measure => simp [intOf]; omega
    · obtain rfl : k = xs.length := by omega
      go_wp2
      go_ret
      exact ⟨by rw [HPL.out, List.drop_of_length_le (Nat.le_refl _)]; rfl, hg⟩

set_option maxRecDepth 100000 in
set_option maxHeartbeats 1600000 in
theorem contains_ahead (v : Value) (xs : List Atr) (p : Nat) (nm : ByteArray) (w : World) (hv : IsAttrs w v xs) (hp : w.cell? ⟨p, 0, none⟩ = some (.string nm)) :
    Calls Tryz.prog 143 #[v, .func (.func 142) #[] #[.pointer (some ⟨p, 0, none⟩)]] w fun e w' => e = .returned (.bool (xs.any (aheadA nm))) ∧ w.grownBy w' none := by
  have IX := hide (index_ahead v xs p nm w hv hp)
  have HP := hide (place_ge (aheadA nm) xs)
  clear hv hp
  go_enter Tryz.func143, Tryz.ntmps143
  go_wp2_with fail
  refine IX.out.mono ?_
  rintro e w1 ⟨rfl, hg⟩
  go_wp2
  go_ret
  exact ⟨by rw [← HP.out]; rfl, hg⟩
end Go.Proofs.YteigfipgmghgmaaGreatDoor
