/- Joined texts: NIdx, NChk, NCheck. -/
import Derived.Test.YtkefdkboejimeaaGreatDoorRartAF
namespace Go.Proofs.YtkefdkboejimeaaGreatDoor

open Go.RowKit

abbrev IsStrs (w : World) (v : Value) (xs : List ByteArray) : Prop := IsL 16 1 scell w v xs

def isS (x : ByteArray) (y : ByteArray) : Bool := x.toList == y.toList

theorem str_at {w : World} {b off len cap : Nat} {xs : List ByteArray} (h : IsL 16 1 scell w (.slice (some ⟨b, off, none⟩) len cap) xs) (k : Nat) (hk : k < xs.length) : w.cell? ⟨b, off + k, none⟩ = some (.string xs[k]) := by
  have := h.at k hk 0 (by omega)
  simpa using this

set_option maxRecDepth 100000 in
set_option maxHeartbeats 1600000 in
theorem index_str (v : Value) (xs : List ByteArray) (x : ByteArray) (w : World) (hv : IsStrs w v xs) :
    Calls Tryz.prog 166 #[v, .string x] w fun e w' => e = .returned (.int .i64 (place (isS x) xs 0)) ∧ w.grownBy w' none := by
  have HV := hide hv
  obtain ⟨ao, cap, rfl, h1, h2, h3⟩ := hv.form
  clear hv
  go_enter Tryz.func166, Tryz.ntmps166
  go_wp2_with fail
  go_loopw [8] (fun i wr => w.grownBy wr none ∧ ∃ k : Nat, k ≤ xs.length ∧ i = .int .i64 k ∧ place (isS x) xs 0 = place (isS x) (xs.drop k) k) (fun i _ => xs.length - (intOf i).toNat)
  case atStart => exact ⟨grown_refl _, 0, Nat.zero_le _, rfl, rfl⟩
  case round =>
    obtain ⟨hg, k, hk, rfl, hpl⟩ := hrel
    have HPL := hide hpl
    clear hpl
    by_cases hlt : k < xs.length
    · have HVk := HV.out.more hg
      obtain ⟨b, off, rfl⟩ := HVk.addr hlt
      have a0 := str_at HVk k hlt
      clear HVk
      by_cases ht : (x.toList == xs[k].toList) = true
      · have HT := hide ht
        go_wp2
        go_ret
        exact ⟨by rw [HPL.out, place_at hlt HT.out]; rfl, hg⟩
      · have ht' : (x.toList == xs[k].toList) = false := by simpa using ht
        have HT := hide ht'
        clear ht
        go_wp2
        go_roundw
        case rel => exact ⟨hg, k + 1, by omega, by go_num, by rw [HPL.out, place_past hlt HT.out]⟩
        case measure => simp [intOf]; omega
    · obtain rfl : k = xs.length := by omega
      go_wp2
      go_ret
      exact ⟨by rw [HPL.out, List.drop_of_length_le (Nat.le_refl _)]; rfl, hg⟩

theorem place_ge {α : Type} (P : α → Bool) (xs : List α) : decide (0 ≤ place P xs 0) = xs.any P := by
  rcases place_cases P xs 0 with ⟨e1, e2⟩ | ⟨j, hj, e1, e2⟩
  · rw [e1]
    have h : xs.any P = false := by
      rw [Bool.eq_false_iff]
      intro h
      obtain ⟨x, hx, hp⟩ := List.any_eq_true.1 h
      exact absurd hp (by simpa using List.find?_eq_none.1 e2 x hx)
    rw [h]
    rfl
  · rw [e1]
    have h : xs.any P = true := List.any_eq_true.2 ⟨xs[j], List.getElem_mem hj, List.find?_some e2⟩
    rw [h]
    simp

set_option maxRecDepth 100000 in
set_option maxHeartbeats 1600000 in
theorem contains_str (v : Value) (xs : List ByteArray) (x : ByteArray) (w : World) (hv : IsStrs w v xs) :
    Calls Tryz.prog 133 #[v, .string x] w fun e w' => e = .returned (.bool (xs.any (isS x))) ∧ w.grownBy w' none := by
  have IX := hide (index_str v xs x w hv)
  have HP := hide (place_ge (isS x) xs)
  clear hv
  go_enter Tryz.func133, Tryz.ntmps133
  go_wp2_with fail
  refine IX.out.mono ?_
  rintro e w1 ⟨rfl, hg⟩
  go_wp2
  go_ret
  exact ⟨by rw [← HP.out]; rfl, hg⟩

def sameR (nm : ByteArray) (r : Ra) : Bool := r.name.toList == nm.toList

def aheadA (nm : ByteArray) (b : Atr) : Bool := b.name.toList == nm.toList

theorem ra_cells {w : World} {B : Nat} {r : Ra} (hb : w.heap[B]? = some (.cells #[.string r.name, .int .i64 r.kind, .bool r.must] 198 (0, 0))) :
    w.cell? ⟨B, 0, none⟩ = some (.string r.name) ∧ w.cell? ⟨B, 1, none⟩ = some (.int .i64 r.kind) ∧ w.cell? ⟨B, 2, none⟩ = some (.bool r.must) :=
  ⟨(cell_of_row _ _ 0 _ _ (0, 0) hb).trans rfl, (cell_of_row _ _ 1 _ _ (0, 0) hb).trans rfl, (cell_of_row _ _ 2 _ _ (0, 0) hb).trans rfl⟩

set_option maxRecDepth 100000 in
set_option maxHeartbeats 1600000 in
theorem same1_any (r : Ra) (p : Nat) (nm : ByteArray) (w : World) (hp : w.cell? ⟨p, 0, none⟩ = some (.string nm)) :
    Calls Tryz.prog 167 #[.agg #[.string r.name, .int .i64 r.kind, .bool r.must], .pointer (some ⟨p, 0, none⟩)] w fun e w' => e = .returned (.bool (sameR nm r)) ∧ w.grownBy w' none := by
  have g0 := grown_new w (.cells #[.string r.name, .int .i64 r.kind, .bool r.must] 198)
  obtain ⟨c0, -⟩ := ra_cells (heap_alloc_new w (.cells #[.string r.name, .int .i64 r.kind, .bool r.must] 198))
  have cp : (w.alloc (.cells #[.string r.name, .int .i64 r.kind, .bool r.must] 198)).cell? ⟨p, 0, none⟩ = some (.string nm) := by
    rw [← hp]; exact World.cell?_of_block (g0.block p (World.block_lt_of_cell? w _ hp) (by simp))
  have G0 := hide g0
  clear hp g0
  go_enter Tryz.func167, Tryz.ntmps167
  go_wp2
  go_ret
  exact ⟨rfl, G0.out⟩

set_option maxRecDepth 100000 in
set_option maxHeartbeats 1600000 in
theorem ahead_any (a : Atr) (p : Nat) (nm : ByteArray) (w : World) (hp : w.cell? ⟨p, 0, none⟩ = some (.string nm)) :
    Calls Tryz.prog 169 #[aval a, .pointer (some ⟨p, 0, none⟩)] w fun e w' => e = .returned (.bool (aheadA nm a)) ∧ w.grownBy w' none := by
  have g0 := grown_new w (.cells #[.string a.name, .int .i64 a.kind, .int .i64 a.f, .int .i64 a.i, .string a.s, .int .i64 a.ty, .slice a.dv.a a.dv.n a.dv.c, .slice a.tv.a a.tv.n a.tv.c, .slice a.iv.a a.iv.n a.iv.c] 38)
  obtain ⟨c0, -⟩ := atr_cells (heap_alloc_new w (.cells #[.string a.name, .int .i64 a.kind, .int .i64 a.f, .int .i64 a.i, .string a.s, .int .i64 a.ty, .slice a.dv.a a.dv.n a.dv.c, .slice a.tv.a a.tv.n a.tv.c, .slice a.iv.a a.iv.n a.iv.c] 38))
  have cp : (w.alloc (.cells #[.string a.name, .int .i64 a.kind, .int .i64 a.f, .int .i64 a.i, .string a.s, .int .i64 a.ty, .slice a.dv.a a.dv.n a.dv.c, .slice a.tv.a a.tv.n a.tv.c, .slice a.iv.a a.iv.n a.iv.c] 38)).cell? ⟨p, 0, none⟩ = some (.string nm) := by
    rw [← hp]; exact World.cell?_of_block (g0.block p (World.block_lt_of_cell? w _ hp) (by simp))
  have G0 := hide g0
  clear hp g0
  unfold aval
  go_enter Tryz.func169, Tryz.ntmps169
  go_wp2
  go_ret
  exact ⟨rfl, G0.out⟩

theorem cell_more {w w' : World} {a : Addr} {x : Value} (h : w.cell? a = some x) (hg : w.grownBy w' none) : w'.cell? a = some x :=
  (World.cell?_of_block (hg.block a.block (World.block_lt_of_cell? w _ h) (by simp))).trans h

abbrev IsRas (w : World) (v : Value) (xs : List Ra) : Prop := IsL 32 3 rcells w v xs

theorem IsL.ra {w : World} {b off len cap : Nat} {xs : List Ra} (h : IsL 32 3 rcells w (.slice (some ⟨b, off, none⟩) len cap) xs) (k : Nat) (hk : k < xs.length) :
    w.cell? ⟨b, off + k * 3, none⟩ = some (.string xs[k].name) ∧ w.cell? ⟨b, off + k * 3 + 1, none⟩ = some (.int .i64 xs[k].kind) ∧ w.cell? ⟨b, off + k * 3 + 2, none⟩ = some (.bool xs[k].must) := by
  have f := fun j hj => h.at k hk j hj
  exact ⟨f 0 (by omega), f 1 (by omega), f 2 (by omega)⟩

set_option maxRecDepth 100000 in
set_option maxHeartbeats 1600000 in
theorem index_ra (v : Value) (xs : List Ra) (p : Nat) (nm : ByteArray) (w : World) (hv : IsRas w v xs) (hp : w.cell? ⟨p, 0, none⟩ = some (.string nm)) :
    Calls Tryz.prog 168 #[v, .func (.func 167) #[] #[.pointer (some ⟨p, 0, none⟩)]] w fun e w' => e = .returned (.int .i64 (place (sameR nm) xs 0)) ∧ w.grownBy w' none := by
  have HV := hide hv
  obtain ⟨ao, cap, rfl, h1, h2, h3⟩ := hv.form
  have HP := hide hp
  clear hv hp
  go_enter Tryz.func168, Tryz.ntmps168
  go_wp2_with fail
  go_loopw [8] (fun i wr => w.grownBy wr none ∧ ∃ k : Nat, k ≤ xs.length ∧ i = .int .i64 k ∧ place (sameR nm) xs 0 = place (sameR nm) (xs.drop k) k) (fun i _ => xs.length - (intOf i).toNat)
  case atStart => exact ⟨grown_refl _, 0, Nat.zero_le _, rfl, rfl⟩
  case round =>
    obtain ⟨hg, k, hk, rfl, hpl⟩ := hrel
    have HPL := hide hpl
    clear hpl
    by_cases hlt : k < xs.length
    · have HVk := HV.out.more hg
      obtain ⟨b, off, rfl⟩ := HVk.addr hlt
      obtain ⟨a0, a1, a2⟩ := HVk.ra k hlt
      have NA := hide (fun (wx : World) (hx : w.grownBy wx none) => same1_any xs[k] p nm wx (cell_more HP.out hx))
      clear HVk
      go_wp2_with fail
      refine (NA.out wr hg).mono ?_
      rintro e w1 ⟨rfl, hg1⟩
      have g1 := grown_trans hg hg1
      cases ht : sameR nm xs[k] with
      | true =>
        have HT := hide ht
        clear ht
        go_wp2
        go_ret
        exact ⟨by rw [HPL.out, place_at hlt HT.out]; rfl, g1⟩
      | false =>
        have HT := hide ht
        clear ht
        go_wp2
        go_roundw
        case rel => exact ⟨g1, k + 1, by omega, by go_num, by rw [HPL.out, place_past hlt HT.out]⟩
        case measure => simp [intOf]; omega
    · obtain rfl : k = xs.length := by omega
      go_wp2
      go_ret
      exact ⟨by rw [HPL.out, List.drop_of_length_le (Nat.le_refl _)]; rfl, hg⟩

set_option maxRecDepth 100000 in
set_option maxHeartbeats 1600000 in
theorem index_ahead (v : Value) (xs : List Atr) (p : Nat) (nm : ByteArray) (w : World) (hv : IsAttrs w v xs) (hp : w.cell? ⟨p, 0, none⟩ = some (.string nm)) :
    Calls Tryz.prog 126 #[v, .func (.func 169) #[] #[.pointer (some ⟨p, 0, none⟩)]] w fun e w' => e = .returned (.int .i64 (place (aheadA nm) xs 0)) ∧ w.grownBy w' none := by
  have HV := hide hv
  obtain ⟨ao, cap, rfl, h1, h2, h3⟩ := hv.form
  have HP := hide hp
  clear hv hp
  go_enter Tryz.func126, Tryz.ntmps126
  go_wp2_with fail
  go_loopw [8] (fun i wr => w.grownBy wr none ∧ ∃ k : Nat, k ≤ xs.length ∧ i = .int .i64 k ∧ place (aheadA nm) xs 0 = place (aheadA nm) (xs.drop k) k) (fun i _ => xs.length - (intOf i).toNat)
  case atStart => exact ⟨grown_refl _, 0, Nat.zero_le _, rfl, rfl⟩
  case round =>
    obtain ⟨hg, k, hk, rfl, hpl⟩ := hrel
    have HPL := hide hpl
    clear hpl
    by_cases hlt : k < xs.length
    · have HVk := HV.out.more hg
      obtain ⟨b, off, rfl⟩ := HVk.addr hlt
      obtain ⟨a0, a1, a2, a3, a4, a5, a6, a7, a8⟩ := HVk.attr k hlt
      have NA := hide (fun (wx : World) (hx : w.grownBy wx none) => ahead_any xs[k] p nm wx (cell_more HP.out hx))
      clear HVk
      go_wp2_with fail
      refine (NA.out wr hg).mono ?_
      rintro e w1 ⟨rfl, hg1⟩
      have g1 := grown_trans hg hg1
      cases ht : aheadA nm xs[k] with
      | true =>
        have HT := hide ht
        clear ht
        go_wp2
        go_ret
        exact ⟨by rw [HPL.out, place_at hlt HT.out]; rfl, g1⟩
      | false =>
        have HT := hide ht
        clear ht
        go_wp2
        go_roundw
        case rel => exact ⟨g1, k + 1, by omega, by go_num, by rw [HPL.out, place_past hlt HT.out]⟩
        case measure => simp [intOf]; omega
    · obtain rfl : k = xs.length := by omega
      go_wp2
      go_ret
      exact ⟨by rw [HPL.out, List.drop_of_length_le (Nat.le_refl _)]; rfl, hg⟩

set_option maxRecDepth 100000 in
set_option maxHeartbeats 1600000 in
theorem contains_ahead (v : Value) (xs : List Atr) (p : Nat) (nm : ByteArray) (w : World) (hv : IsAttrs w v xs) (hp : w.cell? ⟨p, 0, none⟩ = some (.string nm)) :
    Calls Tryz.prog 170 #[v, .func (.func 169) #[] #[.pointer (some ⟨p, 0, none⟩)]] w fun e w' => e = .returned (.bool (xs.any (aheadA nm))) ∧ w.grownBy w' none := by
  have IX := hide (index_ahead v xs p nm w hv hp)
  have HP := hide (place_ge (aheadA nm) xs)
  clear hv hp
  go_enter Tryz.func170, Tryz.ntmps170
  go_wp2_with fail
  refine IX.out.mono ?_
  rintro e w1 ⟨rfl, hg⟩
  go_wp2
  go_ret
  exact ⟨by rw [← HP.out]; rfl, hg⟩

end Go.Proofs.YtkefdkboejimeaaGreatDoor

namespace Go.Proofs.YtkefdkboejimeaaGreatDoor

open Go.RowKit

def fOK (f : Int) : Bool := decide (0 ≤ f) && (decide (f < 4294967296) && (f == 2143289344 || decide (bits BinOp.andNot IntKind.i64 f 2147483648 ≤ 2139095040)))

set_option maxRecDepth 100000 in
set_option maxHeartbeats 1600000 in
theorem flt_any (f : Int) (w : World) :
    Calls Tryz.prog 19 #[.int .i64 1, .int .i64 f] w fun e w' => e = .returned (.bool (fOK f)) ∧ w.grownBy w' none := by
  by_cases h0 : 0 ≤ f
  · by_cases h1 : f < 4294967296
    · by_cases h2 : f = 2143289344
      · subst h2
        go_enter Tryz.func19, Tryz.ntmps19
        go_wp2
        go_ret
        exact ⟨rfl, grown_refl _⟩
      · have h3 : (f == 2143289344) = false := by simpa using h2
        have H0 := hide h0
        have H1 := hide h1
        have H3 := hide h3
        go_enter Tryz.func19, Tryz.ntmps19
        go_wp2
        go_ret
        exact ⟨by rw [fOK, decide_eq_true H0.out, decide_eq_true H1.out]; simp [H3.out], grown_refl _⟩
    · have H1 := hide h1
      have H0 := hide h0
      go_enter Tryz.func19, Tryz.ntmps19
      go_wp2
      go_ret
      exact ⟨by rw [fOK, decide_eq_false (show ¬ f < 4294967296 by have := H1.out; omega)]; simp, grown_refl _⟩
  · have H0 := hide h0
    go_enter Tryz.func19, Tryz.ntmps19
    go_wp2
    go_ret
    exact ⟨by rw [fOK, decide_eq_false (show ¬ 0 ≤ f by have := H0.out; omega)]; rfl, grown_refl _⟩

def chk1 (rs : List Ra) (xs : List Atr) : List Atr → Nat → Option Int
  | [], _ => none
  | a :: l, i => match rs.find? (sameR a.name) with
    | none => some 5
    | some r => if (a.kind != r.kind) || (xs.take i).any (aheadA a.name) then some 4 else if (a.kind == 1) && !(fOK a.f) then some 4 else chk1 rs xs l (i + 1)

def lacks (rs : List Ra) (xs : List Atr) : Bool := rs.any (fun r => r.must && !(xs.find? (isA r.name r.kind)).isSome)

def attrsE (rs : List Ra) (xs : List Atr) : Int := match chk1 rs xs xs 0 with
  | some e => e
  | none => if lacks rs xs then 4 else 0

theorem chk1_at {rs : List Ra} {xs : List Atr} {k : Nat} (hk : k < xs.length) : chk1 rs xs (xs.drop k) k = match rs.find? (sameR xs[k].name) with
    | none => some 5
    | some r => if (xs[k].kind != r.kind) || (xs.take k).any (aheadA xs[k].name) then some 4 else if (xs[k].kind == 1) && !(fOK xs[k].f) then some 4 else chk1 rs xs (xs.drop (k + 1)) (k + 1) := by
  rw [List.drop_eq_getElem_cons hk, chk1]

theorem isL_take {α : Type} {bytes size : Nat} {f : α → List Value} {w : World} {ao : Option Addr} {len cap : Nat} {xs : List α} (h : IsL bytes size f w (.slice ao len cap) xs) (k : Nat) (hk : k ≤ xs.length) : IsL bytes size f w (.slice ao k cap) (xs.take k) := by
  obtain ⟨ao', cap', e, h1, h2, h3, h4, h5⟩ := h
  cases e
  have hl : (xs.take k).length = k := by rw [List.length_take]; omega
  refine ⟨ao, cap, by rw [hl], by omega, h2, ?_, fun e => ?_, fun hp => ?_⟩
  · rw [hl]; exact Nat.le_trans (Nat.mul_le_mul_right _ hk) h3
  · obtain ⟨rfl, hc⟩ := h4 e
    exact ⟨List.take_nil, hc⟩
  · obtain ⟨b, off, rfl, hc⟩ := h5 (by omega)
    refine ⟨b, off, rfl, fun j hj i hi => ?_⟩
    have hj' : j < xs.length := by omega
    have := hc j hj' i hi
    simpa [List.getElem_take] using this

theorem any_step' {l : List Ra} {f : Ra → Bool} {k : Nat} {x : Ra} (h : (l.take k).any f = false) (hx : l[k]? = some x) (hf : f x = false) : (l.take (k + 1)).any f = false := by
  rw [List.take_add_one, List.any_append, h, hx]
  simp [hf]

theorem attrsE_some {rs : List Ra} {xs : List Atr} {e : Int} (h : chk1 rs xs xs 0 = some e) : attrsE rs xs = e := by unfold attrsE; rw [h]

set_option maxRecDepth 100000 in
set_option maxHeartbeats 6400000 in
theorem checkattrs_any (n : Nod) (xs : List Atr) (rv : Value) (rs : List Ra) (w : World) (hv : IsAttrs w n.av.v xs) (hr : IsRas w rv rs) :
    Calls Tryz.prog 134 #[nval n, rv] w fun e w' => e = .returned (.int .i64 (attrsE rs xs)) ∧ w.grownBy w' none := by
  obtain ⟨op, nam, ⟨ia, il, ic⟩, out, ⟨ao, al, cap⟩⟩ := n
  simp only at hv
  obtain ⟨ao', cap', hav, h1, h2, h3⟩ := hv.form
  obtain ⟨rfl, rfl, rfl⟩ : ao = ao' ∧ al = xs.length ∧ cap = cap' := by simpa [Sl.v] using hav
  have HV := hide hv
  have HR := hide hr
  obtain ⟨ra, rc, rfl, k1, k2, k3⟩ := hr.form
  clear hv hav hr
  unfold nval
  simp only
  obtain ⟨w0, hw0⟩ : ∃ w0, w0 = w.alloc (.cells #[.string op, .string nam, .slice ia il ic, .string out, .slice ao xs.length cap] 35) := ⟨_, rfl⟩
  have g0 : w.grownBy w0 none := by rw [hw0]; exact grown_new _ _
  have hb0 := heap_alloc_new w (.cells #[.string op, .string nam, .slice ia il ic, .string out, .slice ao xs.length cap] 35)
  obtain ⟨-, -, -, -, n4⟩ := nod_cells (n := ⟨op, nam, ⟨ia, il, ic⟩, out, ⟨ao, xs.length, cap⟩⟩) hb0
  rw [← hw0] at hb0
  have BX : Hid (∀ wx, w0.grownBy wx none → wx.heap[w.heap.size]? = some (.cells #[.string op, .string nam, .slice ia il ic, .string out, .slice ao xs.length cap] 35 (0, 0))) := fun wx hg => box_kept hb0 hg
  clear hb0
  go_enter Tryz.func134, Tryz.ntmps134
  go_wp2_with fail
  rw [← hw0]
  clear hw0 n4
  go_loopw [17] (fun i wr => w0.grownBy wr none ∧ ∃ k : Nat, k ≤ xs.length ∧ i = .int .i64 k ∧ chk1 rs xs xs 0 = chk1 rs xs (xs.drop k) k) (fun i _ => xs.length - (intOf i).toNat)
  case atStart => exact ⟨grown_refl _, 0, Nat.zero_le _, rfl, rfl⟩
  case round =>
    obtain ⟨hg, k, hk, rfl, hpl⟩ := hrel
    have HPL := hide hpl
    clear hpl
    by_cases hlt : k < xs.length
    · have HVk := HV.out.more (grown_trans g0 hg)
      obtain ⟨b, off, rfl⟩ := HVk.addr hlt
      obtain ⟨a0, a1, a2, a3, a4, a5, a6, a7, a8⟩ := HVk.attr k hlt
      have HCK := hide (chk1_at (rs := rs) hlt)
      obtain ⟨A, hA⟩ : ∃ A, A = xs[k] := ⟨_, rfl⟩
      rw [← hA] at a0 a1 a2 a3 a4 a5 a6 a7 a8 HCK
      clear HVk hA
      obtain ⟨W1, hW1⟩ : ∃ W1, W1 = wr.alloc (.cells #[.string A.name, .int .i64 A.kind, .int .i64 A.f, .int .i64 A.i, .string A.s, .int .i64 A.ty, .slice A.dv.a A.dv.n A.dv.c, .slice A.tv.a A.tv.n A.tv.c, .slice A.iv.a A.iv.n A.iv.c] 38) := ⟨_, rfl⟩
      have G1 : wr.grownBy W1 none := by rw [hW1]; exact grown_new _ _
      have B1 := heap_alloc_new wr (.cells #[.string A.name, .int .i64 A.kind, .int .i64 A.f, .int .i64 A.i, .string A.s, .int .i64 A.ty, .slice A.dv.a A.dv.n A.dv.c, .slice A.tv.a A.tv.n A.tv.c, .slice A.iv.a A.iv.n A.iv.c] 38)
      rw [← hW1] at B1
      have AB : Hid (∀ wx, W1.grownBy wx none → wx.heap[wr.heap.size]? = some (.cells #[.string A.name, .int .i64 A.kind, .int .i64 A.f, .int .i64 A.i, .string A.s, .int .i64 A.ty, .slice A.dv.a A.dv.n A.dv.c, .slice A.tv.a A.tv.n A.tv.c, .slice A.iv.a A.iv.n A.iv.c] 38 (0, 0))) := fun wx hx => box_kept B1 hx
      have g1 := grown_trans hg G1
      clear B1
      go_wp2_with fail
      rw [← hW1]
      clear hW1 a0 a1 a2 a3 a4 a5 a6 a7 a8
      refine (index_ra _ rs wr.heap.size A.name W1 (HR.out.more (grown_trans g0 g1)) (atr_cells (AB.out W1 (grown_refl _))).1).mono ?_
      rintro e w2 ⟨rfl, hg2⟩
      have g2 := grown_trans g1 hg2
      rcases place_cases (sameR A.name) rs 0 with ⟨e1, e2⟩ | ⟨j, hj, e1, e2⟩
      · rw [e1]
        have E : Hid (attrsE rs xs = 5) := attrsE_some (by rw [HPL.out, HCK.out, e2])
        clear e1 e2
        go_wp2
        go_ret
        exact ⟨by rw [E.out]; rfl, grown_trans g0 g2⟩
      · rw [e1, show ((0 + j : Nat) : Int) = (j : Int) by simp]
        have HE2 := hide e2
        clear e1 e2
        have HRk := HR.out.more (grown_trans g0 g2)
        obtain ⟨rb, ro, rfl⟩ := HRk.addr hj
        obtain ⟨r0, r1, r2⟩ := HRk.ra j hj
        obtain ⟨c0, c1, c2, -⟩ := atr_cells (AB.out w2 hg2)
        obtain ⟨-, -, -, -, n4⟩ := nod_cells (n := ⟨op, nam, ⟨ia, il, ic⟩, out, ⟨some ⟨b, off, none⟩, xs.length, cap⟩⟩) (BX.out w2 g2)
        obtain ⟨R, hR⟩ : ∃ R, R = rs[j] := ⟨_, rfl⟩
        rw [← hR] at r0 r1 r2 HE2
        clear HRk hR r0 r2 c0
        have gd := grown_drew (grown_refl w2)
        have CA := hide (fun (wx : World) (hx : w2.grownBy wx none) => contains_ahead (.slice (some ⟨b, off, none⟩) k cap) (xs.take k) wr.heap.size A.name wx (isL_take (HV.out.more (grown_trans (grown_trans g0 g2) hx)) k (by omega)) (atr_cells (AB.out wx (grown_trans hg2 hx))).1)
        by_cases hkd : (A.kind != R.kind) = true
        · have HKD := hide hkd
          go_wp2_with fail
          have E : Hid (attrsE rs xs = 4) := attrsE_some (by rw [HPL.out, HCK.out, HE2.out]; simp only [HKD.out, Bool.true_or, if_true])
          go_region
          all_goals
            go_wp2
            go_ret
            exact ⟨by rw [E.out]; rfl, grown_drew (grown_trans g0 g2)⟩
        · have hkd' : (A.kind != R.kind) = false := by simpa using hkd
          have HKD := hide hkd'
          clear hkd
          have hkc : k ≤ cap := by omega
          go_wp2_with fail
          go_region_held3 (fun w' => w'.cell? ⟨wr.heap.size, 1, none⟩ = some (.int .i64 A.kind) ∧ w'.cell? ⟨rb, ro + j * 3 + 1, none⟩ = some (.int .i64 R.kind) ∧ w'.cell? ⟨w.heap.size, 4, none⟩ = some (.slice (some ⟨b, off, none⟩) xs.length cap)) (go_keep) (first | (go_at_call 170; refine (CA.out _ (by exact gd)).mono ?_; rintro e w3 ⟨rfl, hg3⟩; have g3 := grown_trans gd hg3; obtain ⟨c0, c1, c2, -⟩ := atr_cells (AB.out w3 (grown_trans hg2 g3)); obtain ⟨-, -, -, -, n4⟩ := nod_cells (n := ⟨op, nam, ⟨ia, il, ic⟩, out, ⟨some ⟨b, off, none⟩, xs.length, cap⟩⟩) (BX.out w3 (grown_trans g2 g3)); have r1 := cell_more r1 g3))
          have g13 := grown_trans g2 g3
          cases hah : (xs.take k).any (aheadA A.name) with
          | true =>
            have E : Hid (attrsE rs xs = 4) := attrsE_some (by rw [HPL.out, HCK.out, HE2.out]; simp only [HKD.out, hah, Bool.or_true, if_true])
            clear hah
            go_wp2
            go_ret
            exact ⟨by rw [E.out]; rfl, grown_trans g0 g13⟩
          | false =>
            have HAH := hide hah
            clear hah
            by_cases hk1 : A.kind = 1
            · have HK1 := hide hk1
              have e1 : (A.kind == 1) = true := by simpa using hk1
              have HE1 := hide e1
              rw [hk1] at c1
              clear hk1 e1
              go_wp2_with fail
              refine (flt_any A.f w3).mono ?_
              rintro e w4 ⟨rfl, hg4⟩
              have g14 := grown_trans g13 hg4
              cases hf : fOK A.f with
              | false =>
                have E : Hid (attrsE rs xs = 4) := attrsE_some (by rw [HPL.out, HCK.out, HE2.out]; simp [HKD.out, HAH.out, HE1.out, hf])
                clear hf
                go_wp2
                go_ret
                exact ⟨by rw [E.out]; rfl, grown_trans g0 g14⟩
              | true =>
                have HN : Hid (chk1 rs xs xs 0 = chk1 rs xs (xs.drop (k + 1)) (k + 1)) := by
                  show _ = _
                  rw [HPL.out, HCK.out, HE2.out]; simp [HKD.out, HAH.out, hf]
                clear hf
                go_wp2
                go_roundw
                case rel => exact ⟨g14, k + 1, by omega, by go_num, HN.out⟩
                case measure => simp [intOf]; omega
            · have e1 : (A.kind == 1) = false := by simpa using hk1
              have HN : Hid (chk1 rs xs xs 0 = chk1 rs xs (xs.drop (k + 1)) (k + 1)) := by
                show _ = _
                rw [HPL.out, HCK.out, HE2.out]; simp [HKD.out, HAH.out, e1]
              clear hk1
              go_wp2
              go_roundw
              case rel => exact ⟨g13, k + 1, by omega, by go_num, HN.out⟩
              case measure => simp [intOf]; omega
    · obtain rfl : k = xs.length := by omega
      have HN : Hid (chk1 rs xs xs 0 = none) := by
        show _ = _
        rw [HPL.out, List.drop_of_length_le (Nat.le_refl _)]; rfl
      obtain ⟨wo, rfl⟩ : ∃ wo, wo = wr := ⟨_, rfl⟩
      go_wp2_with fail
      go_loopw [57] (fun i wr => w0.grownBy wr none ∧ ∃ k : Nat, k ≤ rs.length ∧ i = .int .i64 k ∧ (rs.take k).any (fun r => r.must && !(xs.find? (isA r.name r.kind)).isSome) = false) (fun i _ => rs.length - (intOf i).toNat)
      case atStart => exact ⟨hg, 0, Nat.zero_le _, rfl, rfl⟩
      case round =>
        obtain ⟨hgr, k, hk', rfl, hno⟩ := hrel
        have HNO := hide hno
        clear hno
        by_cases hlt2 : k < rs.length
        · have HRk := HR.out.more (grown_trans g0 hgr)
          obtain ⟨rb, ro, rfl⟩ := HRk.addr hlt2
          obtain ⟨a0, a1, a2⟩ := HRk.ra k hlt2
          have HRK : Hid (rs[k]? = some rs[k]) := List.getElem?_eq_getElem hlt2
          obtain ⟨R, hR⟩ : ∃ R, R = rs[k] := ⟨_, rfl⟩
          rw [← hR] at a0 a1 a2 HRK
          clear HRk hR
          obtain ⟨W1, hW1⟩ : ∃ W1, W1 = wr.alloc (.cells #[.string R.name, .int .i64 R.kind, .bool R.must] 198) := ⟨_, rfl⟩
          have G1 : wr.grownBy W1 none := by rw [hW1]; exact grown_new _ _
          have B1 := heap_alloc_new wr (.cells #[.string R.name, .int .i64 R.kind, .bool R.must] 198)
          have HZ1 : Hid (W1.heap.size = wr.heap.size + 1 ∧ w.heap.size < wr.heap.size) := by
            refine ⟨by rw [hW1]; simp, ?_⟩
            exact (Array.getElem?_eq_some_iff.1 (BX.out wr hgr)).1
          rw [← hW1] at B1
          have RB : Hid (∀ wx, W1.grownBy wx none → wx.heap[wr.heap.size]? = some (.cells #[.string R.name, .int .i64 R.kind, .bool R.must] 198 (0, 0))) := fun wx hx => box_kept B1 hx
          have g1 := grown_trans hgr G1
          have FN := hide (fun (p q : Nat) (wx : World) (hx : W1.grownBy wx none) (hp : wx.heap[p]? = some (.cells #[.string R.name] 9 (0, 0))) (hq : wx.heap[q]? = some (.cells #[.int .i64 R.kind] 3 (0, 0))) => first_named ⟨op, nam, ⟨ia, il, ic⟩, out, ⟨ao, xs.length, cap⟩⟩ xs p q R.name R.kind wx (HV.out.more (grown_trans (grown_trans g0 g1) hx)) hp hq)
          unfold nval at FN
          simp only at FN
          clear B1
          go_wp2
          rw [← hW1]
          clear hW1 a0 a1 a2
          go_cut [13] from 58 to 77 (fun b wx => b = .bool (xs.find? (isA R.name R.kind)).isSome ∧ W1.grownBy wx none)
          case first =>
            obtain ⟨n0, n1, n2, n3, n4⟩ := nod_cells (n := ⟨op, nam, ⟨ia, il, ic⟩, out, ⟨ao, xs.length, cap⟩⟩) (BX.out W1 g1)
            obtain ⟨q0, q1, q2⟩ := ra_cells (RB.out W1 (grown_refl _))
            have gd := grown_drew (grown_refl W1)
            cases hf : xs.find? (isA R.name R.kind) with
            | none =>
              have HF := hide hf
              rw [hf] at FN
              simp only [Option.getD_none, aval, noAtr, Option.isSome_none] at FN ⊢
              go_region_held3 (fun w' => w'.cell? ⟨w.heap.size, 0, none⟩ = some (.string op) ∧ w'.cell? ⟨w.heap.size, 1, none⟩ = some (.string nam) ∧ w'.cell? ⟨w.heap.size, 2, none⟩ = some (.slice ia il ic) ∧ w'.cell? ⟨w.heap.size, 3, none⟩ = some (.string out) ∧ w'.cell? ⟨w.heap.size, 4, none⟩ = some (.slice ao xs.length cap) ∧ w'.cell? ⟨wr.heap.size, 0, none⟩ = some (.string R.name) ∧ w'.cell? ⟨wr.heap.size, 1, none⟩ = some (.int .i64 R.kind) ∧ w'.cell? ⟨wr.heap.size, 2, none⟩ = some (.bool R.must)) (go_keep) (first | (go_at_call 101; refine (named_any _ _ _).mono ?_; rintro e v1 ⟨rfl, hp1, hq1, hg1⟩; have g1_v1 : W1.grownBy v1 none := (by first | exact grown_trans gd hg1 | exact grown_trans (grown_drew (grown_new W1 _)) hg1); obtain ⟨n0, n1, n2, n3, n4⟩ := nod_cells (n := ⟨op, nam, ⟨ia, il, ic⟩, out, ⟨ao, xs.length, cap⟩⟩) (BX.out v1 (grown_trans g1 g1_v1)); obtain ⟨q0, q1, q2⟩ := ra_cells (RB.out v1 g1_v1); have y1 : w.heap.size ≠ v1.heap.size := (by have := g1_v1.size; have := HZ1.out; omega); have y1' := y1.symm; have y2 : wr.heap.size ≠ v1.heap.size := (by have := g1_v1.size; have := HZ1.out; omega); have y2' := y2.symm; have y3 : w.heap.size ≠ W1.heap.size := (by have := HZ1.out; omega); have y3' := y3.symm; have y4 : wr.heap.size ≠ W1.heap.size := (by have := HZ1.out; omega); have y4' := y4.symm; try (have hp2 : v1.heap[W1.heap.size + 1]? = some (.cells #[.string R.name] 9 (0, 0)) := (by have h := hp1; rw [show ((W1.alloc (.cells #[.string ⟨#[]⟩, .int .i64 0, .int .i64 0, .int .i64 0, .string ⟨#[]⟩, .int .i64 0, .slice none 0 0, .slice none 0 0, .slice none 0 0] 38)).drew).heap.size = W1.heap.size + 1 by simp] at h; exact h)); try (have hq2 : v1.heap[W1.heap.size + 1 + 1]? = some (.cells #[.int .i64 R.kind] 3 (0, 0)) := (by have h := hq1; rw [show ((W1.alloc (.cells #[.string ⟨#[]⟩, .int .i64 0, .int .i64 0, .int .i64 0, .string ⟨#[]⟩, .int .i64 0, .slice none 0 0, .slice none 0 0, .slice none 0 0] 38)).drew).heap.size = W1.heap.size + 1 by simp] at h; exact h)); try (have kz : v1.heap[W1.heap.size]? = some (.cells #[.string ⟨#[]⟩, .int .i64 0, .int .i64 0, .int .i64 0, .string ⟨#[]⟩, .int .i64 0, .slice none 0 0, .slice none 0 0, .slice none 0 0] 38 (0, 0)) := box_kept (show ((W1.alloc (.cells #[.string ⟨#[]⟩, .int .i64 0, .int .i64 0, .int .i64 0, .string ⟨#[]⟩, .int .i64 0, .slice none 0 0, .slice none 0 0, .slice none 0 0] 38)).drew).heap[W1.heap.size]? = _ from heap_alloc_new W1 _) hg1)) | (go_at_call 100; refine (FN.out _ _ _ (by first | exact g1_v1 | exact grown_trans g1_v1 (grown_new _ _)) (by first | exact hp1 | exact hp2 | exact box_kept hp1 (grown_new _ _)) (by first | exact hq1 | exact hq2 | exact box_kept hq1 (grown_new _ _))).mono ?_; rintro e v2 ⟨rfl, hg2⟩; have g1_v2 : W1.grownBy v2 none := (by first | exact grown_trans g1_v1 hg2 | exact grown_trans (grown_trans g1_v1 (grown_new _ _)) hg2); obtain ⟨n0, n1, n2, n3, n4⟩ := nod_cells (n := ⟨op, nam, ⟨ia, il, ic⟩, out, ⟨ao, xs.length, cap⟩⟩) (BX.out v2 (grown_trans g1 g1_v2)); obtain ⟨q0, q1, q2⟩ := ra_cells (RB.out v2 g1_v2); try (first | have kz2 := box_kept kz hg2 | have kz2 : v2.heap[v1.heap.size]? = some (.cells #[.string ⟨#[]⟩, .int .i64 0, .int .i64 0, .int .i64 0, .string ⟨#[]⟩, .int .i64 0, .slice none 0 0, .slice none 0 0, .slice none 0 0] 38 (0, 0)) := box_kept (heap_alloc_new v1 _) hg2); try (obtain ⟨f0, f1, f2, f3, f4, f5, f6, f7, f8⟩ := atr_frozen kz2); try (obtain ⟨k0, k1, k2, k3, k4, k5, k6, k7, k8⟩ := atr_cells (a := noAtr) kz2)))
              · have GG := hide g1_v2
                go_wp2_with fail
                go_meet
                exact ⟨by rw [HF.out]; rfl, grown_trans GG.out (grown_new v2 _)⟩
              · obtain ⟨-, gX⟩ := store9 (.string ⟨#[]⟩) (.int .i64 0) (.int .i64 0) (.int .i64 0) (.string ⟨#[]⟩) (.int .i64 0) (.slice none 0 0) (.slice none 0 0) (.slice none 0 0) g1_v2 (show W1.heap.size ≤ v1.heap.size from g1_v1.size) kz2
                have GX := hide gX
                clear gX
                go_wp2_with fail
                go_meet
                exact ⟨by rw [HF.out]; rfl, GX.out⟩
              · obtain ⟨-, gX⟩ := store9 (.string ⟨#[]⟩) (.int .i64 0) (.int .i64 0) (.int .i64 0) (.string ⟨#[]⟩) (.int .i64 0) (.slice none 0 0) (.slice none 0 0) (.slice none 0 0) g1_v2 (Nat.le_refl _) kz2
                have GX := hide gX
                clear gX
                go_wp2_with fail
                go_meet
                exact ⟨by rw [HF.out]; rfl, GX.out⟩
            | some a =>
              have HF := hide hf
              rw [hf] at FN
              simp only [Option.getD_some, aval, Option.isSome_some] at FN ⊢
              go_region_held3 (fun w' => w'.cell? ⟨w.heap.size, 0, none⟩ = some (.string op) ∧ w'.cell? ⟨w.heap.size, 1, none⟩ = some (.string nam) ∧ w'.cell? ⟨w.heap.size, 2, none⟩ = some (.slice ia il ic) ∧ w'.cell? ⟨w.heap.size, 3, none⟩ = some (.string out) ∧ w'.cell? ⟨w.heap.size, 4, none⟩ = some (.slice ao xs.length cap) ∧ w'.cell? ⟨wr.heap.size, 0, none⟩ = some (.string R.name) ∧ w'.cell? ⟨wr.heap.size, 1, none⟩ = some (.int .i64 R.kind) ∧ w'.cell? ⟨wr.heap.size, 2, none⟩ = some (.bool R.must)) (go_keep) (first | (go_at_call 101; refine (named_any _ _ _).mono ?_; rintro e v1 ⟨rfl, hp1, hq1, hg1⟩; have g1_v1 : W1.grownBy v1 none := (by first | exact grown_trans gd hg1 | exact grown_trans (grown_drew (grown_new W1 _)) hg1); obtain ⟨n0, n1, n2, n3, n4⟩ := nod_cells (n := ⟨op, nam, ⟨ia, il, ic⟩, out, ⟨ao, xs.length, cap⟩⟩) (BX.out v1 (grown_trans g1 g1_v1)); obtain ⟨q0, q1, q2⟩ := ra_cells (RB.out v1 g1_v1); have y1 : w.heap.size ≠ v1.heap.size := (by have := g1_v1.size; have := HZ1.out; omega); have y1' := y1.symm; have y2 : wr.heap.size ≠ v1.heap.size := (by have := g1_v1.size; have := HZ1.out; omega); have y2' := y2.symm; have y3 : w.heap.size ≠ W1.heap.size := (by have := HZ1.out; omega); have y3' := y3.symm; have y4 : wr.heap.size ≠ W1.heap.size := (by have := HZ1.out; omega); have y4' := y4.symm; try (have hp2 : v1.heap[W1.heap.size + 1]? = some (.cells #[.string R.name] 9 (0, 0)) := (by have h := hp1; rw [show ((W1.alloc (.cells #[.string ⟨#[]⟩, .int .i64 0, .int .i64 0, .int .i64 0, .string ⟨#[]⟩, .int .i64 0, .slice none 0 0, .slice none 0 0, .slice none 0 0] 38)).drew).heap.size = W1.heap.size + 1 by simp] at h; exact h)); try (have hq2 : v1.heap[W1.heap.size + 1 + 1]? = some (.cells #[.int .i64 R.kind] 3 (0, 0)) := (by have h := hq1; rw [show ((W1.alloc (.cells #[.string ⟨#[]⟩, .int .i64 0, .int .i64 0, .int .i64 0, .string ⟨#[]⟩, .int .i64 0, .slice none 0 0, .slice none 0 0, .slice none 0 0] 38)).drew).heap.size = W1.heap.size + 1 by simp] at h; exact h)); try (have kz : v1.heap[W1.heap.size]? = some (.cells #[.string ⟨#[]⟩, .int .i64 0, .int .i64 0, .int .i64 0, .string ⟨#[]⟩, .int .i64 0, .slice none 0 0, .slice none 0 0, .slice none 0 0] 38 (0, 0)) := box_kept (show ((W1.alloc (.cells #[.string ⟨#[]⟩, .int .i64 0, .int .i64 0, .int .i64 0, .string ⟨#[]⟩, .int .i64 0, .slice none 0 0, .slice none 0 0, .slice none 0 0] 38)).drew).heap[W1.heap.size]? = _ from heap_alloc_new W1 _) hg1)) | (go_at_call 100; refine (FN.out _ _ _ (by first | exact g1_v1 | exact grown_trans g1_v1 (grown_new _ _)) (by first | exact hp1 | exact hp2 | exact box_kept hp1 (grown_new _ _)) (by first | exact hq1 | exact hq2 | exact box_kept hq1 (grown_new _ _))).mono ?_; rintro e v2 ⟨rfl, hg2⟩; have g1_v2 : W1.grownBy v2 none := (by first | exact grown_trans g1_v1 hg2 | exact grown_trans (grown_trans g1_v1 (grown_new _ _)) hg2); obtain ⟨n0, n1, n2, n3, n4⟩ := nod_cells (n := ⟨op, nam, ⟨ia, il, ic⟩, out, ⟨ao, xs.length, cap⟩⟩) (BX.out v2 (grown_trans g1 g1_v2)); obtain ⟨q0, q1, q2⟩ := ra_cells (RB.out v2 g1_v2); try (first | have kz2 := box_kept kz hg2 | have kz2 : v2.heap[v1.heap.size]? = some (.cells #[.string ⟨#[]⟩, .int .i64 0, .int .i64 0, .int .i64 0, .string ⟨#[]⟩, .int .i64 0, .slice none 0 0, .slice none 0 0, .slice none 0 0] 38 (0, 0)) := box_kept (heap_alloc_new v1 _) hg2); try (obtain ⟨f0, f1, f2, f3, f4, f5, f6, f7, f8⟩ := atr_frozen kz2); try (obtain ⟨k0, k1, k2, k3, k4, k5, k6, k7, k8⟩ := atr_cells (a := noAtr) kz2)))
              · have GG := hide g1_v2
                go_wp2_with fail
                go_meet
                exact ⟨by rw [HF.out]; rfl, grown_trans GG.out (grown_new v2 _)⟩
              · obtain ⟨-, gX⟩ := store9 (.string a.name) (.int .i64 a.kind) (.int .i64 a.f) (.int .i64 a.i) (.string a.s) (.int .i64 a.ty) (.slice a.dv.a a.dv.n a.dv.c) (.slice a.tv.a a.tv.n a.tv.c) (.slice a.iv.a a.iv.n a.iv.c) g1_v2 (show W1.heap.size ≤ v1.heap.size from g1_v1.size) kz2
                have GX := hide gX
                clear gX
                go_wp2_with fail
                go_meet
                exact ⟨by rw [HF.out]; rfl, GX.out⟩
              · obtain ⟨-, gX⟩ := store9 (.string a.name) (.int .i64 a.kind) (.int .i64 a.f) (.int .i64 a.i) (.string a.s) (.int .i64 a.ty) (.slice a.dv.a a.dv.n a.dv.c) (.slice a.tv.a a.tv.n a.tv.c) (.slice a.iv.a a.iv.n a.iv.c) g1_v2 (Nat.le_refl _) kz2
                have GX := hide gX
                clear gX
                go_wp2_with fail
                go_meet
                exact ⟨by rw [HF.out]; rfl, GX.out⟩
          case rest =>
            obtain ⟨rfl, hgc⟩ := hcut
            obtain ⟨q0, q1, q2⟩ := ra_cells (RB.out wc hgc)
            have gc := grown_trans g1 hgc
            cases hm : R.must with
            | false =>
              have HS : Hid ((rs.take (k + 1)).any (fun r => r.must && !(xs.find? (isA r.name r.kind)).isSome) = false) := any_step' HNO.out HRK.out (by simp [hm])
              rw [hm] at q2
              go_wp2
              go_roundw
              case rel => exact ⟨gc, k + 1, by omega, by go_num, HS.out⟩
              case measure => simp [intOf]; omega
            | true =>
              rw [hm] at q2
              cases hs : (xs.find? (isA R.name R.kind)).isSome with
              | true =>
                have HS : Hid ((rs.take (k + 1)).any (fun r => r.must && !(xs.find? (isA r.name r.kind)).isSome) = false) := any_step' HNO.out HRK.out (by simp [hs])
                clear hs
                go_wp2
                go_roundw
                case rel => exact ⟨gc, k + 1, by omega, by go_num, HS.out⟩
                case measure => simp [intOf]; omega
              | false =>
                have E : Hid (attrsE rs xs = 4) := by
                  show _ = _
                  have h1 : lacks rs xs = true := List.any_eq_true.2 ⟨R, List.mem_of_getElem? HRK.out, by simp only [hm, hs]; rfl⟩
                  unfold attrsE
                  rw [HN.out]
                  simp [h1]
                clear hs
                go_wp2
                go_ret
                exact ⟨by rw [E.out]; rfl, grown_trans g0 gc⟩
        · obtain rfl : k = rs.length := by omega
          have E : Hid (attrsE rs xs = 0) := by
            show _ = _
            have h1 := HNO.out
            rw [List.take_of_length_le (Nat.le_refl _)] at h1
            unfold attrsE lacks
            rw [HN.out]
            simp only [h1]
            rfl
          go_wp2
          go_ret
          exact ⟨by rw [E.out]; rfl, grown_trans g0 hgr⟩

end Go.Proofs.YtkefdkboejimeaaGreatDoor

namespace Go.Proofs.YtkefdkboejimeaaGreatDoor

open Go.RowKit

def checkE (r : Option (Int × Int × List Ra)) (ins : List ByteArray) (out : ByteArray) (xs : List Atr) : Int := match r with
  | none => 5
  | some (lo, hi, rs) => if (ins.length : Int) < lo then 4 else if hi < (ins.length : Int) then 4 else if (out.toList == []) || ins.any (isS ⟨#[]⟩) then 5 else if attrsE rs xs = 0 then thenE (xs.find? (isA ⟨#[116, 104, 101, 110]⟩ 3)) else attrsE rs xs

end Go.Proofs.YtkefdkboejimeaaGreatDoor
