/- Joined texts: GBase, NFrame, GMap, GNames, GFound, GOrd, GLnk. -/
import Derived.Test.YtdcbjikjeicgbaaGreatDoorPartC
import Derived.Test.YtdcbjikjeicgbaaGreatDoorPartA
import Derived.LaidMore
import Derived.Stop.Joined
import Derived.Maps.OwnSet
import Derived.Maps.OwnOps
import Derived.Maps.Keyed
import Derived.Maps.AppendAt
/- Graphs: values, named tensors and nodes in lists. -/
namespace Go.Proofs.YtdcbjikjeicgbaaGreatDoor
open Go.RowKit

/-- A value, as its cells have it. -/
structure Val where
  name : ByteArray
  ty : Int
  dv : Sl

def vcells (v : Val) : List Value := [.string v.name, .int .i64 v.ty, .slice v.dv.a v.dv.n v.dv.c]

theorem vcells_len (v : Val) : (vcells v).length = 3 := rfl

/-- A named tensor, as its cells have it. -/
structure Nam where
  name : ByteArray
  ty : Int
  dv : Sl
  tv : Sl

def mcells (v : Nam) : List Value := [.string v.name, .int .i64 v.ty, .slice v.dv.a v.dv.n v.dv.c, .slice v.tv.a v.tv.n v.tv.c]

theorem mcells_len (v : Nam) : (mcells v).length = 4 := rfl

/-- A node's cells in a list. -/
def ncells (n : Nod) : List Value := [.string n.op, .string n.name, .slice n.iv.a n.iv.n n.iv.c, .string n.out, .slice n.av.a n.av.n n.av.c]

theorem ncells_len (n : Nod) : (ncells n).length = 5 := rfl

abbrev IsVals (w : World) (v : Value) (xs : List Val) : Prop := IsL 48 3 vcells w v xs
abbrev IsNams (w : World) (v : Value) (xs : List Nam) : Prop := IsL 72 4 mcells w v xs
abbrev IsNods (w : World) (v : Value) (xs : List Nod) : Prop := IsL 96 5 ncells w v xs

theorem IsL.val {w : World} {b off len cap : Nat} {xs : List Val} (h : IsL 48 3 vcells w (.slice (some ⟨b, off, none⟩) len cap) xs) (k : Nat) (hk : k < xs.length) :
    w.cell? ⟨b, off + k * 3, none⟩ = some (.string xs[k].name) ∧ w.cell? ⟨b, off + k * 3 + 1, none⟩ = some (.int .i64 xs[k].ty) ∧ w.cell? ⟨b, off + k * 3 + 2, none⟩ = some (.slice xs[k].dv.a xs[k].dv.n xs[k].dv.c) :=
  ⟨h.at k hk 0 (by omega), h.at k hk 1 (by omega), h.at k hk 2 (by omega)⟩

theorem IsL.nam {w : World} {b off len cap : Nat} {xs : List Nam} (h : IsL 72 4 mcells w (.slice (some ⟨b, off, none⟩) len cap) xs) (k : Nat) (hk : k < xs.length) :
    w.cell? ⟨b, off + k * 4, none⟩ = some (.string xs[k].name) ∧ w.cell? ⟨b, off + k * 4 + 1, none⟩ = some (.int .i64 xs[k].ty) ∧ w.cell? ⟨b, off + k * 4 + 2, none⟩ = some (.slice xs[k].dv.a xs[k].dv.n xs[k].dv.c) ∧ w.cell? ⟨b, off + k * 4 + 3, none⟩ = some (.slice xs[k].tv.a xs[k].tv.n xs[k].tv.c) :=
  ⟨h.at k hk 0 (by omega), h.at k hk 1 (by omega), h.at k hk 2 (by omega), h.at k hk 3 (by omega)⟩

theorem IsL.nod {w : World} {b off len cap : Nat} {xs : List Nod} (h : IsL 96 5 ncells w (.slice (some ⟨b, off, none⟩) len cap) xs) (k : Nat) (hk : k < xs.length) :
    w.cell? ⟨b, off + k * 5, none⟩ = some (.string xs[k].op) ∧ w.cell? ⟨b, off + k * 5 + 1, none⟩ = some (.string xs[k].name) ∧ w.cell? ⟨b, off + k * 5 + 2, none⟩ = some (.slice xs[k].iv.a xs[k].iv.n xs[k].iv.c) ∧ w.cell? ⟨b, off + k * 5 + 3, none⟩ = some (.string xs[k].out) ∧ w.cell? ⟨b, off + k * 5 + 4, none⟩ = some (.slice xs[k].av.a xs[k].av.n xs[k].av.c) :=
  ⟨h.at k hk 0 (by omega), h.at k hk 1 (by omega), h.at k hk 2 (by omega), h.at k hk 3 (by omega), h.at k hk 4 (by omega)⟩

/-- A graph, as its cells have it. -/
structure Gra where
  name : ByteArray
  nv : Sl
  iv : Sl
  ov : Sl
  tv : Sl

def gval (g : Gra) : Value := .agg #[.string g.name, .slice g.nv.a g.nv.n g.nv.c, .slice g.iv.a g.iv.n g.iv.c, .slice g.ov.a g.ov.n g.ov.c, .slice g.tv.a g.tv.n g.tv.c]

theorem gra_cells {w : World} {B : Nat} {g : Gra} {t : TypeId} (hb : w.heap[B]? = some (.cells #[.string g.name, .slice g.nv.a g.nv.n g.nv.c, .slice g.iv.a g.iv.n g.iv.c, .slice g.ov.a g.ov.n g.ov.c, .slice g.tv.a g.tv.n g.tv.c] t (0, 0))) :
    w.cell? ⟨B, 0, none⟩ = some (.string g.name) ∧ w.cell? ⟨B, 1, none⟩ = some (.slice g.nv.a g.nv.n g.nv.c) ∧ w.cell? ⟨B, 2, none⟩ = some (.slice g.iv.a g.iv.n g.iv.c) ∧ w.cell? ⟨B, 3, none⟩ = some (.slice g.ov.a g.ov.n g.ov.c) ∧ w.cell? ⟨B, 4, none⟩ = some (.slice g.tv.a g.tv.n g.tv.c) :=
  ⟨(cell_of_row _ _ 0 _ _ (0, 0) hb).trans rfl, (cell_of_row _ _ 1 _ _ (0, 0) hb).trans rfl, (cell_of_row _ _ 2 _ _ (0, 0) hb).trans rfl, (cell_of_row _ _ 3 _ _ (0, 0) hb).trans rfl, (cell_of_row _ _ 4 _ _ (0, 0) hb).trans rfl⟩

/-- A node that stands in a list: its inputs, its attributes, and what their lists hold. -/
structure Nc where
  n : Nod
  ins : List ByteArray
  xs : List Atr
  cs : List Cont

/-- A graph that comes in: what its lists hold. -/
structure GraphIn (w : World) (g : Gra) (nds : List Nc) (vin vout : List (Val × List Int)) (its : List (Nam × List Int × List Int)) : Prop where
  nodes : IsNods w g.nv.v (nds.map (·.n))
  ins : IsVals w g.iv.v (vin.map (·.1))
  outs : IsVals w g.ov.v (vout.map (·.1))
  inits : IsNams w g.tv.v (its.map (·.1))
  node : ∀ c ∈ nds, NodeIn w c.n c.ins c.xs c.cs
  din : ∀ p ∈ vin, IsInts w p.1.dv.v p.2
  dout : ∀ p ∈ vout, IsInts w p.1.dv.v p.2
  dinit : ∀ p ∈ its, IsInts w p.1.dv.v p.2.1 ∧ IsInts w p.1.tv.v p.2.2
  short : ∀ p ∈ vin, p.1.name.size ≤ 1048576
  few : nds.length ≤ 1048576 ∧ vin.length ≤ 1048576 ∧ vout.length ≤ 1048576 ∧ its.length ≤ 1048576

theorem GraphIn.more {w w' : World} {g : Gra} {nds : List Nc} {vin vout : List (Val × List Int)} {its : List (Nam × List Int × List Int)} (h : GraphIn w g nds vin vout its) (hg : w.grownBy w' none) : GraphIn w' g nds vin vout its :=
  ⟨h.nodes.more hg, h.ins.more hg, h.outs.more hg, h.inits.more hg, fun c hc => (h.node c hc).more hg, fun p hp => (h.din p hp).more hg, fun p hp => (h.dout p hp).more hg, fun p hp => ⟨(h.dinit p hp).1.more hg, (h.dinit p hp).2.more hg⟩, h.short, h.few⟩
end Go.Proofs.YtdcbjikjeicgbaaGreatDoor

/- What the package's list holds when a call begins (mkNFrame.py). -/
namespace Go.Proofs.YtdcbjikjeicgbaaGreatDoor
open Go.ChangeShapes Go.WideShapes Go.ChangeAt Go.WideMaps Go.WideElems Go.RowKit

theorem gOnes : Tryz.prog.globalNamed "mandrel/schema.ofOne" = some 0 := by kernel_rfl
theorem tOnes : (Tryz.prog.globals[0]?).map (·.type) = some 207 := by kernel_rfl
theorem cStr : Tryz.prog.cellsOf 9 = 1 := by kernel_rfl

abbrev laidL : List (String × DataW Unit) := [("mandrel/schema.ofOne", Rows.laid_mandrel_schema_ofOne)]

theorem door_met (os : Os) (args : Array Value) : laidMetH Tryz.prog laidL ((World.doorLaid Tryz.prog 400 os).forCall (fun _ _ => 0) ⟨#[], args, []⟩).memory :=
  laidMetH_of_parts3 (fuel := 8) (laidMet_of_run' 8 (by kernel_rfl) (by kernel_rfl)) (by kernel_rfl) (by kernel_rfl)

set_option maxRecDepth 100000 in
theorem of_laid {W : World} (h : laidMetH Tryz.prog laidL W) : Laid W := by
  rw [MakeChecks.laidMetH_plain _ _ _ (by kernel_rfl)] at h
  obtain ⟨ps, ⟨g0, t0, cs0, f0, p0, q0, hg0, ht0, hv0, hd0, _, _⟩, _, _⟩ := h
  obtain rfl := Option.some.inj (gOnes.symm.trans hg0)
  obtain rfl := Option.some.inj (tOnes.symm.trans ht0)
  obtain ⟨xs, m1, rfl, hx1, hlen, hn3, hel⟩ := DataW.trod_array Tryz.underlying207 hd0
  have hc := fun j => World.var?_cell hg0 hv0 j
  simp only [Prod.mk.injEq, DataW.agg.injEq, Rows.laid_mandrel_schema_ofOne] at hx1
  have key : ∀ (i : Nat) (n : List UInt8), i < 10 → (xs.map (fun x => x.fst))[i]? = some (.lit (.string n)) → W.cell? ⟨0, i, none⟩ = some (.string ⟨n.toArray⟩) := by
    intro i n hi hn
    have h := hel i hi
    rw [cStr, Nat.mul_one] at h
    rw [List.getElem?_map] at hn
    cases hx : xs[i]? with
    | none => rw [hx] at hn; cases hn
    | some x =>
      rw [hx] at h hn
      obtain ⟨s, e1, e2, -⟩ := DataW.trod_string Tryz.underlying9 h
      rw [e2] at hn
      simp only [Option.map_some, Option.some.injEq, DataW.lit.injEq, Lit.string.injEq] at hn
      rw [hc i, ← Array.getElem?_toList]
      have h3 : cs0.toList[i]? = some (.string s) := by
        have h4 : (List.take 1 (List.drop i cs0.toList))[0]? = some (.string s) := by rw [e1]; rfl
        simpa [List.getElem?_take, List.getElem?_drop] using h4
      rw [h3, ← hn]
  rw [← hx1.1] at key
  exact ⟨key 0 _ (by decide) rfl, key 1 _ (by decide) rfl, key 2 _ (by decide) rfl, key 3 _ (by decide) rfl, key 4 _ (by decide) rfl, key 5 _ (by decide) rfl, key 6 _ (by decide) rfl, key 7 _ (by decide) rfl, key 8 _ (by decide) rfl, key 9 _ (by decide) rfl⟩
end Go.Proofs.YtdcbjikjeicgbaaGreatDoor

/- A map from names to their places: what it says, and numbered, by the walk. -/
namespace Go.Proofs.YtdcbjikjeicgbaaGreatDoor
open Go.RowKit

theorem strKeyed : Maps.Keyed Tryz.prog 9 := Maps.string_keyed Tryz.underlying9

theorem key_str {s : ByteArray} (h : s.size ≤ 9223372036854775807) : keyOf Tryz.prog 9 (.string s) = some (.string s.data.toList) := by
  unfold keyOf
  rw [Tryz.underlying9]
  show mapKey Tryz.prog 9 (.string s) = _
  unfold mapKey
  rw [Tryz.underlying9]
  show (if s.size ≤ maxLen then some (Lit.string s.data.toList) else none) = _
  rw [if_pos (by simpa [maxLen] using h)]

/-- Is a name among others? -/
def inL (s : ByteArray) (l : List ByteArray) : Bool := l.any (fun x => x.data.toList == s.data.toList)

/-- A map that has the place of each name of a list. -/
def Nums (w : World) (b : Nat) (l : List ByteArray) : Prop := ∃ (D : DataW Unit) (n : Nat), w.ownsMap Tryz.prog 9 (plainElem Tryz.prog 3) b n D ∧ n ≤ l.length ∧
  (∀ s : ByteArray, Maps.has D (.string s.data.toList) = inL s l) ∧ ∀ (i : Nat) (x : ByteArray), l[i]? = some x → D.atKey (.string x.data.toList) (.lit (.int .i64 0)) = .lit (.int .i64 i)

theorem nums_nil (w : World) : Nums (w.alloc (.map #[] 0)) w.heap.size [] :=
  ⟨.map [], 0, World.ownsMap_made w _ _ _, Nat.le_refl _, fun s => rfl, fun i x h => by simp at h⟩

theorem Nums.more {w w' : World} {b : Nat} {l : List ByteArray} (h : Nums w b l) (hg : w.grownBy w' none) : Nums w' b l := by
  obtain ⟨D, n, h1, h2, h3, h4⟩ := h
  exact ⟨D, n, h1.kept hg (by simp), h2, h3, h4⟩

theorem nums_put {w' : World} {b n : Nat} {l : List ByteArray} {D : DataW Unit} {x : ByteArray} (hD : Maps.IsMap D) (hn : n ≤ l.length) (hh : ∀ s : ByteArray, Maps.has D (.string s.data.toList) = inL s l) (ha : ∀ (i : Nat) (x : ByteArray), l[i]? = some x → D.atKey (.string x.data.toList) (.lit (.int .i64 0)) = .lit (.int .i64 i)) (hx : inL x l = false)
    (h : w'.ownsMap Tryz.prog 9 (plainElem Tryz.prog 3) b (n + 1) (D.put (.string x.data.toList) (.lit (.int .i64 l.length)))) : Nums w' b (l ++ [x]) := by
  have hk : WideAt.IsKeyLit (.string x.data.toList) := by first | exact trivial | exact ⟨_, rfl⟩ | simp [WideAt.IsKeyLit]
  refine ⟨_, n + 1, h, by rw [List.length_append]; simp; omega, fun s => ?_, fun i y hy => ?_⟩
  · by_cases e : s.data.toList = x.data.toList
    · rw [e, Maps.has_put_same hD hk]
      unfold inL
      rw [List.any_append]
      simp [e]
    · rw [Maps.has_put_other (fun h => e (Lit.string.inj h)), hh]
      unfold inL
      rw [List.any_append]
      have : (x.data.toList == s.data.toList) = false := by rw [beq_eq_false_iff_ne]; exact fun h => e h.symm
      simp only [List.any_cons, this, List.any_nil, Bool.or_false]
  · by_cases hi : i < l.length
    · rw [List.getElem?_append_left hi] at hy
      have hne : y.data.toList ≠ x.data.toList := by
        intro e
        unfold inL at hx
        rw [List.any_eq_false] at hx
        exact hx y (List.mem_of_getElem? hy) (by rw [e]; simp)
      rw [Maps.atKey_put_other (fun h => hne (Lit.string.inj h))]
      exact ha i y hy
    · have hi2 : i = l.length := by
        have := (List.getElem?_eq_some_iff.1 hy).1
        rw [List.length_append] at this
        simp at this
        omega
      subst hi2
      rw [List.getElem?_append_right (Nat.le_refl _), Nat.sub_self] at hy
      obtain rfl : x = y := by simpa using hy
      exact Maps.atKey_put_same hD hk _ _

/-- How far a list's names are there and unlike: none, if one is not. -/
def namesOK : List ByteArray → List ByteArray → Bool
  | _, [] => true
  | acc, x :: l => !(inL x acc) && !(x.toList == []) && namesOK (acc ++ [x]) l

theorem namesOK_at {l : List ByteArray} {k : Nat} (hk : k < l.length) : namesOK (l.take k) (l.drop k) = (!(inL l[k] (l.take k)) && !(l[k].toList == []) && namesOK (l.take (k + 1)) (l.drop (k + 1))) := by
  rw [List.drop_eq_getElem_cons hk, namesOK, List.take_add_one, List.getElem?_eq_getElem hk]
  rfl

theorem run_make (n : Int) (w : World) : (Instr.makeMap 118 (some (.int .i64 n))).run Tryz.prog w = .ok (.map (some w.heap.size)) (w.alloc (.map #[] 0)) := by
  simp [Instr.makeMap, run_underlying Tryz.underlying118, asInt, asIntOf, Result.andThen]

theorem zeroInt (w : World) : (zeroValue 3).run Tryz.prog w = .ok (.int .i64 0) w := by kernel_rfl

set_option maxRecDepth 100000 in
set_option maxHeartbeats 3200000 in
theorem numbered_any (v : Value) (l : List ByteArray) (w : World) (hv : IsStrs w v l) (hs : ∀ x ∈ l, x.size ≤ 1048576) :
    Calls Tryz.prog 149 #[v] w fun e w' => w.grownBy w' none ∧ ((namesOK [] l = true ∧ ∃ b, w.heap.size ≤ b ∧ e = .returned (.tuple #[.map (some b), .bool true]) ∧ Nums w' b l) ∨ (namesOK [] l = false ∧ e = .returned (.tuple #[.map none, .bool false]))) := by
  have HV := hide hv
  have HS := hide hs
  obtain ⟨va, vc, rfl, h1, h2, h3⟩ := hv.form
  clear hv hs
  have mk := run_make (l.length : Int) w
  obtain ⟨w0, hw0⟩ : ∃ w0, w0 = w.alloc (.map #[] 0) := ⟨_, rfl⟩
  have g0 : w.grownBy w0 none := by rw [hw0]; exact grown_new _ _
  have S0 : Hid (w0.heap.size = w.heap.size + 1) := by show _ = _; rw [hw0]; simp
  have N0 : Hid (Nums w0 w.heap.size []) := by show Nums _ _ _; rw [hw0]; exact nums_nil w
  go_enter Tryz.func149, Tryz.ntmps149
  go_wp2_with fail
  rw [← hw0]
  clear hw0 mk
  go_loopw [14] (fun i wr => w0.grownBy wr (some w.heap.size) ∧ ∃ k : Nat, k ≤ l.length ∧ i = .int .i64 k ∧ Nums wr w.heap.size (l.take k) ∧ namesOK [] l = namesOK (l.take k) (l.drop k)) (fun i _ => l.length - (intOf i).toNat)
  case atStart => exact ⟨World.grownBy.refl _ _, 0, Nat.zero_le _, rfl, N0.out, rfl⟩
  case round =>
    obtain ⟨hg, k, hk, rfl, hnum, hok⟩ := hrel
    have HNM := hide hnum
    have HOK := hide hok
    have GW : Hid (w.grownBy wr none) := grown_trans_row g0 hg (fun r e => by cases e; exact Nat.le_refl _)
    clear hnum hok
    by_cases hlt : k < l.length
    · have HVk := HV.out.more GW.out
      obtain ⟨vb, vo, rfl⟩ := HVk.addr hlt
      have a0 := str_at HVk k hlt
      have HN1 := hide (namesOK_at hlt)
      have HX : Hid (l[k].size ≤ 1048576) := HS.out _ (List.getElem_mem hlt)
      have HT : Hid (l.take (k + 1) = l.take k ++ [l[k]]) := by show _ = _; rw [List.take_add_one, List.getElem?_eq_getElem hlt]; rfl
      have HTL : Hid ((l.take k).length = k) := by show _ = _; rw [List.length_take]; omega
      obtain ⟨X, hX⟩ : ∃ X, X = l[k] := ⟨_, rfl⟩
      rw [← hX] at a0 HN1 HX HT
      clear HVk hX
      obtain ⟨D, n, d1, d2, d3, d4⟩ := HNM.out
      have D1 := hide d1
      have D3 := hide d3
      have KX : Hid (keyOf Tryz.prog 9 (.string X) = some (.string X.data.toList)) := key_str (by have := HX.out; omega)
      have hnk : n ≤ k := by have := HTL.out; omega
      clear d1 d3
      cases hin : inL X (l.take k) with
      | true =>
        have hhas : Maps.has D (.string X.data.toList) = true := (D3.out X).trans hin
        have E : Hid (namesOK [] l = false) := by show _ = _; rw [HOK.out, HN1.out, hin]; rfl
        clear hin
        go_wp2_with (at_lookup; refine wpList_lookup_own_ok_int _ rfl (.tmp 20) (.tmp 21) 118 rfl 9 3 .i64 strKeyed Tryz.underlying118 Tryz.underlying3 (zeroInt _) w.heap.size n D rfl D1.out (.string X) (.string X.data.toList) rfl KX.out ?_; intro cc hat hwc; rw [hhas])
        go_ret2
        exact ⟨GW.out, Or.inr ⟨E.out, rfl⟩⟩
      | false =>
        have hhas : Maps.has D (.string X.data.toList) = false := (D3.out X).trans hin
        have HIN := hide hin
        clear hin
        by_cases hem : (X.toList == []) = true
        · have E : Hid (namesOK [] l = false) := by show _ = _; rw [HOK.out, HN1.out, HIN.out, hem]; rfl
          go_wp2_with (at_lookup; refine wpList_lookup_own_ok_int _ rfl (.tmp 20) (.tmp 21) 118 rfl 9 3 .i64 strKeyed Tryz.underlying118 Tryz.underlying3 (zeroInt _) w.heap.size n D rfl D1.out (.string X) (.string X.data.toList) rfl KX.out ?_; intro cc hat hwc; rw [hhas])
          go_ret2
          exact ⟨GW.out, Or.inr ⟨E.out, rfl⟩⟩
        · have hem' : (X.toList == []) = false := by simpa using hem
          have E : Hid (namesOK [] l = namesOK (l.take (k + 1)) (l.drop (k + 1))) := by show _ = _; rw [HOK.out, HN1.out, HIN.out, hem']; rfl
          have hwf : plainElem (H := Unit) Tryz.prog 3 (.int .i64 (k : Int)) = some (.lit (.int .i64 (k : Int)), []) := plainElem_int Tryz.underlying3 (by have e : IntKind.i64.min = -9223372036854775808 := (by decide); have e2 : IntKind.i64.max = 9223372036854775807 := (by decide); simp [Lit.wf, e, e2]; omega)
          have HWF := hide hwf
          clear hem hwf
          go_wp2_with (first | (at_lookup; refine wpList_lookup_own_ok_int _ rfl (.tmp 20) (.tmp 21) 118 rfl 9 3 .i64 strKeyed Tryz.underlying118 Tryz.underlying3 (zeroInt _) w.heap.size n D rfl D1.out (.string X) (.string X.data.toList) rfl KX.out ?_; intro cc hat hwc; rw [hhas]) | (at_mapUpdate; refine wpList_mapUpdate_own _ rfl (.tmp 30) (.tmp 31) (.tmp 32) 118 rfl 9 3 strKeyed Tryz.underlying118 (plainElem Tryz.prog 3) w.heap.size n D rfl D1.out (by simp only [maxLen]; omega) (.string X) (.int .i64 (k : Int)) (.string X.data.toList) rfl rfl KX.out (.lit (.int .i64 (k : Int))) [] HWF.out ?_; intro w5 hown5 hgrow5))
          have ST : Hid (Nums w5 w.heap.size (l.take (k + 1))) := by
            show Nums _ _ _
            rw [HT.out]
            exact nums_put D1.out.isMap (by have := HTL.out; omega) D3.out d4 HIN.out (by have e := HTL.out; rw [e]; exact hown5)
          have G5 : Hid (w0.grownBy w5 (some w.heap.size)) := grown_same hg hgrow5
          clear hown5 hgrow5
          go_roundw
          case rel => exact ⟨G5.out, k + 1, by omega, by go_num, ST.out, E.out⟩
          case measure => simp [intOf]; omega
    · obtain rfl : k = l.length := by omega
      have E : Hid (namesOK [] l = true) := by show _ = _; rw [HOK.out, List.drop_of_length_le (Nat.le_refl _)]; rfl
      rw [List.take_of_length_le (Nat.le_refl _)] at HNM
      go_wp2
      go_ret2
      exact ⟨GW.out, Or.inl ⟨E.out, w.heap.size, Nat.le_refl _, rfl, HNM.out⟩⟩

set_option maxRecDepth 100000 in
set_option maxHeartbeats 3200000 in
theorem allin_any (b : Nat) (v : Value) (l xs : List ByteArray) (w : World) (hn : Nums w b l) (hv : IsStrs w v xs) (hs : ∀ x ∈ xs, x.size ≤ 1048576) :
    Calls Tryz.prog 203 #[.map (some b), v] w fun e w' => e = .returned (.bool (xs.all (fun x => inL x l))) ∧ w' = w := by
  have HV := hide hv
  have HS := hide hs
  obtain ⟨va, vc, rfl, h1, h2, h3⟩ := hv.form
  obtain ⟨D, n, d1, d2, d3, d4⟩ := hn
  have D1 := hide d1
  have D3 := hide d3
  clear hv hs d1 d3 d4
  go_enter Tryz.func203, Tryz.ntmps203
  go_wp2_with fail
  go_loopw [11] (fun i wr => wr = w ∧ ∃ k : Nat, k ≤ xs.length ∧ i = .int .i64 k ∧ (xs.take k).all (fun x => inL x l) = true) (fun i _ => xs.length - (intOf i).toNat)
  case atStart => exact ⟨rfl, 0, Nat.zero_le _, rfl, rfl⟩
  case round =>
    obtain ⟨rfl, k, hk, rfl, hall⟩ := hrel
    have HALL := hide hall
    clear hall
    by_cases hlt : k < xs.length
    · have HVk := HV.out
      obtain ⟨vb, vo, rfl⟩ := HVk.addr hlt
      have a0 := str_at HVk k hlt
      have HX : Hid (xs[k].size ≤ 1048576) := HS.out _ (List.getElem_mem hlt)
      have HK : Hid (xs[k]? = some xs[k]) := List.getElem?_eq_getElem hlt
      obtain ⟨X, hX⟩ : ∃ X, X = xs[k] := ⟨_, rfl⟩
      rw [← hX] at a0 HX HK
      clear HVk hX
      have KX : Hid (keyOf Tryz.prog 9 (.string X) = some (.string X.data.toList)) := key_str (by have := HX.out; omega)
      cases hin : inL X l with
      | true =>
        have hhas : Maps.has D (.string X.data.toList) = true := (D3.out X).trans hin
        have HN : Hid ((xs.take (k + 1)).all (fun x => inL x l) = true) := by show _ = _; rw [List.take_add_one, List.all_append, HALL.out, HK.out]; simp [hin]
        clear hin
        go_wp2_with (at_lookup; refine wpList_lookup_own_ok_int _ rfl (.tmp 16) (.tmp 17) 118 rfl 9 3 .i64 strKeyed Tryz.underlying118 Tryz.underlying3 (zeroInt _) b n D rfl D1.out (.string X) (.string X.data.toList) rfl KX.out ?_; intro cc hat hwc; rw [hhas])
        go_roundw
        case rel => exact ⟨by trivial, k + 1, by omega, by go_num, HN.out⟩
        case measure => simp [intOf]; omega
      | false =>
        have hhas : Maps.has D (.string X.data.toList) = false := (D3.out X).trans hin
        have E : Hid (xs.all (fun x => inL x l) = false) := by show _ = _; rw [List.all_eq_false]; exact ⟨X, List.mem_of_getElem? HK.out, by rw [hin]; decide⟩
        clear hin
        go_wp2_with (at_lookup; refine wpList_lookup_own_ok_int _ rfl (.tmp 16) (.tmp 17) 118 rfl 9 3 .i64 strKeyed Tryz.underlying118 Tryz.underlying3 (zeroInt _) b n D rfl D1.out (.string X) (.string X.data.toList) rfl KX.out ?_; intro cc hat hwc; rw [hhas])
        go_ret
        exact ⟨by rw [E.out]; rfl, rfl⟩
    · obtain rfl : k = xs.length := by omega
      have E : Hid (xs.all (fun x => inL x l) = true) := by have := HALL.out; rwa [List.take_of_length_le (Nat.le_refl _)] at this
      go_wp2
      go_ret
      exact ⟨by rw [E.out]; rfl, rfl⟩
end Go.Proofs.YtdcbjikjeicgbaaGreatDoor

/- The names of a graph's values and outputs, by the walk (mkGNames.py). -/
namespace Go.Proofs.YtdcbjikjeicgbaaGreatDoor
open Go.RowKit

theorem owns_snocS {w : World} {base : Nat} {v : Value} {L : List ByteArray} {x : ByteArray} (h : w.ownsRow base 9 1 v (L.length + 1) (L.flatMap scell ++ [.string x])) : OwnsS w base v (L ++ [x]) := by
  unfold OwnsS OwnsL
  rw [List.length_append, List.flatMap_append]
  exact h

set_option maxRecDepth 100000 in
set_option maxHeartbeats 6400000 in
theorem valuenames_any (g : Gra) (nds : List Nod) (vin vout : List Val) (its : List Nam) (w : World) (h1 : IsNods w g.nv.v nds) (h2 : IsVals w g.iv.v vin) (h3 : IsVals w g.ov.v vout) (h4 : IsNams w g.tv.v its) (hf : nds.length ≤ 1048576 ∧ vin.length ≤ 1048576 ∧ vout.length ≤ 1048576 ∧ its.length ≤ 1048576) :
    Calls Tryz.prog 150 #[gval g] w fun e w' => ∃ u : Sl, e = .returned u.v ∧ OwnsS w' w.heap.size u.v (vin.map (·.name) ++ its.map (·.name) ++ nds.map (·.out)) ∧ w.grownBy w' none := by
  obtain ⟨i0, hi, hz0, hz1, hz2⟩ := info_parts infoStr
  obtain ⟨nam, ⟨na0, nn, nc0⟩, ⟨ia, iN, ic⟩, ⟨oa, oN, oc⟩, ⟨ta, tN, tc⟩⟩ := g
  have H1 := hide h1
  have H2 := hide h2
  have H3 := hide h3
  have H4 := hide h4
  obtain ⟨xa, xc, e1, p1, p2, p3⟩ := h1.form
  obtain ⟨rfl, rfl, rfl⟩ : na0 = xa ∧ nn = nds.length ∧ nc0 = xc := by simpa [Sl.v] using e1
  obtain ⟨ya, yc, e2, p4, p5, p6⟩ := h2.form
  obtain ⟨rfl, rfl, rfl⟩ : ia = ya ∧ iN = vin.length ∧ ic = yc := by simpa [Sl.v] using e2
  obtain ⟨za, zc, e3, p7, p8, p9⟩ := h3.form
  obtain ⟨rfl, rfl, rfl⟩ : oa = za ∧ oN = vout.length ∧ oc = zc := by simpa [Sl.v] using e3
  obtain ⟨qa, qc, e4, p10, p11, p12⟩ := h4.form
  obtain ⟨rfl, rfl, rfl⟩ : ta = qa ∧ tN = its.length ∧ tc = qc := by simpa [Sl.v] using e4
  obtain ⟨f1, f2, f3, f4⟩ := hf
  clear h1 h2 h3 h4 e1 e2 e3 e4
  unfold gval
  simp only
  obtain ⟨w0, hw0⟩ : ∃ w0, w0 = w.alloc (.cells #[.string nam, .slice na0 nds.length nc0, .slice ia vin.length ic, .slice oa vout.length oc, .slice ta its.length tc] 42) := ⟨_, rfl⟩
  have g0 : w.grownBy w0 none := by rw [hw0]; exact grown_new _ _
  have b0 := heap_alloc_new w (.cells #[.string nam, .slice na0 nds.length nc0, .slice ia vin.length ic, .slice oa vout.length oc, .slice ta its.length tc] 42)
  obtain ⟨r0, r1, r2, r3, r4⟩ := gra_cells (g := ⟨nam, ⟨na0, nds.length, nc0⟩, ⟨ia, vin.length, ic⟩, ⟨oa, vout.length, oc⟩, ⟨ta, its.length, tc⟩⟩) b0
  rw [← hw0] at b0
  have BX : Hid (∀ wx, w0.grownBy wx none → wx.heap[w.heap.size]? = some (.cells #[.string nam, .slice na0 nds.length nc0, .slice ia vin.length ic, .slice oa vout.length oc, .slice ta its.length tc] 42 (0, 0))) := fun wx hx => box_kept b0 hx
  clear b0
  go_enter Tryz.func150, Tryz.ntmps150
  go_wp2_with fail
  rw [← hw0]
  clear hw0 r0 r1 r2 r3 r4
  go_loopw [3, 13] (fun l i wr => w0.grownBy wr none ∧ ∃ k : Nat, k ≤ vin.length ∧ i = .int .i64 k ∧ OwnsS wr w0.heap.size l ((vin.take k).map (·.name))) (fun _ i _ => vin.length - (intOf i).toNat)
  case atStart => exact ⟨grown_refl _, 0, Nat.zero_le _, rfl, OwnsL.nil ..⟩
  case round =>
    obtain ⟨hg, k, hk, rfl, hown⟩ := hrel
    obtain ⟨L, hL⟩ : ∃ L, L = (vin.take k).map (·.name) := ⟨_, rfl⟩
    rw [← hL] at hown
    have HL := hide hL
    have hlen : L.length ≤ 4194304 := by rw [hL]; simp; omega
    have HO := hide hown
    obtain ⟨va, vc, rfl⟩ := OwnsL.form hown
    clear hown hL
    by_cases hlt : k < vin.length
    · have HLk := H2.out.more (grown_trans g0 hg)
      obtain ⟨b, off, rfl⟩ := HLk.addr hlt
      obtain ⟨a0, a1, a2⟩ := HLk.val k hlt
      have HK : Hid (vin[k]? = some vin[k]) := List.getElem?_eq_getElem hlt
      obtain ⟨A, hA⟩ : ∃ A, A = vin[k] := ⟨_, rfl⟩
      rw [← hA] at a0 a1 a2 HK
      clear HLk hA
      have OW : Hid (∀ o o', OwnsS ((wr.alloc o).alloc o') w0.heap.size (.slice va _ vc) L) := fun o o' => (HO.out.more (grown_new _ _)).more (grown_new _ _)
      have hsz := hg.size
      go_wp2_with (at_builtin; refine wpList_append_own _ rfl (.tmp 17) (.tmp 20) 22 rfl w0.heap.size 9 i0 (.string ⟨#[]⟩) 1 16 Tryz.underlying22 hi hz0 hz1 hz2 rfl (by decide) _ _ _ rfl (by exact OW.out _ _) ⟨wr.heap.size + 1, 0, none⟩ 1 1 [.string A.name] rfl rfl (by have h := cell_one_new (wr.alloc (.cells #[.string A.name, .int .i64 A.ty, .slice A.dv.a A.dv.n A.dv.c] 31)) (Value.string A.name) 9; simpa using h) (by simp [Value.oneCell']) (by simp only [maxLen]; omega) (by omega) (by simp; omega) ?_; intro v' w8 hown' hgrow _; obtain ⟨na, nc, rfl⟩ := own_form hown')
      have ST : Hid (w0.grownBy w8 none ∧ OwnsS w8 w0.heap.size (.slice na (L.length + 1) nc) ((vin.take (k + 1)).map (·.name))) := by
        refine ⟨grown_trans_row (grown_trans (grown_trans hg (grown_new wr (.cells #[.string A.name, .int .i64 A.ty, .slice A.dv.a A.dv.n A.dv.c] 31))) (grown_new _ (.cells #[.string A.name] 9))) hgrow (fun r e => (World.ownsRow.lt HO.out r e).1), ?_⟩
        have e : (vin.take (k + 1)).map (·.name) = L ++ [A.name] := by
          rw [HL.out, List.take_add_one, HK.out]
          simp
        rw [e]
        exact owns_snocS hown'
      clear hown' hgrow
      go_roundw
      case rel => exact ⟨ST.out.1, k + 1, by omega, by go_num, ST.out.2⟩
      case measure => simp [intOf]; omega
    · obtain rfl : k = vin.length := by omega
      obtain rfl := HL.out
      rw [List.take_of_length_le (Nat.le_refl _)] at HO
      rw [List.take_of_length_le (Nat.le_refl _)]
      obtain ⟨wp, rfl⟩ : ∃ wp, wp = wr := ⟨_, rfl⟩
      obtain ⟨r0, r1, r2, r3, r4⟩ := gra_cells (g := ⟨nam, ⟨na0, nds.length, nc0⟩, ⟨ia, vin.length, ic⟩, ⟨oa, vout.length, oc⟩, ⟨ta, its.length, tc⟩⟩) (BX.out wp hg)
      go_wp2_with fail
      clear r0 r1 r2 r3 r4
      go_loopw [3, 26] (fun l i wr => w0.grownBy wr none ∧ ∃ k : Nat, k ≤ its.length ∧ i = .int .i64 k ∧ OwnsS wr w0.heap.size l (vin.map (·.name) ++ (its.take k).map (·.name))) (fun _ i _ => its.length - (intOf i).toNat)
      case atStart => exact ⟨hg, 0, Nat.zero_le _, rfl, by simpa using HO.out⟩
      case round =>
        obtain ⟨hg, k, hk, rfl, hown⟩ := hrel
        obtain ⟨L, hL⟩ : ∃ L, L = vin.map (·.name) ++ (its.take k).map (·.name) := ⟨_, rfl⟩
        rw [← hL] at hown
        have HL := hide hL
        have hlen : L.length ≤ 4194304 := by rw [hL]; simp; omega
        have HO := hide hown
        obtain ⟨va, vc, rfl⟩ := OwnsL.form hown
        clear hown hL
        by_cases hlt : k < its.length
        · have HLk := H4.out.more (grown_trans g0 hg)
          obtain ⟨b, off, rfl⟩ := HLk.addr hlt
          obtain ⟨a0, a1, a2, a3⟩ := HLk.nam k hlt
          have HK : Hid (its[k]? = some its[k]) := List.getElem?_eq_getElem hlt
          obtain ⟨A, hA⟩ : ∃ A, A = its[k] := ⟨_, rfl⟩
          rw [← hA] at a0 a1 a2 a3 HK
          clear HLk hA
          have OW : Hid (∀ o o', OwnsS ((wr.alloc o).alloc o') w0.heap.size (.slice va _ vc) L) := fun o o' => (HO.out.more (grown_new _ _)).more (grown_new _ _)
          have hsz := hg.size
          go_wp2_with (at_builtin; refine wpList_append_own _ rfl (.tmp 30) (.tmp 33) 22 rfl w0.heap.size 9 i0 (.string ⟨#[]⟩) 1 16 Tryz.underlying22 hi hz0 hz1 hz2 rfl (by decide) _ _ _ rfl (by exact OW.out _ _) ⟨wr.heap.size + 1, 0, none⟩ 1 1 [.string A.name] rfl rfl (by have h := cell_one_new (wr.alloc (.cells #[.string A.name, .int .i64 A.ty, .slice A.dv.a A.dv.n A.dv.c, .slice A.tv.a A.tv.n A.tv.c] 74)) (Value.string A.name) 9; simpa using h) (by simp [Value.oneCell']) (by simp only [maxLen]; omega) (by omega) (by simp; omega) ?_; intro v' w8 hown' hgrow _; obtain ⟨na, nc, rfl⟩ := own_form hown')
          have ST : Hid (w0.grownBy w8 none ∧ OwnsS w8 w0.heap.size (.slice na (L.length + 1) nc) (vin.map (·.name) ++ (its.take (k + 1)).map (·.name))) := by
            refine ⟨grown_trans_row (grown_trans (grown_trans hg (grown_new wr (.cells #[.string A.name, .int .i64 A.ty, .slice A.dv.a A.dv.n A.dv.c, .slice A.tv.a A.tv.n A.tv.c] 74))) (grown_new _ (.cells #[.string A.name] 9))) hgrow (fun r e => (World.ownsRow.lt HO.out r e).1), ?_⟩
            have e : vin.map (·.name) ++ (its.take (k + 1)).map (·.name) = L ++ [A.name] := by
              rw [HL.out, List.take_add_one, HK.out]
              simp
            rw [e]
            exact owns_snocS hown'
          clear hown' hgrow
          go_roundw
          case rel => exact ⟨ST.out.1, k + 1, by omega, by go_num, ST.out.2⟩
          case measure => simp [intOf]; omega
        · obtain rfl : k = its.length := by omega
          obtain rfl := HL.out
          rw [List.take_of_length_le (Nat.le_refl _)] at HO
          rw [List.take_of_length_le (Nat.le_refl _)]
          obtain ⟨wp, rfl⟩ : ∃ wp, wp = wr := ⟨_, rfl⟩
          obtain ⟨r0, r1, r2, r3, r4⟩ := gra_cells (g := ⟨nam, ⟨na0, nds.length, nc0⟩, ⟨ia, vin.length, ic⟩, ⟨oa, vout.length, oc⟩, ⟨ta, its.length, tc⟩⟩) (BX.out wp hg)
          go_wp2_with fail
          clear r0 r1 r2 r3 r4
          go_loopw [3, 39] (fun l i wr => w0.grownBy wr none ∧ ∃ k : Nat, k ≤ nds.length ∧ i = .int .i64 k ∧ OwnsS wr w0.heap.size l (vin.map (·.name) ++ its.map (·.name) ++ (nds.take k).map (·.out))) (fun _ i _ => nds.length - (intOf i).toNat)
          case atStart => exact ⟨hg, 0, Nat.zero_le _, rfl, by simpa using HO.out⟩
          case round =>
            obtain ⟨hg, k, hk, rfl, hown⟩ := hrel
            obtain ⟨L, hL⟩ : ∃ L, L = vin.map (·.name) ++ its.map (·.name) ++ (nds.take k).map (·.out) := ⟨_, rfl⟩
            rw [← hL] at hown
            have HL := hide hL
            have hlen : L.length ≤ 4194304 := by rw [hL]; simp; omega
            have HO := hide hown
            obtain ⟨va, vc, rfl⟩ := OwnsL.form hown
            clear hown hL
            by_cases hlt : k < nds.length
            · have HLk := H1.out.more (grown_trans g0 hg)
              obtain ⟨b, off, rfl⟩ := HLk.addr hlt
              obtain ⟨a0, a1, a2, a3, a4⟩ := HLk.nod k hlt
              have HK : Hid (nds[k]? = some nds[k]) := List.getElem?_eq_getElem hlt
              obtain ⟨A, hA⟩ : ∃ A, A = nds[k] := ⟨_, rfl⟩
              rw [← hA] at a0 a1 a2 a3 a4 HK
              clear HLk hA
              have OW : Hid (∀ o o', OwnsS ((wr.alloc o).alloc o') w0.heap.size (.slice va _ vc) L) := fun o o' => (HO.out.more (grown_new _ _)).more (grown_new _ _)
              have hsz := hg.size
              go_wp2_with (at_builtin; refine wpList_append_own _ rfl (.tmp 43) (.tmp 46) 22 rfl w0.heap.size 9 i0 (.string ⟨#[]⟩) 1 16 Tryz.underlying22 hi hz0 hz1 hz2 rfl (by decide) _ _ _ rfl (by exact OW.out _ _) ⟨wr.heap.size + 1, 0, none⟩ 1 1 [.string A.out] rfl rfl (by have h := cell_one_new (wr.alloc (.cells #[.string A.op, .string A.name, .slice A.iv.a A.iv.n A.iv.c, .string A.out, .slice A.av.a A.av.n A.av.c] 25)) (Value.string A.out) 9; simpa using h) (by simp [Value.oneCell']) (by simp only [maxLen]; omega) (by omega) (by simp; omega) ?_; intro v' w8 hown' hgrow _; obtain ⟨na, nc, rfl⟩ := own_form hown')
              have ST : Hid (w0.grownBy w8 none ∧ OwnsS w8 w0.heap.size (.slice na (L.length + 1) nc) (vin.map (·.name) ++ its.map (·.name) ++ (nds.take (k + 1)).map (·.out))) := by
                refine ⟨grown_trans_row (grown_trans (grown_trans hg (grown_new wr (.cells #[.string A.op, .string A.name, .slice A.iv.a A.iv.n A.iv.c, .string A.out, .slice A.av.a A.av.n A.av.c] 25))) (grown_new _ (.cells #[.string A.out] 9))) hgrow (fun r e => (World.ownsRow.lt HO.out r e).1), ?_⟩
                have e : vin.map (·.name) ++ its.map (·.name) ++ (nds.take (k + 1)).map (·.out) = L ++ [A.out] := by
                  rw [HL.out, List.take_add_one, HK.out]
                  simp
                rw [e]
                exact owns_snocS hown'
              clear hown' hgrow
              go_roundw
              case rel => exact ⟨ST.out.1, k + 1, by omega, by go_num, ST.out.2⟩
              case measure => simp [intOf]; omega
            · obtain rfl : k = nds.length := by omega
              go_wp2
              go_ret
              refine ⟨⟨va, L.length, vc⟩, rfl, ?_, grown_trans g0 hg⟩
              have h := HO.out.base_le (show w.heap.size ≤ w0.heap.size from g0.size)
              have e := HL.out
              rw [List.take_of_length_le (Nat.le_refl _)] at e
              subst e
              simpa [Sl.v] using h

set_option maxRecDepth 100000 in
set_option maxHeartbeats 6400000 in
theorem outputnames_any (g : Gra) (nds : List Nod) (vin vout : List Val) (its : List Nam) (w : World) (h1 : IsNods w g.nv.v nds) (h2 : IsVals w g.iv.v vin) (h3 : IsVals w g.ov.v vout) (h4 : IsNams w g.tv.v its) (hf : nds.length ≤ 1048576 ∧ vin.length ≤ 1048576 ∧ vout.length ≤ 1048576 ∧ its.length ≤ 1048576) :
    Calls Tryz.prog 202 #[gval g] w fun e w' => ∃ u : Sl, e = .returned u.v ∧ OwnsS w' w.heap.size u.v (vout.map (·.name)) ∧ w.grownBy w' none := by
  obtain ⟨i0, hi, hz0, hz1, hz2⟩ := info_parts infoStr
  obtain ⟨nam, ⟨na0, nn, nc0⟩, ⟨ia, iN, ic⟩, ⟨oa, oN, oc⟩, ⟨ta, tN, tc⟩⟩ := g
  have H1 := hide h1
  have H2 := hide h2
  have H3 := hide h3
  have H4 := hide h4
  obtain ⟨xa, xc, e1, p1, p2, p3⟩ := h1.form
  obtain ⟨rfl, rfl, rfl⟩ : na0 = xa ∧ nn = nds.length ∧ nc0 = xc := by simpa [Sl.v] using e1
  obtain ⟨ya, yc, e2, p4, p5, p6⟩ := h2.form
  obtain ⟨rfl, rfl, rfl⟩ : ia = ya ∧ iN = vin.length ∧ ic = yc := by simpa [Sl.v] using e2
  obtain ⟨za, zc, e3, p7, p8, p9⟩ := h3.form
  obtain ⟨rfl, rfl, rfl⟩ : oa = za ∧ oN = vout.length ∧ oc = zc := by simpa [Sl.v] using e3
  obtain ⟨qa, qc, e4, p10, p11, p12⟩ := h4.form
  obtain ⟨rfl, rfl, rfl⟩ : ta = qa ∧ tN = its.length ∧ tc = qc := by simpa [Sl.v] using e4
  obtain ⟨f1, f2, f3, f4⟩ := hf
  clear h1 h2 h3 h4 e1 e2 e3 e4
  unfold gval
  simp only
  obtain ⟨w0, hw0⟩ : ∃ w0, w0 = w.alloc (.cells #[.string nam, .slice na0 nds.length nc0, .slice ia vin.length ic, .slice oa vout.length oc, .slice ta its.length tc] 42) := ⟨_, rfl⟩
  have g0 : w.grownBy w0 none := by rw [hw0]; exact grown_new _ _
  have b0 := heap_alloc_new w (.cells #[.string nam, .slice na0 nds.length nc0, .slice ia vin.length ic, .slice oa vout.length oc, .slice ta its.length tc] 42)
  obtain ⟨r0, r1, r2, r3, r4⟩ := gra_cells (g := ⟨nam, ⟨na0, nds.length, nc0⟩, ⟨ia, vin.length, ic⟩, ⟨oa, vout.length, oc⟩, ⟨ta, its.length, tc⟩⟩) b0
  rw [← hw0] at b0
  have BX : Hid (∀ wx, w0.grownBy wx none → wx.heap[w.heap.size]? = some (.cells #[.string nam, .slice na0 nds.length nc0, .slice ia vin.length ic, .slice oa vout.length oc, .slice ta its.length tc] 42 (0, 0))) := fun wx hx => box_kept b0 hx
  clear b0
  go_enter Tryz.func202, Tryz.ntmps202
  go_wp2_with fail
  rw [← hw0]
  clear hw0 r0 r1 r2 r3 r4
  go_loopw [3, 9] (fun l i wr => w0.grownBy wr none ∧ ∃ k : Nat, k ≤ vout.length ∧ i = .int .i64 k ∧ OwnsS wr w0.heap.size l ((vout.take k).map (·.name))) (fun _ i _ => vout.length - (intOf i).toNat)
  case atStart => exact ⟨grown_refl _, 0, Nat.zero_le _, rfl, OwnsL.nil ..⟩
  case round =>
    obtain ⟨hg, k, hk, rfl, hown⟩ := hrel
    obtain ⟨L, hL⟩ : ∃ L, L = (vout.take k).map (·.name) := ⟨_, rfl⟩
    rw [← hL] at hown
    have HL := hide hL
    have hlen : L.length ≤ 4194304 := by rw [hL]; simp; omega
    have HO := hide hown
    obtain ⟨va, vc, rfl⟩ := OwnsL.form hown
    clear hown hL
    by_cases hlt : k < vout.length
    · have HLk := H3.out.more (grown_trans g0 hg)
      obtain ⟨b, off, rfl⟩ := HLk.addr hlt
      obtain ⟨a0, a1, a2⟩ := HLk.val k hlt
      have HK : Hid (vout[k]? = some vout[k]) := List.getElem?_eq_getElem hlt
      obtain ⟨A, hA⟩ : ∃ A, A = vout[k] := ⟨_, rfl⟩
      rw [← hA] at a0 a1 a2 HK
      clear HLk hA
      have OW : Hid (∀ o o', OwnsS ((wr.alloc o).alloc o') w0.heap.size (.slice va _ vc) L) := fun o o' => (HO.out.more (grown_new _ _)).more (grown_new _ _)
      have hsz := hg.size
      go_wp2_with (at_builtin; refine wpList_append_own _ rfl (.tmp 13) (.tmp 16) 22 rfl w0.heap.size 9 i0 (.string ⟨#[]⟩) 1 16 Tryz.underlying22 hi hz0 hz1 hz2 rfl (by decide) _ _ _ rfl (by exact OW.out _ _) ⟨wr.heap.size + 1, 0, none⟩ 1 1 [.string A.name] rfl rfl (by have h := cell_one_new (wr.alloc (.cells #[.string A.name, .int .i64 A.ty, .slice A.dv.a A.dv.n A.dv.c] 31)) (Value.string A.name) 9; simpa using h) (by simp [Value.oneCell']) (by simp only [maxLen]; omega) (by omega) (by simp; omega) ?_; intro v' w8 hown' hgrow _; obtain ⟨na, nc, rfl⟩ := own_form hown')
      have ST : Hid (w0.grownBy w8 none ∧ OwnsS w8 w0.heap.size (.slice na (L.length + 1) nc) ((vout.take (k + 1)).map (·.name))) := by
        refine ⟨grown_trans_row (grown_trans (grown_trans hg (grown_new wr (.cells #[.string A.name, .int .i64 A.ty, .slice A.dv.a A.dv.n A.dv.c] 31))) (grown_new _ (.cells #[.string A.name] 9))) hgrow (fun r e => (World.ownsRow.lt HO.out r e).1), ?_⟩
        have e : (vout.take (k + 1)).map (·.name) = L ++ [A.name] := by
          rw [HL.out, List.take_add_one, HK.out]
          simp
        rw [e]
        exact owns_snocS hown'
      clear hown' hgrow
      go_roundw
      case rel => exact ⟨ST.out.1, k + 1, by omega, by go_num, ST.out.2⟩
      case measure => simp [intOf]; omega
    · obtain rfl : k = vout.length := by omega
      go_wp2
      go_ret
      refine ⟨⟨va, L.length, vc⟩, rfl, ?_, grown_trans g0 hg⟩
      have h := HO.out.base_le (show w.heap.size ≤ w0.heap.size from g0.size)
      have e := HL.out
      rw [List.take_of_length_le (Nat.le_refl _)] at e
      subst e
      simpa [Sl.v] using h
end Go.Proofs.YtdcbjikjeicgbaaGreatDoor

/- Whether a graph's names are found, by the walk. -/
namespace Go.Proofs.YtdcbjikjeicgbaaGreatDoor
open Go.RowKit

/-- Do all names of a list stand among others? -/
def allF (l xs : List ByteArray) : Bool := xs.all (fun x => inL x l)

/-- Is there an output, are they unlike, and are they and all inputs of nodes values? -/
def foundF (cs : List Nc) (outs l : List ByteArray) : Bool := namesOK [] outs && !(outs.length == 0) && allF l outs && cs.all (fun c => allF l c.ins)

set_option maxRecDepth 100000 in
set_option maxHeartbeats 6400000 in
theorem namesfound_any (g : Gra) (cs : List Nc) (vin vout : List Val) (its : List Nam) (b : Nat) (l : List ByteArray) (w : World) (h1 : IsNods w g.nv.v (cs.map (·.n))) (h2 : IsVals w g.iv.v vin) (h3 : IsVals w g.ov.v vout) (h4 : IsNams w g.tv.v its) (hf : (cs.map (·.n)).length ≤ 1048576 ∧ vin.length ≤ 1048576 ∧ vout.length ≤ 1048576 ∧ its.length ≤ 1048576)
    (hin : ∀ c ∈ cs, IsStrs w c.n.iv.v c.ins ∧ ∀ x ∈ c.ins, x.size ≤ 1048576) (hso : ∀ x ∈ vout.map (·.name), x.size ≤ 1048576) (hn : Nums w b l) :
    Calls Tryz.prog 151 #[gval g, .map (some b)] w fun e w' => e = .returned (.bool (foundF cs (vout.map (·.name)) l)) ∧ w.grownBy w' none := by
  have ON := hide (fun (wx : World) (hx : w.grownBy wx none) => outputnames_any g (cs.map (·.n)) vin vout its wx (h1.more hx) (h2.more hx) (h3.more hx) (h4.more hx) hf)
  have NU := hide (fun (v : Value) (wx : World) (hv : IsStrs wx v (vout.map (·.name))) => numbered_any v (vout.map (·.name)) wx hv hso)
  have AO := hide (fun (v : Value) (wx : World) (hx : w.grownBy wx none) (hv : IsStrs wx v (vout.map (·.name))) => allin_any b v l (vout.map (·.name)) wx (hn.more hx) hv hso)
  have AI := hide (fun (c : Nc) (hc : c ∈ cs) (wx : World) (hx : w.grownBy wx none) => allin_any b c.n.iv.v l c.ins wx (hn.more hx) ((hin c hc).1.more hx) (hin c hc).2)
  have HF : Hid (foundF cs (vout.map (·.name)) l = (namesOK [] (vout.map (·.name)) && !(vout.length == 0) && allF l (vout.map (·.name)) && cs.all (fun c => allF l c.ins))) := by show _ = _; unfold foundF; rw [List.length_map]
  have hLB : (vout.map (·.name)).length * 16 ≤ 140737488351232 := by rw [List.length_map]; omega
  have HLEN : Hid ((vout.map (·.name)).length = vout.length) := by show _ = _; rw [List.length_map]
  obtain ⟨O, hO⟩ : ∃ O, O = vout.map (·.name) := ⟨_, rfl⟩
  rw [← hO] at ON NU AO HF hLB HLEN ⊢
  obtain ⟨F, hF⟩ : ∃ F, F = foundF cs O l := ⟨_, rfl⟩
  rw [← hF] at HF ⊢
  obtain ⟨nam, ⟨na0, nn, nc0⟩, iv, ov, tv⟩ := g
  have H1 := hide h1
  obtain ⟨xa, xc, e1, p1, p2, p3⟩ := h1.form
  obtain ⟨rfl, rfl, rfl⟩ : na0 = xa ∧ nn = (cs.map (·.n)).length ∧ nc0 = xc := by simpa [Sl.v] using e1
  rw [List.length_map] at ON p1 p3 ⊢
  obtain ⟨ia, iN, ic⟩ := iv
  obtain ⟨oa, oN, oc⟩ := ov
  obtain ⟨ta, tN, tc⟩ := tv
  clear h1 h2 h3 h4 e1 hin hso hn hO hF hf
  unfold gval at ON ⊢
  simp only at ON ⊢
  obtain ⟨w0, hw0⟩ : ∃ w0, w0 = w.alloc (.cells #[.string nam, .slice na0 cs.length nc0, .slice ia iN ic, .slice oa oN oc, .slice ta tN tc] 42) := ⟨_, rfl⟩
  have g0 : w.grownBy w0 none := by rw [hw0]; exact grown_new _ _
  have b0 := heap_alloc_new w (.cells #[.string nam, .slice na0 cs.length nc0, .slice ia iN ic, .slice oa oN oc, .slice ta tN tc] 42)
  obtain ⟨r0, r1, r2, r3, r4⟩ := gra_cells (g := ⟨nam, ⟨na0, cs.length, nc0⟩, ⟨ia, iN, ic⟩, ⟨oa, oN, oc⟩, ⟨ta, tN, tc⟩⟩) b0
  rw [← hw0] at b0
  have BX : Hid (∀ wx, w0.grownBy wx none → wx.heap[w.heap.size]? = some (.cells #[.string nam, .slice na0 cs.length nc0, .slice ia iN ic, .slice oa oN oc, .slice ta tN tc] 42 (0, 0))) := fun wx hx => box_kept b0 hx
  clear b0
  go_enter Tryz.func151, Tryz.ntmps151
  go_wp2_with fail
  rw [← hw0]
  clear hw0 r0 r1 r2 r3 r4
  refine (ON.out w0 g0).mono ?_
  rintro e w1 ⟨⟨ua, un, uc⟩, rfl, hown, hg1⟩
  have g1 := grown_trans g0 hg1
  obtain ⟨ua', uc', hu⟩ := OwnsL.form hown
  obtain ⟨rfl, rfl, rfl⟩ : ua = ua' ∧ un = O.length ∧ uc = uc' := by simpa [Sl.v] using hu
  have IS := hide (hown.isL (bytes := 16) scell_len hLB)
  clear hown hu
  unfold Sl.v at IS ⊢
  simp only at IS ⊢
  go_wp2_with fail
  refine (NU.out _ w1 IS.out).mono ?_
  rintro e w2 ⟨hg2, hh⟩
  have g2 := grown_trans g1 hg2
  rcases hh with ⟨hok, bb, hbb, rfl, -⟩ | ⟨hno, rfl⟩
  · by_cases hz : vout.length = 0
    · have E : Hid (F = false) := by show _ = _; rw [HF.out, hz]; simp
      rw [HLEN.out, hz]
      clear hok
      go_wp2
      go_ret
      exact ⟨by rw [E.out]; rfl, g2⟩
    · have HK := hide hok
      have hz' : 0 < vout.length := by omega
      rw [HLEN.out]
      rw [HLEN.out] at IS
      clear hok
      have hz0 : ¬ ((vout.length : Int) = 0) := by omega
      have hzb : ((vout.length : Int) == 0) = false := by simpa using hz0
      go_wp2_with fail
      clear hz hz0 hzb
      refine (AO.out _ w2 g2 (IS.out.more hg2)).mono ?_
      rintro e w3 ⟨rfl, rfl⟩
      cases hall : O.all (fun x => inL x l) with
      | false =>
        have E : Hid (F = false) := by show _ = _; rw [HF.out]; unfold allF; rw [hall]; simp
        clear hall
        go_wp2
        go_ret
        exact ⟨by rw [E.out]; rfl, g2⟩
      | true =>
        have E : Hid (F = cs.all (fun c => allF l c.ins)) := by show _ = _; rw [HF.out, HK.out]; unfold allF; rw [hall]; simp [show vout.length ≠ 0 from by omega]
        clear hall
        obtain ⟨r0, r1, r2, r3, r4⟩ := gra_cells (g := ⟨nam, ⟨na0, cs.length, nc0⟩, ⟨ia, iN, ic⟩, ⟨oa, oN, oc⟩, ⟨ta, tN, tc⟩⟩) (BX.out w3 (grown_trans hg1 hg2))
        go_wp2_with fail
        clear r0 r1 r2 r3 r4
        go_loopw [33] (fun i wr => w.grownBy wr none ∧ ∃ k : Nat, k ≤ cs.length ∧ i = .int .i64 k ∧ (cs.take k).all (fun c => allF l c.ins) = true) (fun i _ => cs.length - (intOf i).toNat)
        case atStart => exact ⟨g2, 0, Nat.zero_le _, rfl, rfl⟩
        case round =>
          obtain ⟨hg, k, hk, rfl, hall⟩ := hrel
          have HALL := hide hall
          clear hall
          by_cases hlt : k < cs.length
          · have HLk := H1.out.more hg
            obtain ⟨b9, off, rfl⟩ := HLk.addr (by rw [List.length_map]; exact hlt)
            obtain ⟨a0, a1, a2, a3, a4⟩ := HLk.nod k (by rw [List.length_map]; exact hlt)
            have AC := hide (fun (wx : World) (hx : w.grownBy wx none) => AI.out cs[k] (List.getElem_mem hlt) wx hx)
            have HK : Hid (cs[k]? = some cs[k]) := List.getElem?_eq_getElem hlt
            rw [List.getElem_map] at a0 a1 a2 a3 a4
            obtain ⟨C, hC⟩ : ∃ C, C = cs[k] := ⟨_, rfl⟩
            rw [← hC] at a0 a1 a2 a3 a4 HK AC
            clear HLk hC
            obtain ⟨⟨cop, cnam, ⟨ca, cN, cc⟩, cout, ⟨da, dN, dc⟩⟩, cins, cxs, ccs⟩ := C
            simp only [Sl.v] at a0 a1 a2 a3 a4 AC
            obtain ⟨W, hW⟩ : ∃ W, W = wr.alloc (.cells #[.string cop, .string cnam, .slice ca cN cc, .string cout, .slice da dN dc] 25) := ⟨_, rfl⟩
            have gW : w.grownBy W none := by rw [hW]; exact grown_trans hg (grown_new _ _)
            go_wp2_with fail
            rw [← hW]
            clear hW
            refine (AC.out W gW).mono ?_
            rintro e w5 ⟨rfl, rfl⟩
            cases hq : cins.all (fun x => inL x l) with
            | false =>
              have E2 : Hid (F = false) := by show _ = _; rw [E.out, List.all_eq_false]; exact ⟨_, List.mem_of_getElem? HK.out, by unfold allF; rw [hq]; decide⟩
              clear hq
              go_wp2
              go_ret
              exact ⟨by rw [E2.out]; rfl, gW⟩
            | true =>
              have HN : Hid ((cs.take (k + 1)).all (fun c => allF l c.ins) = true) := by show _ = _; rw [List.take_add_one, List.all_append, HALL.out, HK.out]; simp [allF, hq]
              clear hq
              go_wp2_with fail
              go_roundw
              case rel => exact ⟨gW, k + 1, by omega, by go_num, HN.out⟩
              case measure => simp [intOf]; omega
          · obtain rfl : k = cs.length := by omega
            have E2 : Hid (F = true) := by show _ = _; rw [E.out]; have := HALL.out; rwa [List.take_of_length_le (Nat.le_refl _)] at this
            go_wp2
            go_ret
            exact ⟨by rw [E2.out]; rfl, hg⟩
  · have E : Hid (F = false) := by show _ = _; rw [HF.out, hno]; rfl
    clear hno
    go_wp2
    go_ret
    exact ⟨by rw [E.out]; rfl, g2⟩
end Go.Proofs.YtdcbjikjeicgbaaGreatDoor

/- The order of work out of waits and readers, by the walk. -/
namespace Go.Proofs.YtdcbjikjeicgbaaGreatDoor
open Go.RowKit

/-- All that a node's readers wait for is one less. -/
def decAll (W : List Int) (rs : List Int) : List Int := rs.foldl (fun W r => W.set r.toNat (W.getD r.toNat 0 - 1)) W

/-- The least that waits for none, again and again. -/
def ordF : Nat → List Int → List (List Int) → List Int
  | 0, _, _ => []
  | f + 1, W, R => match W.findIdx? (fun z => z == 0) with
    | none => []
    | some i => (i : Int) :: ordF f (decAll (W.set i (-1)) (R.getD i [])) R

/-- How many are not taken yet, or more. -/
def nn (W : List Int) : Nat := W.countP (fun z => decide (0 ≤ z))

theorem decAll_len (W rs : List Int) : (decAll W rs).length = W.length := by
  unfold decAll
  induction rs generalizing W with
  | nil => rfl
  | cons r rs ih => rw [List.foldl_cons, ih]; simp

theorem nn_set_le {x z : Int} : ∀ {W : List Int} {i : Nat}, W[i]? = some z → x ≤ z → nn (W.set i x) ≤ nn W
  | [], i, h, _ => by simp at h
  | y :: W, 0, h, hx => by
    obtain rfl : y = z := by simpa using h
    unfold nn
    rw [List.set_cons_zero, List.countP_cons, List.countP_cons]
    by_cases h0 : 0 ≤ x
    · have h1 : 0 ≤ y := by omega
      simp [h0, h1]
    · simp [h0]
  | y :: W, i + 1, h, hx => by
    have ih := nn_set_le (W := W) (i := i) (by simpa using h) hx
    unfold nn at ih ⊢
    rw [List.set_cons_succ, List.countP_cons, List.countP_cons]
    omega

theorem nn_set_lt : ∀ {W : List Int} {i : Nat}, W[i]? = some 0 → nn (W.set i (-1)) + 1 = nn W
  | [], i, h => by simp at h
  | y :: W, 0, h => by
    obtain rfl : y = 0 := by simpa using h
    unfold nn
    rw [List.set_cons_zero, List.countP_cons, List.countP_cons]
    simp
  | y :: W, i + 1, h => by
    have ih := nn_set_lt (W := W) (i := i) (by simpa using h)
    unfold nn at ih ⊢
    rw [List.set_cons_succ, List.countP_cons, List.countP_cons]
    omega

theorem nn_dec (W rs : List Int) : nn (decAll W rs) ≤ nn W := by
  unfold decAll
  induction rs generalizing W with
  | nil => exact Nat.le_refl _
  | cons r rs ih =>
    rw [List.foldl_cons]
    refine Nat.le_trans (ih _) ?_
    by_cases hr : r.toNat < W.length
    · exact nn_set_le (z := W.getD r.toNat 0) (by rw [List.getD, List.getElem?_eq_getElem hr]; rfl) (by omega)
    · rw [List.set_eq_of_length_le (by omega)]
      exact Nat.le_refl _

theorem dec_step (W : List Int) (rs : List Int) {j : Nat} (hj : j < rs.length) : decAll W (rs.take (j + 1)) = (decAll W (rs.take j)).set rs[j].toNat ((decAll W (rs.take j)).getD rs[j].toNat 0 - 1) := by
  unfold decAll
  rw [List.take_add_one, List.getElem?_eq_getElem hj, List.foldl_append]
  rfl

theorem mem_set_or {l : List Int} {i : Nat} {x z : Int} (h : z ∈ l.set i x) : z ∈ l ∨ z = x := List.mem_or_eq_of_mem_set h

theorem getD_mem_or (l : List Int) (i : Nat) (hi : i < l.length) : l.getD i 0 ∈ l := by
  rw [List.getD, List.getElem?_eq_getElem hi]
  exact List.getElem_mem hi

theorem dec_bound {U : Int} {rs : List Int} : ∀ {W : List Int} {b : Int}, (∀ z ∈ W, -b ≤ z ∧ z ≤ U) → (∀ r ∈ rs, 0 ≤ r ∧ r < W.length) → ∀ z ∈ decAll W rs, -(b + rs.length) ≤ z ∧ z ≤ U := by
  unfold decAll
  induction rs with
  | nil => intro W b h _ z hz; have := h z hz; simp; omega
  | cons r rs ih =>
    intro W b h hr z hz
    rw [List.foldl_cons] at hz
    have hr0 := hr r (by simp)
    have hm := h _ (getD_mem_or W r.toNat (by omega))
    have := ih (W := W.set r.toNat (W.getD r.toNat 0 - 1)) (b := b + 1) (fun y hy => by
      rcases mem_set_or hy with h1 | h1
      · have := h y h1; omega
      · omega) (fun y hy => by rw [List.length_set]; exact hr y (by simp [hy])) z hz
    rw [List.length_cons]
    omega

theorem grown_same_row {a b c : World} {row : Option Nat} (h : a.grownBy b row) {r' : Option Nat} (k : b.grownBy c r') (hr : ∀ g, r' = some g → a.heap.size ≤ g) : a.grownBy c row :=
  ⟨k.os.trans h.os, k.tape.trans h.tape, k.output.trans h.output, Nat.le_trans h.size k.size, fun i hi hne => (k.block i (Nat.lt_of_lt_of_le hi h.size) (fun e => by have := hr i e.symm; omega)).trans (h.block i hi hne)⟩

theorem grown_any {a b : World} (h : a.grownBy b none) (row : Option Nat) : a.grownBy b row := ⟨h.os, h.tape, h.output, h.size, fun i hi _ => h.block i hi (by simp)⟩

/-- The call's own row of numbers. -/
def OwnW (w : World) (base B : Nat) (W : List Int) : Prop := w.ownsRow base 3 1 (.slice (some ⟨B, 0, none⟩) W.length W.length) W.length (W.map (Value.int .i64))

theorem OwnW.at {w : World} {base B : Nat} {W : List Int} (h : OwnW w base B W) {k : Nat} (hk : k < W.length) : w.cell? ⟨B, k, none⟩ = some (.int .i64 (W.getD k 0)) ∧ w.frozen? ⟨B, k, none⟩ = false := by
  refine ⟨?_, World.ownsRow.frozenAt h k⟩
  rw [World.ownsRow.cellAt h k (by omega)]
  simp [List.getD, hk]

theorem OwnW.set {w : World} {base B : Nat} {W : List Int} (h : OwnW w base B W) (k : Nat) (x : Int) : OwnW (w.setCell ⟨B, k, none⟩ (.int .i64 x)) base B (W.set k x) ∧ w.grownBy (w.setCell ⟨B, k, none⟩ (.int .i64 x)) (some B) := by
  have s := World.ownsRow.stored h k (.int .i64 x)
  rw [← List.map_set] at s
  refine ⟨?_, s.2⟩
  unfold OwnW
  rw [List.length_set]
  exact s.1

theorem OwnW.lt {w : World} {base B : Nat} {W : List Int} (h : OwnW w base B W) : base ≤ B ∧ B < w.heap.size := World.ownsRow.lt h B rfl

/-- Who reads each node's value, whatever is done to one block alone. -/
def Rds (w : World) (v : Sl) (R : List (List Int)) (B : Nat) : Prop := v.n = R.length ∧ ∀ (k : Nat), k < R.length → ∃ (b off : Nat) (s : Sl), v.a = some ⟨b, off, none⟩ ∧ ∀ wx, w.grownBy wx (some B) → wx.cell? ⟨b, off + k, none⟩ = some (.slice s.a s.n s.c) ∧ IsInts wx s.v (R.getD k [])

theorem Rds.step {w w' : World} {v : Sl} {R : List (List Int)} {B : Nat} (h : Rds w v R B) (hg : w.grownBy w' (some B)) : Rds w' v R B :=
  ⟨h.1, fun k hk => by
    obtain ⟨b, off, s, e, hc⟩ := h.2 k hk
    exact ⟨b, off, s, e, fun wx hx => hc wx (grown_same hg hx)⟩⟩

theorem ints_addrG {w : World} {a : Option Addr} {l c : Nat} {zs : List Int} (h : IsInts w (.slice a l c) zs) {k : Nat} (hk : k < zs.length) : ∃ b off, a = some ⟨b, off, none⟩ ∧ w.cell? ⟨b, off + k, none⟩ = some (.int .i64 (zs.getD k 0)) := by
  obtain ⟨a', c', e, -, -, -, -, h5, -⟩ := h
  obtain ⟨b, off, ho, hc⟩ := h5 (by omega)
  simp only [Value.slice.injEq] at e
  exact ⟨b, off, e.1.trans ho, hc k hk⟩

theorem find_zero {W : List Int} {k : Nat} (hk : k < W.length) (h0 : W.getD k 0 = 0) (hb : ∀ j, j < k → W.getD j 0 ≠ 0) : W.findIdx? (fun z => z == 0) = some k := by
  rw [List.findIdx?_eq_some_iff_getElem]
  refine ⟨hk, ?_, fun j hj => ?_⟩
  · rw [List.getD, List.getElem?_eq_getElem hk] at h0
    simpa using h0
  · have := hb j hj
    rw [List.getD, List.getElem?_eq_getElem (by omega)] at this
    simpa using this

theorem find_no_zero {W : List Int} (hb : ∀ j, j < W.length → W.getD j 0 ≠ 0) : W.findIdx? (fun z => z == 0) = none := by
  rw [List.findIdx?_eq_none_iff]
  intro x hx
  obtain ⟨j, hj, rfl⟩ := List.getElem_of_mem hx
  have := hb j hj
  rw [List.getD, List.getElem?_eq_getElem hj] at this
  simpa using this

/-- Where the order stands: what is taken, and what waits. -/
structure OSt (w0 wr : World) (base B n : Nat) (T : List Int) (R : List (List Int)) (l : Value) (acc W : List Int) (f : Nat) : Prop where
  grown : w0.grownBy wr (some B)
  own : OwnW wr base B W
  len : W.length = n
  list : Owns wr w0.heap.size l acc
  rest : acc ++ ordF f W R = T
  few : nn W ≤ f
  all : acc.length + nn W ≤ n
  bound : ∀ z ∈ W, -((acc.length : Int) * 2147483648 + 1) ≤ z ∧ z ≤ 1099511627776

def lenV : Value → Nat
  | .slice _ n _ => n
  | _ => 0

set_option maxRecDepth 100000 in
set_option maxHeartbeats 6400000 in
theorem inorder_any (B base : Nat) (vr : Sl) (W0 : List Int) (R : List (List Int)) (w : World) (hW : OwnW w base B W0) (hR : Rds w vr R B) (hRl : R.length = W0.length) (hRb : ∀ r ∈ R, r.length ≤ 1073741824 ∧ ∀ z ∈ r, 0 ≤ z ∧ z < W0.length) (hWb : ∀ z ∈ W0, 0 ≤ z ∧ z ≤ 1099511627776) (hn : W0.length ≤ 1048576) :
    Calls Tryz.prog 152 #[.agg #[.slice (some ⟨B, 0, none⟩) W0.length W0.length, .slice vr.a vr.n vr.c]] w fun e w' => ∃ u : Sl, e = .returned u.v ∧ Owns w' w.heap.size u.v (ordF W0.length W0 R) ∧ w.grownBy w' (some B) := by
  obtain ⟨i0, hi, hz0, hz1, hz2⟩ := info_parts infoInt
  obtain ⟨ra, rn, rc⟩ := vr
  simp only
  obtain ⟨T, hT⟩ : ∃ T, T = ordF W0.length W0 R := ⟨_, rfl⟩
  have hBw := hW.lt.2
  obtain ⟨n, hN⟩ : ∃ n, n = W0.length := ⟨_, rfl⟩
  have hrn : rn = n := (show rn = R.length from hR.1).trans (hRl.trans hN.symm)
  rw [hrn] at hR ⊢
  clear hrn
  obtain ⟨w0, hw0⟩ : ∃ w0, w0 = w.alloc (.cells #[.slice (some ⟨B, 0, none⟩) n n, .slice ra n rc] 181) := ⟨_, rfl⟩
  have g0 : w.grownBy w0 none := by rw [hw0]; exact grown_new _ _
  have b0 := heap_alloc_new w (.cells #[.slice (some ⟨B, 0, none⟩) n n, .slice ra n rc] 181)
  rw [← hw0] at b0
  have BX : Hid (∀ wx, w0.grownBy wx (some B) → wx.cell? ⟨w.heap.size, 0, none⟩ = some (.slice (some ⟨B, 0, none⟩) n n) ∧ wx.cell? ⟨w.heap.size, 1, none⟩ = some (.slice ra n rc)) := fun wx hx => by
    have hb : wx.heap[w.heap.size]? = some (.cells #[.slice (some ⟨B, 0, none⟩) n n, .slice ra n rc] 181 (0, 0)) := (hx.block w.heap.size (by rw [hw0]; simp) (fun e => by injection e with e; omega)).trans b0
    exact ⟨(cell_of_row _ _ 0 _ _ (0, 0) hb).trans rfl, (cell_of_row _ _ 1 _ _ (0, 0) hb).trans rfl⟩
  have RD : Hid (Rds w0 ⟨ra, n, rc⟩ R B) := hR.step (grown_any g0 _)
  have ST0 : Hid (OSt w0 w0 base B n T R (.slice none 0 0) [] W0 n) := by
    refine ⟨World.grownBy.refl _ _, World.ownsRow.kept hW g0 (Or.inr (by simp [Value.ownBlock])), hN.symm, ⟨World.ownsRow_nil _ _ _ _, by simp, by simp⟩, by rw [hT, hN]; rfl, ?_, ?_, fun z hz => ?_⟩
    · rw [hN]; exact List.countP_le_length
    · rw [hN]; have : nn W0 ≤ W0.length := List.countP_le_length; simpa using this
    · have := hWb z hz; simp; omega
  have HRB : Hid (∀ k, k < n → (R.getD k []).length ≤ 1073741824 ∧ ∀ z ∈ R.getD k [], 0 ≤ z ∧ z < n) := fun k hk => by
    rw [List.getD, List.getElem?_eq_getElem (by omega)]
    have := hRb _ (List.getElem_mem (l := R) (n := k) (by omega))
    rw [← hN] at this; exact this
  have HRL : Hid (R.length = n) := hRl.trans hN.symm
  rw [← hT, ← hN]
  rw [← hN] at hn
  clear hT hN hW hR hRl hRb hWb b0
  go_enter Tryz.func152, Tryz.ntmps152
  go_wp2_with fail
  rw [← hw0]
  clear hw0
  go_step3
  go_wp2_with fail
  go_step3
  go_wp2_with fail
  go_loopg [3] n (fun gh l wr => ∃ (acc W : List Int) (f : Nat), gh = n - acc.length ∧ OSt w0 wr base B n T R l acc W f)
  case atStart => exact ⟨[], W0, n, by simp, ST0.out⟩
  case round =>
    obtain ⟨acc, W, f, hgk, hst⟩ := hrel
    have HS := hide hst
    obtain ⟨r0, r1⟩ := BX.out wr hst.grown
    obtain ⟨la, lc, rfl⟩ := own_form hst.list.1
    have hWl := hst.len
    have hal := hst.all
    have hsz := hst.grown.size
    clear hst
    obtain ⟨wp, hwp⟩ : ∃ wp, wp = wr := ⟨_, rfl⟩
    rw [← hwp] at HS r0 r1 hsz ⊢
    clear hwp
    go_wp2_with fail
    clear r0 r1
    go_loopg [3, 11] n (fun g2 l i wx => wx = wp ∧ l = .slice la acc.length lc ∧ ∃ k : Nat, g2 = n - k ∧ k ≤ n ∧ i = .int .i64 k ∧ ∀ j, j < k → W.getD j 0 ≠ 0)
    case atStart => exact ⟨rfl, rfl, 0, rfl, Nat.zero_le _, rfl, fun j hj => by omega⟩
    case round =>
      obtain ⟨rfl, rfl, k, hg2, hk, rfl, hnz⟩ := hrel
      have HNZ := hide hnz
      clear hnz
      by_cases hlt : k < n
      · obtain ⟨c0, c1⟩ := HS.out.own.at (k := k) (by omega)
        by_cases hz : W.getD k 0 = 0
        · have HZ := hide hz
          rw [hz] at c0
          have OW : Hid (∀ o, Owns (wr.alloc o) w0.heap.size (.slice la acc.length lc) acc) := fun o => HS.out.list.new (grown_new _ _)
          have hacc : acc.length ≤ 1048576 := by omega
          obtain ⟨hrn, hrd⟩ := RD.out
          obtain ⟨b, off, ⟨sa, sn, sc⟩, hra, hcl⟩ := hrd k (by rw [HRL.out]; exact hlt)
          have hra : ra = some ⟨b, off, none⟩ := hra
          clear hrn
          subst hra
          obtain ⟨sa', sc', hsv, s1, s2, s3, -⟩ := (hcl w0 (World.grownBy.refl _ _)).2
          obtain ⟨rfl, rfl, rfl⟩ : sa = sa' ∧ sn = (R.getD k []).length ∧ sc = sc' := by simpa [Sl.v] using hsv
          obtain ⟨hrl, hrz⟩ := HRB.out k hlt
          obtain ⟨RK, hRK⟩ : ∃ RK, RK = R.getD k [] := ⟨_, rfl⟩
          have HRK := hide hRK
          have CL := hide hcl
          simp only [Sl.v] at CL
          rw [← hRK] at CL hrl hrz s1 s3
          have HRZ := hide hrz
          have FX : Hid (∀ (w8 : World) (na : Option Addr) (nc : Nat), w8.ownsRow w0.heap.size 3 1 (.slice na (acc.length + 1) nc) (acc.length + 1) (acc.map (Value.int .i64) ++ [.int .i64 (k : Int)]) → (wr.alloc (.cells #[.int .i64 (k : Int)] 3)).grownBy w8 (Value.slice la acc.length lc).ownBlock →
              w8.cell? ⟨w.heap.size, 0, none⟩ = some (.slice (some ⟨B, 0, none⟩) n n) ∧ w8.cell? ⟨B, k, none⟩ = some (.int .i64 0) ∧ w8.frozen? ⟨B, k, none⟩ = false ∧ (w8.setCell ⟨B, k, none⟩ (.int .i64 (-1))).cell? ⟨w.heap.size, 1, none⟩ = some (.slice (some ⟨b, off, none⟩) n rc) ∧ (w8.setCell ⟨B, k, none⟩ (.int .i64 (-1))).cell? ⟨b, off + k, none⟩ = some (.slice sa RK.length sc) ∧
              w0.grownBy (w8.setCell ⟨B, k, none⟩ (.int .i64 (-1))) (some B) ∧ OwnW (w8.setCell ⟨B, k, none⟩ (.int .i64 (-1))) base B (W.set k (-1)) ∧ Owns (w8.setCell ⟨B, k, none⟩ (.int .i64 (-1))) w0.heap.size (.slice na (acc.length + 1) nc) (acc ++ [(k : Int)])) := by
            intro w8 na nc ho hg
            have hs := HS.out
            have hB0 : B < w0.heap.size := by have := g0.size; omega
            have gg : w0.grownBy w8 (some B) := grown_same_row (grown_same_row hs.grown (grown_new _ _) (fun g e => by cases e)) hg (fun g e => (hs.list.lt g e).1)
            have own8 : OwnW w8 base B W := World.ownsRow.kept (World.ownsRow.kept hs.own (grown_new _ _) (Or.inr (by simp [Value.ownBlock]))) hg (Or.inr (fun e => by have := (hs.list.lt B e.symm).1; omega))
            have s9 := own8.set k (-1)
            have g9 := grown_same gg s9.2
            have c8 := own8.at (k := k) (by rw [hs.len]; exact hlt)
            rw [HZ.out] at c8
            refine ⟨(BX.out w8 gg).1, c8.1, c8.2, (BX.out _ g9).2, (CL.out _ g9).1, g9, s9.1, ?_, ?_, fun z hz => ?_⟩
            · rw [List.length_append, List.map_append]
              exact World.ownsRow.kept ho s9.2 (by
                by_cases e : (Value.slice na (acc.length + 1) nc).ownBlock = none
                · exact Or.inl e
                · exact Or.inr (fun e2 => by have := (World.ownsRow.lt ho B e2).1; omega))
            · simp; omega
            · rcases List.mem_append.1 hz with h | h
              · exact hs.list.2.2 z h
              · simp at h; omega
          clear c1 hcl hrd hsv hRK hrz hz
          go_wp2_with (at_builtin; refine wpList_append_own _ rfl (.tmp 18) (.tmp 20) 29 rfl w0.heap.size 3 i0 (.int .i64 0) 1 8 Tryz.underlying29 hi hz0 hz1 hz2 rfl (by decide) _ _ _ rfl (by exact (OW.out _).1) ⟨wr.heap.size, 0, none⟩ 1 1 [.int .i64 (k : Int)] rfl rfl (by have h := cell_one_new wr (Value.int .i64 (k : Int)) 3; simpa using h) (by simp [Value.oneCell']) (by simp only [maxLen]; omega) (by omega) (by simp; omega) ?_; intro v' w8 hown' hgrow _; obtain ⟨na, nc, rfl⟩ := own_form hown'; obtain ⟨q1, q2, q3, q4, q5, q6, q7, q8⟩ := FX.out w8 na nc hown' hgrow; have HQ6 := hide q6; have HQ7 := hide q7; have HQ8 := hide q8; clear q6 q7 q8 hown' hgrow)
          clear q1 q2 q3 q4 q5
          generalize hwS : w8.setCell ⟨B, k, none⟩ (.int .i64 (-1)) = wS at HQ6 HQ7 HQ8 ⊢
          clear hwS
          go_loopg [32] RK.length (fun g3 j wx => ∃ t : Nat, g3 = RK.length - t ∧ t ≤ RK.length ∧ j = .int .i64 t ∧ wS.grownBy wx (some B) ∧ OwnW wx base B (decAll (W.set k (-1)) (RK.take t)))
          case atStart => exact ⟨0, rfl, Nat.zero_le _, rfl, World.grownBy.refl _ _, HQ7.out⟩
          case round =>
            obtain ⟨t, hg3, ht, rfl, hgx, hox⟩ := hrel
            have HOX := hide hox
            have HGX := hide (grown_same HQ6.out hgx)
            have HGY := hide hgx
            clear hox hgx
            by_cases htl : t < RK.length
            · have HI := (CL.out wr HGX.out).2
              obtain ⟨sb, so, rfl, d0⟩ := ints_addrG HI (k := t) htl
              have hz0' := HRZ.out (RK.getD t 0) (getD_mem_or _ _ htl)
              obtain ⟨q, hq⟩ : ∃ q : Nat, RK.getD t 0 = (q : Int) := ⟨(RK.getD t 0).toNat, by omega⟩
              have hql : q < n := by omega
              rw [hq] at d0
              have HQ : Hid (RK[t].toNat = q) := by
                show _ = _
                rw [List.getD, List.getElem?_eq_getElem htl] at hq
                have : RK[t] = (q : Int) := hq
                omega
              have HLD : Hid ((decAll (W.set k (-1)) (RK.take t)).length = n) := by show _ = _; rw [decAll_len, List.length_set]; exact hWl
              obtain ⟨c2, c3⟩ := HOX.out.at (k := q) (by rw [HLD.out]; exact hql)
              have hbd := dec_bound (rs := RK.take t) (W := W.set k (-1)) (b := (acc.length : Int) * 2147483648 + 1) (U := 1099511627776) (fun z hz => by
                rcases mem_set_or hz with h | h
                · exact HS.out.bound z h
                · omega) (fun r hr => by rw [List.length_set, hWl]; exact HRZ.out r (List.mem_of_mem_take hr)) _ (getD_mem_or _ q (by rw [HLD.out]; exact hql))
              rw [List.length_take] at hbd
              have HST := hide (HOX.out.set q ((decAll (W.set k (-1)) (RK.take t)).getD q 0 - 1))
              have HDS := hide (dec_step (W.set k (-1)) RK htl)
              obtain ⟨X, hX⟩ : ∃ X, X = (decAll (W.set k (-1)) (RK.take t)).getD q 0 := ⟨_, rfl⟩
              rw [← hX] at c2 hbd HST
              rw [HQ.out, ← hX] at HDS
              have hX1 : -4503599627370496 ≤ X := by omega
              have hX2 : X ≤ 1099511627776 := hbd.2
              obtain ⟨b0', -⟩ := BX.out wr HGX.out
              clear HI hz0' hq hX hbd
              go_wp2_with fail
              go_roundg (RK.length - (t + 1))
              case measure => omega
              case rel => exact ⟨t + 1, rfl, by omega, by go_num, grown_same HGY.out HST.out.2, by rw [HDS.out]; exact HST.out.1⟩
            · obtain rfl : t = RK.length := by omega
              rw [List.take_of_length_le (Nat.le_refl _)] at HOX
              have hpos : acc.length + 1 ≤ n := by
                have hk0 : W[k]? = some 0 := by
                  have := HZ.out
                  rw [List.getD, List.getElem?_eq_getElem (by omega)] at this
                  rw [List.getElem?_eq_getElem (by omega)]
                  exact congrArg some this
                have := nn_set_lt hk0
                omega
              have FIN : Hid (OSt w0 wr base B n T R (.slice na (acc.length + 1) nc) (acc ++ [(k : Int)]) (decAll (W.set k (-1)) RK) (f - 1)) := by
                have hs := HS.out
                have hk0 : W[k]? = some 0 := by
                  have := HZ.out
                  rw [List.getD, List.getElem?_eq_getElem (by omega)] at this
                  rw [List.getElem?_eq_getElem (by omega)]
                  exact congrArg some this
                have n1 := nn_set_lt hk0
                have n2 := nn_dec (W.set k (-1)) RK
                have hf := hs.few
                refine ⟨HGX.out, HOX.out, by rw [decAll_len, List.length_set]; exact hWl, HQ8.out.more HGY.out ?_, ?_, by omega, by rw [List.length_append]; simp; omega, fun z hz => ?_⟩
                · by_cases e : (Value.slice na (acc.length + 1) nc).ownBlock = none
                  · exact Or.inl e
                  · exact Or.inr (fun e2 => by have := (HQ8.out.lt B e2).1; have := g0.size; omega)
                · have hr := hs.rest
                  obtain ⟨f', rfl⟩ : ∃ f', f = f' + 1 := ⟨f - 1, by omega⟩
                  unfold ordF at hr
                  rw [find_zero (by omega) HZ.out HNZ.out] at hr
                  rw [Nat.add_sub_cancel, List.append_assoc, HRK.out]
                  exact hr
                · have := dec_bound (rs := RK) (W := W.set k (-1)) (b := (acc.length : Int) * 2147483648 + 1) (U := 1099511627776) (fun z hz => by
                    rcases mem_set_or hz with h | h
                    · exact hs.bound z h
                    · omega) (fun r hr => by rw [List.length_set, hWl]; exact HRZ.out r hr) z hz
                  rw [List.length_append]
                  simp only [List.length_cons, List.length_nil, Nat.zero_add]
                  omega
              go_wp2_with fail
              go_roundg (n - (acc.length + 1))
              case measure => omega
              case rel => exact ⟨_, _, _, by simp, FIN.out⟩
        · have hzb : (W.getD k 0 != 0) = true := by simpa using hz
          have HN : Hid (∀ j, j < k + 1 → W.getD j 0 ≠ 0) := fun j hj => by
            by_cases e : j = k
            · rw [e]; exact hz
            · exact HNZ.out j (by omega)
          obtain ⟨Z, hZ⟩ : ∃ Z, Z = W.getD k 0 := ⟨_, rfl⟩
          rw [← hZ] at c0 hzb
          clear hz hZ
          go_wp2_with fail
          go_roundg (n - (k + 1))
          case measure => omega
          case rel => exact ⟨by trivial, rfl, k + 1, rfl, by omega, by go_num, HN.out⟩
      · obtain rfl : k = n := by omega
        have E : Hid (acc = T) := by
          show _ = _
          have h := HS.out.rest
          have e : ordF f W R = [] := by
            cases f with
            | zero => rfl
            | succ f => unfold ordF; rw [find_no_zero (fun j hj => HNZ.out j (by omega))]
          rw [e, List.append_nil] at h
          exact h
        go_wp2_with fail
        try rw [Exit.noGoto_ret]
        go_ret
        exact ⟨⟨la, acc.length, lc⟩, rfl, by rw [← E.out]; exact HS.out.list.base_le (by have := g0.size; omega), grown_same (grown_any g0 _) HS.out.grown⟩
end Go.Proofs.YtdcbjikjeicgbaaGreatDoor

/- Waits and readers of a graph's nodes: what they are, and how they lie. -/
namespace Go.Proofs.YtdcbjikjeicgbaaGreatDoor
open Go.RowKit

/-- A name's place among others. -/
def pos (l : List ByteArray) (x : ByteArray) : Nat := l.findIdx (fun y => y.data.toList == x.data.toList)

theorem pos_lt {l : List ByteArray} {x : ByteArray} (h : inL x l = true) : pos l x < l.length := by
  unfold inL at h
  rw [List.any_eq_true] at h
  exact List.findIdx_lt_length_of_exists h

theorem pos_at {l : List ByteArray} {x : ByteArray} (h : inL x l = true) : l[pos l x]? = some x := by
  have hl := pos_lt h
  rw [List.getElem?_eq_getElem hl]
  have e : (fun y : ByteArray => y.data.toList == x.data.toList) l[pos l x] = true := List.findIdx_getElem (w := hl)
  have e2 : l[pos l x].data.toList = x.data.toList := by simpa using e
  have e3 : l[pos l x].data = x.data := Array.toList_inj.1 e2
  refine congrArg some ?_
  generalize l[pos l x] = y at e3
  cases y
  cases x
  simp at e3
  rw [e3]

/-- One more name that a node reads. -/
def lnk (l : List ByteArray) (k0 i : Nat) (p : List Int × List (List Int)) (x : ByteArray) : List Int × List (List Int) :=
  if k0 ≤ pos l x then (p.1.set i (p.1.getD i 0 + 1), p.2.set (pos l x - k0) (p.2.getD (pos l x - k0) [] ++ [(i : Int)])) else p

def lnkRow (l : List ByteArray) (k0 i : Nat) (p : List Int × List (List Int)) (xs : List ByteArray) : List Int × List (List Int) := xs.foldl (lnk l k0 i) p

/-- Waits and readers, of the first k nodes. -/
def linksN (cs : List Nc) (l : List ByteArray) (k0 : Nat) : Nat → List Int × List (List Int)
  | 0 => (List.replicate cs.length 0, List.replicate cs.length [])
  | k + 1 => lnkRow l k0 k (linksN cs l k0 k) ((cs[k]?.map (·.ins)).getD [])

/-- How great they may be. -/
structure LB (n cnt : Nat) (p : List Int × List (List Int)) : Prop where
  l1 : p.1.length = n
  l2 : p.2.length = n
  b1 : ∀ z ∈ p.1, 0 ≤ z ∧ z ≤ cnt
  b2 : ∀ r ∈ p.2, r.length ≤ cnt ∧ ∀ z ∈ r, 0 ≤ z ∧ z < n

theorem LB.start (n : Nat) : LB n 0 (List.replicate n 0, List.replicate n []) :=
  ⟨by simp, by simp, fun z hz => by simp at hz; omega, fun r hr => by simp at hr; simp [hr.2]⟩

theorem LB.le {n a b : Nat} {p : List Int × List (List Int)} (h : LB n a p) (hab : a ≤ b) : LB n b p :=
  ⟨h.l1, h.l2, fun z hz => by have := h.b1 z hz; omega, fun r hr => ⟨by have := (h.b2 r hr).1; omega, (h.b2 r hr).2⟩⟩

theorem LB.step {n cnt : Nat} {p : List Int × List (List Int)} (h : LB n cnt p) {l : List ByteArray} {k0 i : Nat} {x : ByteArray} (hi : i < n) (hx : pos l x < k0 + n) : LB n (cnt + 1) (lnk l k0 i p x) := by
  unfold lnk
  split
  · rename_i hk
    have hm : pos l x - k0 < p.2.length := by rw [h.l2]; omega
    refine ⟨by simp [h.l1], by simp [h.l2], fun z hz => ?_, fun r hr => ?_⟩
    · rcases mem_set_or hz with h1 | h1
      · have := h.b1 z h1; omega
      · have := h.b1 _ (getD_mem_or p.1 i (by rw [h.l1]; exact hi)); omega
    · rcases List.mem_or_eq_of_mem_set hr with h1 | h1
      · exact ⟨by have := (h.b2 r h1).1; omega, (h.b2 r h1).2⟩
      · have hq := h.b2 (p.2.getD (pos l x - k0) []) (by rw [List.getD, List.getElem?_eq_getElem hm]; exact List.getElem_mem hm)
        rw [h1]
        refine ⟨by have := hq.1; rw [List.length_append, List.length_singleton]; omega, fun z hz => ?_⟩
        rcases List.mem_append.1 hz with h2 | h2
        · exact hq.2 z h2
        · simp at h2; omega
  · exact h.le (by omega)

theorem lnkRow_step (l : List ByteArray) (k0 i : Nat) (p : List Int × List (List Int)) (xs : List ByteArray) {t : Nat} (ht : t < xs.length) : lnkRow l k0 i p (xs.take (t + 1)) = lnk l k0 i (lnkRow l k0 i p (xs.take t)) xs[t] := by
  unfold lnkRow
  rw [List.take_add_one, List.getElem?_eq_getElem ht, List.foldl_append]
  rfl

abbrev nilS : Sl := ⟨none, 0, 0⟩

/-- How waits and readers lie: the call's own rows, apart from one another. -/
structure Lk (w : World) (base Bw Br : Nat) (p : List Int × List (List Int)) (rs : List Sl) : Prop where
  own : OwnW w base Bw p.1
  row : w.ownsRow base 29 1 (.slice (some ⟨Br, 0, none⟩) p.2.length p.2.length) p.2.length (rs.map (fun s => .slice s.a s.n s.c))
  len : rs.length = p.2.length
  each : ∀ k, k < p.2.length → Owns w base (rs.getD k nilS).v (p.2.getD k [])
  apart : ∀ k, k < p.2.length → ∀ g, (rs.getD k nilS).v.ownBlock = some g → g ≠ Bw ∧ g ≠ Br ∧ ∀ j, j < p.2.length → j ≠ k → (rs.getD j nilS).v.ownBlock ≠ some g
  ne : Bw ≠ Br

theorem some_or {v : Value} {row : Option Nat} (h : ∀ g, v.ownBlock = some g → some g ≠ row) : v.ownBlock = none ∨ v.ownBlock ≠ row := by
  cases e : v.ownBlock with
  | none => exact Or.inl rfl
  | some g => exact Or.inr (h g e)

theorem Lk.new {w w' : World} {base Bw Br : Nat} {p : List Int × List (List Int)} {rs : List Sl} (h : Lk w base Bw Br p rs) (hg : w.grownBy w' none) : Lk w' base Bw Br p rs :=
  ⟨World.ownsRow.kept h.own hg (Or.inr (by simp [Value.ownBlock])), World.ownsRow.kept h.row hg (Or.inr (by simp [Value.ownBlock])), h.len, fun k hk => (h.each k hk).new hg, h.apart, h.ne⟩

theorem Lk.inc {w : World} {base Bw Br : Nat} {W : List Int} {R : List (List Int)} {rs : List Sl} (h : Lk w base Bw Br (W, R) rs) (i : Nat) (x : Int) :
    Lk (w.setCell ⟨Bw, i, none⟩ (.int .i64 x)) base Bw Br (W.set i x, R) rs ∧ w.grownBy (w.setCell ⟨Bw, i, none⟩ (.int .i64 x)) (some Bw) := by
  have s := OwnW.set h.own i x
  refine ⟨⟨s.1, World.ownsRow.kept h.row s.2 (Or.inr (by simp [Value.ownBlock]; exact fun e => h.ne e.symm)), h.len, fun k hk => ?_, h.apart, h.ne⟩, s.2⟩
  exact (h.each k hk).more s.2 (some_or fun g e => by have := (h.apart k hk g e).1; simpa using this)

theorem Lk.app {w w1 : World} {base Bw Br : Nat} {W : List Int} {R : List (List Int)} {rs : List Sl} (h : Lk w base Bw Br (W, R) rs) {m : Nat} (hm : m < R.length) {v' : Sl} {i : Nat} (hg : w.grownBy w1 (rs.getD m nilS).v.ownBlock)
    (ho : w1.ownsRow base 3 1 v'.v ((R.getD m []).length + 1) ((R.getD m []).map (Value.int .i64) ++ [.int .i64 (i : Int)])) (hat : v'.v.ownBlock = (rs.getD m nilS).v.ownBlock ∨ v'.v.ownBlock = some w.heap.size) (hi : i ≤ 1048576) (hl : (R.getD m []).length ≤ 1099511627776) :
    Lk (w1.setCell ⟨Br, m, none⟩ (.slice v'.a v'.n v'.c)) base Bw Br (W, R.set m (R.getD m [] ++ [(i : Int)])) (rs.set m v') ∧ w1.grownBy (w1.setCell ⟨Br, m, none⟩ (.slice v'.a v'.n v'.c)) (some Br) := by
  have hlen : rs.length = R.length := h.len
  have hBw := (World.ownsRow.lt h.own Bw rfl).2
  have hBr := (World.ownsRow.lt h.row Br rfl).2
  have row1 : w1.ownsRow base 29 1 (.slice (some ⟨Br, 0, none⟩) R.length R.length) R.length (rs.map (fun s => .slice s.a s.n s.c)) :=
    World.ownsRow.kept h.row hg (Or.inr (fun e => by exact (h.apart m hm Br (by rw [← e]; rfl)).2.1 rfl))
  have own1 : OwnW w1 base Bw W := World.ownsRow.kept h.own hg (Or.inr (fun e => by exact (h.apart m hm Bw (by rw [← e]; rfl)).1 rfl))
  have st := World.ownsRow.stored row1 m (.slice v'.a v'.n v'.c)
  have hv1 : ∀ g, v'.v.ownBlock = some g → g ≠ Bw ∧ g ≠ Br ∧ ∀ j, j < R.length → j ≠ m → (rs.getD j nilS).v.ownBlock ≠ some g := by
    intro g e
    rcases hat with h1 | h1
    · exact h.apart m hm g (h1.symm.trans e)
    · have e2 : w.heap.size = g := by rw [h1] at e; injection e
      refine ⟨by omega, by omega, fun j hj hne e3 => ?_⟩
      have := ((h.each j hj).lt g e3).2
      omega
  have gset : ∀ j, (rs.set m v').getD j nilS = if j = m then v' else rs.getD j nilS := fun j => by
    by_cases e : j = m
    · subst e
      rw [if_pos rfl, List.getD, List.getElem?_set_self (by omega)]
      rfl
    · rw [if_neg e, List.getD, List.getElem?_set_ne (fun h => e h.symm)]
      rfl
  have rset : ∀ j, (R.set m (R.getD m [] ++ [(i : Int)])).getD j [] = if j = m then R.getD m [] ++ [(i : Int)] else R.getD j [] := fun j => by
    by_cases e : j = m
    · subst e
      rw [if_pos rfl, List.getD, List.getElem?_set_self (by omega)]
      rfl
    · rw [if_neg e, List.getD, List.getElem?_set_ne (fun h => e h.symm)]
      rfl
  refine ⟨⟨World.ownsRow.kept own1 st.2 (Or.inr (by simp [Value.ownBlock]; exact h.ne)), ?_, by simp [hlen], fun k hk => ?_, fun k hk g e => ?_, h.ne⟩, st.2⟩
  · have := st.1
    rw [← List.map_set (f := fun s : Sl => Value.slice s.a s.n s.c) (a := v')] at this
    simpa using this
  · have hk' : k < R.length := by simpa using hk
    show Owns _ base ((rs.set m v').getD k nilS).v ((R.set m (R.getD m [] ++ [(i : Int)])).getD k [])
    rw [gset, rset]
    by_cases e : k = m
    · rw [if_pos e, if_pos e]
      refine Owns.more (w := w1) ⟨?_, ?_, fun z hz => ?_⟩ st.2 (some_or fun g e => by have := (hv1 g e).2.1; simpa using this)
      · rw [List.length_append, List.map_append]; exact ho
      · rw [List.length_append, List.length_singleton]; omega
      · rcases List.mem_append.1 hz with h1 | h1
        · exact (h.each m hm).2.2 z h1
        · simp at h1; omega
    · rw [if_neg e, if_neg e]
      refine ((h.each k hk').more hg (some_or fun g e1 e2 => ?_)).more st.2 (some_or fun g e1 => by have := (h.apart k hk' g e1).2.1; simpa using this)
      exact (h.apart k hk' g e1).2.2 m hm (fun e3 => e e3.symm) e2.symm
  · have hk' : k < R.length := by simpa using hk
    have e : ((rs.set m v').getD k nilS).v.ownBlock = some g := e
    show g ≠ Bw ∧ g ≠ Br ∧ ∀ j, j < (R.set m (R.getD m [] ++ [(i : Int)])).length → j ≠ k → ((rs.set m v').getD j nilS).v.ownBlock ≠ some g
    rw [gset] at e
    by_cases ek : k = m
    · rw [if_pos ek] at e
      obtain ⟨a1, a2, a3⟩ := hv1 g e
      refine ⟨a1, a2, fun j hj hne => ?_⟩
      rw [gset, if_neg (by omega)]
      exact a3 j (by simpa using hj) (by omega)
    · rw [if_neg ek] at e
      obtain ⟨a1, a2, a3⟩ := h.apart k hk' g e
      refine ⟨a1, a2, fun j hj hne => ?_⟩
      rw [gset]
      by_cases ej : j = m
      · rw [if_pos ej]
        intro e2
        exact (hv1 g e2).2.2 k hk' ek e
      · rw [if_neg ej]
        exact a3 j (by simpa using hj) hne
end Go.Proofs.YtdcbjikjeicgbaaGreatDoor
