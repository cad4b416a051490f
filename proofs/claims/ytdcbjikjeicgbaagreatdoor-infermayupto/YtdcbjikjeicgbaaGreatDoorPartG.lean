/- Joined texts: IPure, GBool, IHelp, ILists, IAttr, INode, IMore. -/
import Derived.Test.YtdcbjikjeicgbaaGreatDoorPartE
import Derived.Test.YtdcbjikjeicgbaaGreatDoorPartF
import Derived.Test.YtdcbjikjeicgbaaGreatDoorPartA
import Derived.WalkLawsBesides
import Derived.Deep.RegionHeld3
import Derived.BigQuiet
import Derived.Deep.RegionWith
/- What infer answers, in plain functions: errors and lists; no program stands here. -/
namespace Go.Proofs.YtdcbjikjeicgbaaGreatDoor

/-- An answer, or the number of an error. -/
abbrev R := Except Int

def mustP (b : Bool) : R Unit := if b = true then .ok () else .error 4
def stopP (e : Int) : R Unit := if e = 0 then .ok () else .error e
def wholeP (x : Int) : Int := if (if x < -1073741824 then -1073741824 else x) < 1073741824 then (if x < -1073741824 then -1073741824 else x) else 1073741824
def isTypeP (t : Int) : Bool := t == 1 || t == 6 || t == 7 || t == 9
def typP (t : Int) : R Unit := if isTypeP t = true then .ok () else .error 5
def countP (zs : List Int) : R Int := if cntE zs = 0 then .ok (prod zs) else .error (cntE zs)
def spreadP (a b : List Int) : R (List Int) := if bcE a b = 0 then .ok (bcR a b) else .error (bcE a b)
def fromEndP (x : Int) (n : Nat) : Int := if x < 0 then x + n else x
def axisO (a : Int) (rank : Nat) : Option Nat := if fromEndP a rank < 0 then none else if (rank : Int) ≤ fromEndP a rank then none else some (fromEndP a rank).toNat
def axisP (a : Int) (rank : Nat) : R Nat := match axisO a rank with
  | some i => .ok i
  | none => .error 4
/-- Which of the dimensions are among the axes. -/
def axesO (rank : Nat) : List Int → List Bool → Option (List Bool)
  | [], is => some is
  | a :: l, is => match axisO a rank with
    | none => none
    | some i => if is.getD i false = true then none else axesO rank l (is.set i true)
def axesP (l : List Int) (rank : Nat) : R (List Bool) := match axesO rank l (List.replicate rank false) with
  | some is => .ok is
  | none => .error 4
def boundedP (x : Int) (d : Nat) : Int := if (if fromEndP x d < 0 then 0 else fromEndP x d) < d then (if fromEndP x d < 0 then 0 else fromEndP x d) else d
def upToP (n : Nat) : List Int := (List.range n).map Int.ofNat
def isOnP (x : Int) : R Bool := if x = 0 then .ok false else if x = 1 then .ok true else .error 4

/-- A node's attributes with what their lists hold. -/
structure At where
  op : ByteArray
  xs : List Atr
  cs : List Cont

def At.int (n : At) (nm : ByteArray) (z : Int) : Int := intV n.xs nm z
def At.ints (n : At) (nm : ByteArray) (zs : List Int) : List Int := intsV n.xs n.cs nm zs

def permP (n : At) (rank : Nat) : List Int := n.ints ⟨#[112, 101, 114, 109]⟩ (upToP rank).reverse
def alongP (n : At) (rank : Nat) : List Int :=
  if n.op.toList = [65, 114, 103, 77, 97, 120] then [n.int ⟨#[97, 120, 105, 115]⟩ 0] else if n.op.toList = [83, 111, 102, 116, 109, 97, 120] then [n.int ⟨#[97, 120, 105, 115]⟩ (-1)] else n.ints ⟨#[97, 120, 101, 115]⟩ (upToP rank)

/-- The dims without the axes that go, or with 1 for them. -/
def keptL (keep : Bool) : List Int → List Bool → List Int
  | d :: l, g :: gs => if g = false then d :: keptL keep l gs else if keep = true then 1 :: keptL keep l gs else keptL keep l gs
  | _, _ => []
def reducedP (n : At) (x : List Int) : R (List Int) := do
  let keep ← isOnP (n.int ⟨#[107, 101, 101, 112, 100, 105, 109, 115]⟩ 1)
  let gone ← axesP (alongP n x.length) x.length
  return keptL keep x gone

/-- What is known of a shape, number by number: where the open one is, the product, the dims. -/
def shapeP (x : List Int) (count : Int) : List Int → Nat → Option Nat → Int → List Int → R (Option Nat × Int × List Int)
  | [], _, left, known, dims => .ok (left, known, dims)
  | d :: l, i, left, known, dims => do
    let (left', d') ← (if d = -1 then (if left = none then .ok (some i, 1) else .error 4) else if d = 0 then (if i < x.length then .ok (left, x.getD i 0) else .error 4) else .ok (left, d) : R (Option Nat × Int))
    mustP (decide (1 ≤ d' ∧ d' ≤ count))
    mustP (decide (known * d' ≤ count))
    shapeP x count l (i + 1) left' (known * d') (dims ++ [d'])
def reshapedP (x shape : List Int) : R (List Int) := do
  let count ← countP x
  let (left, known, dims) ← shapeP x count shape 0 none 1 []
  mustP (decide (count % known = 0 ∧ (left ≠ none ∨ known = count)))
  return (match left with
    | some j => dims.set j (count / known)
    | none => dims)

def permL (x : List Int) : List Int → R (List Int)
  | [] => .ok []
  | p :: l => if 0 ≤ p then (permL x l).map (x.getD p.toNat 0 :: ·) else .error 4
def transposedP (n : At) (x : List Int) : R (List Int) := do
  mustP (decide ((permP n x.length).length = x.length))
  let _ ← axesP (permP n x.length) x.length
  permL x (permP n x.length)

/-- Are all dims but that of the axis alike? -/
def likeP (dims : List Int) (axis : Nat) (y : List Int) : Bool := (List.range y.length).all (fun i => i == axis || y.getD i 0 == dims.getD i 0)
def joinL (axis : Nat) : List (List Int) → List Int → R (List Int)
  | [], dims => .ok dims
  | y :: l, dims => do
    mustP (decide (y.length = dims.length))
    mustP (likeP dims axis y)
    joinL axis l (dims.set axis (dims.getD axis 0 + y.getD axis 0))
def joinedP (n : At) (x : List Int) (ys : List (List Int)) : R (List Int) := do
  let axis ← axisP (n.int ⟨#[97, 120, 105, 115]⟩ 0) x.length
  joinL axis ys x

def sliceL (x : List Int) : List Int → List Int → List Int → List Int → R (List Int)
  | a :: al, s :: ss, e :: es, dims => do
    let axis ← axisP a x.length
    mustP (decide (boundedP s (x.getD axis 0).toNat < boundedP e (x.getD axis 0).toNat))
    sliceL x al ss es (dims.set axis (boundedP e (x.getD axis 0).toNat - boundedP s (x.getD axis 0).toNat))
  | _, _, _, dims => .ok dims
def slicedP (n : At) (x : List Int) : R (List Int) := do
  let starts := n.ints ⟨#[115, 116, 97, 114, 116, 115]⟩ []
  let ends := n.ints ⟨#[101, 110, 100, 115]⟩ []
  let axes := n.ints ⟨#[97, 120, 101, 115]⟩ (upToP starts.length)
  mustP (decide (starts.length = ends.length ∧ starts.length = axes.length))
  let _ ← axesP axes x.length
  sliceL x axes starts ends x

def padL (r : Nat) : List Int → Nat → List Int → R (List Int)
  | [], _, dims => .ok dims
  | p :: l, i, dims => do
    mustP (decide (0 ≤ p ∧ p ≤ 65536))
    padL r l (i + 1) (dims.set (i % r) (dims.getD (i % r) 0 + p))
def paddedP (x pads : List Int) : R (List Int) := do
  mustP (decide (pads.length = 2 * x.length))
  padL x.length pads 0 x

def squeezeL : List Int → List Bool → R (List Int)
  | d :: l, g :: gs => if g = true then (if d = 1 then squeezeL l gs else .error 4) else (squeezeL l gs).map (d :: ·)
  | _, _ => .ok []
def squeezedP (x axes : List Int) : R (List Int) := do
  let gone ← axesP axes x.length
  squeezeL x gone

def unsqL : List Bool → List Int → List Int
  | [], _ => []
  | true :: l, x => 1 :: unsqL l x
  | false :: l, x => x.getD 0 0 :: unsqL l x.tail
def unsqueezedP (x axes : List Int) : R (List Int) := do
  let isNew ← axesP axes (x.length + axes.length)
  return unsqL isNew x

def flattenedP (n : At) (x : List Int) : R (List Int) := do
  let axis := fromEndP (n.int ⟨#[97, 120, 105, 115]⟩ 1) x.length
  mustP (decide (0 ≤ axis ∧ axis ≤ x.length))
  let a ← countP (x.take axis.toNat)
  let b ← countP (x.drop axis.toNat)
  return [a, b]

def productP (x y : List Int) : R (List Int) := do
  mustP (decide (2 ≤ x.length ∧ 2 ≤ y.length))
  mustP (x.getD (x.length - 1) 0 == y.getD (y.length - 2) 0)
  let s ← spreadP (x.take (x.length - 2)) (y.take (y.length - 2))
  return s ++ [x.getD (x.length - 2) 0, y.getD (y.length - 1) 0]
def turnedP (x : List Int) (t : Int) : R (List Int) := do
  mustP (decide (x.length = 2))
  let on ← isOnP t
  return if on = true then [x.getD 1 0, x.getD 0 0] else x
def gemmP (n : At) (x y : List Int) (z : Option (List Int)) : R (List Int) := do
  let a ← turnedP x (n.int ⟨#[116, 114, 97, 110, 115, 65]⟩ 0)
  let b ← turnedP y (n.int ⟨#[116, 114, 97, 110, 115, 66]⟩ 0)
  let dims ← productP a b
  match z with
  | none => return dims
  | some c => do
    let s ← spreadP dims c
    mustP (decide (s = dims))
    return dims
def normalizedP (x : List Int) (ys : List (List Int)) : R (List Int) := do
  mustP (decide (2 ≤ x.length))
  mustP (ys.all (fun y => y == (x.drop 1).take 1))
  return x

def withinP (l : List Int) (many : Nat) (least : Int) : R (List Int) := do
  mustP (decide (l.length = many))
  mustP (l.all (fun x => decide (least ≤ x ∧ x ≤ 100)))
  return l
def padsP (n : At) : R (List Int) := withinP (n.ints ⟨#[112, 97, 100, 115]⟩ [0, 0, 0, 0]) 4 0
def placesP (n : At) (x kernel : List Int) (along : Nat) : R Int := do
  let stride ← withinP (n.ints ⟨#[115, 116, 114, 105, 100, 101, 115]⟩ [1, 1]) 2 1
  let dilation ← withinP (n.ints ⟨#[100, 105, 108, 97, 116, 105, 111, 110, 115]⟩ [1, 1]) 2 1
  let pads ← padsP n
  let rest := x.getD (2 + along) 0 + pads.getD along 0 + pads.getD (2 + along) 0 - dilation.getD along 0 * (kernel.getD along 0 - 1) - 1
  mustP (decide (0 ≤ rest))
  return rest / stride.getD along 0 + 1
def convolvedP (n : At) (x w : List Int) (z : Option (List Int)) : R (List Int) := do
  mustP (decide (x.length = 4 ∧ w.length = 4))
  mustP (match z with
    | none => true
    | some c => decide (c.length = 1 ∧ c.getD 0 0 = w.getD 0 0))
  let group := n.int ⟨#[103, 114, 111, 117, 112]⟩ 1
  mustP (decide (1 ≤ group))
  mustP (decide (x.getD 1 0 % group = 0 ∧ w.getD 0 0 % group = 0 ∧ x.getD 1 0 / group = w.getD 1 0))
  let a ← placesP n x [w.getD 2 0, w.getD 3 0] 0
  let b ← placesP n x [w.getD 2 0, w.getD 3 0] 1
  return [x.getD 0 0, w.getD 0 0, a, b]
def pooledP (n : At) (x : List Int) : R (List Int) := do
  mustP (decide (x.length = 4))
  let kernel ← withinP (n.ints ⟨#[107, 101, 114, 110, 101, 108, 95, 115, 104, 97, 112, 101]⟩ []) 2 1
  let pads ← padsP n
  mustP ((List.range 4).all (fun i => decide (pads.getD i 0 < kernel.getD (i % 2) 0)))
  let a ← placesP n x kernel 0
  let b ← placesP n x kernel 1
  return [x.getD 0 0, x.getD 1 0, a, b]
end Go.Proofs.YtdcbjikjeicgbaaGreatDoor

/- Lists of yes and no of the call's own. -/
namespace Go.Proofs.YtdcbjikjeicgbaaGreatDoor
open Go.RowKit

theorem infoBool : (Tryz.prog.info? 4).map (fun i => (i.zero, i.size, i.bytes)) = some (some (.bool false), 1, 1) := by kernel_rfl

theorem flat_bools : ∀ bs : List Bool, bs.flatMap (fun b : Bool => [Value.bool b]) = bs.map Value.bool
  | [] => rfl
  | b :: l => by rw [List.flatMap_cons, flat_bools l]; rfl

/-- A list of yes and no of the call's own. -/
def OwnBl (w : World) (base B : Nat) (bs : List Bool) : Prop := w.ownsRow base 4 1 (.slice (some ⟨B, 0, none⟩) bs.length bs.length) bs.length (bs.map Value.bool)

theorem OwnBl.at {w : World} {base B : Nat} {bs : List Bool} (h : OwnBl w base B bs) {k : Nat} {v : Bool} (hk : bs[k]? = some v) : w.cell? ⟨B, k, none⟩ = some (.bool v) ∧ w.frozen? ⟨B, k, none⟩ = false := by
  refine ⟨?_, World.ownsRow.frozenAt h k⟩
  rw [World.ownsRow.cellAt h k (by have := (List.getElem?_eq_some_iff.1 hk).1; omega), List.getElem?_map, hk]
  rfl

theorem OwnBl.set {w : World} {base B : Nat} {bs : List Bool} (h : OwnBl w base B bs) (k : Nat) (x : Bool) : OwnBl (w.setCell ⟨B, k, none⟩ (.bool x)) base B (bs.set k x) ∧ w.grownBy (w.setCell ⟨B, k, none⟩ (.bool x)) (some B) := by
  have s := World.ownsRow.stored h k (.bool x)
  rw [← List.map_set] at s
  refine ⟨?_, s.2⟩
  unfold OwnBl
  rw [List.length_set]
  exact s.1

theorem OwnBl.lt {w : World} {base B : Nat} {bs : List Bool} (h : OwnBl w base B bs) : base ≤ B ∧ B < w.heap.size := World.ownsRow.lt h B rfl

theorem OwnBl.new {w w' : World} {base B : Nat} {bs : List Bool} (h : OwnBl w base B bs) (hg : w.grownBy w' none) : OwnBl w' base B bs := World.ownsRow.kept h hg (.inr (by simp [Value.ownBlock]))
end Go.Proofs.YtdcbjikjeicgbaaGreatDoor

/- The small helpers of infer and attr, by the walk. -/
namespace Go.Proofs.YtdcbjikjeicgbaaGreatDoor
open Go.RowKit

/-- How a call ends that may give up: an error's number, or what it answers. -/
def Ended {α : Type} (w : World) (r : R α) (Q : α → Value → World → Prop) (e : Ending) (w' : World) : Prop := w.grownBy w' none ∧ match r with
  | .error c => e = .panicked [{ v := .iface 32 (.int .i64 c), recovered := false }]
  | .ok a => ∃ v, e = .returned v ∧ Q a v w'

theorem ended_err {α : Type} {w w' : World} {r : R α} {Q : α → Value → World → Prop} {c : Int} (h : r = .error c) (hg : w.grownBy w' none) : Ended w r Q (.panicked [{ v := .iface 32 (.int .i64 c), recovered := false }]) w' := by
  rw [h]
  exact ⟨hg, rfl⟩

theorem ended_ok {α : Type} {w w' : World} {r : R α} {Q : α → Value → World → Prop} {a : α} {v : Value} (h : r = .ok a) (hg : w.grownBy w' none) (hq : Q a v w') : Ended w r Q (.returned v) w' := by
  rw [h]
  exact ⟨hg, v, rfl, hq⟩

theorem Owns.sl {w : World} {base : Nat} {v : Value} {zs : List Int} (h : Owns w base v zs) : ∃ s : Sl, v = s.v := by
  rcases h.1.2 with ⟨rfl, -⟩ | ⟨g, cap, cur, rfl, -⟩
  · exact ⟨⟨none, 0, 0⟩, rfl⟩
  · exact ⟨⟨_, _, _⟩, rfl⟩

theorem must_yes (w : World) : Calls Tryz.prog 45 #[.bool true] w fun e w' => e = .returned (.tuple #[]) ∧ w = w' := by
  go_enter Tryz.func45, Tryz.ntmps45
  go_wp2
  go_end0
  exact ⟨rfl, rfl⟩

theorem must_no (w : World) : Calls Tryz.prog 45 #[.bool false] w fun e w' => e = .panicked [{ v := .iface 32 (.int .i64 4), recovered := false }] ∧ w = w' := by
  go_enter Tryz.func45, Tryz.ntmps45
  go_wp2
  exact ⟨rfl, rfl, rfl⟩

theorem stop_ok (w : World) : Calls Tryz.prog 43 #[.int .i64 0] w fun e w' => e = .returned (.tuple #[]) ∧ w = w' := by
  go_enter Tryz.func43, Tryz.ntmps43
  go_wp2
  go_end0
  exact ⟨rfl, rfl⟩

theorem stop_err (c : Int) (hc : c ≠ 0) (w : World) : Calls Tryz.prog 43 #[.int .i64 c] w fun e w' => e = .panicked [{ v := .iface 32 (.int .i64 c), recovered := false }] ∧ w = w' := by
  have h : (c != 0) = true := by simpa using hc
  clear hc
  go_enter Tryz.func43, Tryz.ntmps43
  go_wp2
  exact ⟨rfl, rfl, rfl⟩

theorem fromend_any (x : Int) (n : Nat) (w : World) (hn : n ≤ 100000000000000) (hx : -9223372036854775808 ≤ x) : Calls Tryz.prog 183 #[.int .i64 x, .int .i64 n] w fun e w' => e = .returned (.int .i64 (fromEndP x n)) ∧ w = w' := by
  by_cases h : x < 0
  · have E : Hid (fromEndP x n = x + n) := by show fromEndP x n = x + n; simp [fromEndP, h]
    go_enter Tryz.func183, Tryz.ntmps183
    go_wp2
    go_ret
    exact ⟨by rw [E.out]; rfl, rfl⟩
  · have E : Hid (fromEndP x n = x) := by show fromEndP x n = x; simp [fromEndP, h]
    go_enter Tryz.func183, Tryz.ntmps183
    go_wp2
    go_ret
    exact ⟨by rw [E.out]; rfl, rfl⟩

theorem fromEndP_le (x : Int) (n : Nat) (hn : n ≤ 100000000000000) (hx : -9223372036854775808 ≤ x) (hx2 : x ≤ 9223372036854775807) : -9223372036854775808 ≤ fromEndP x n ∧ fromEndP x n ≤ 9223372036854775807 := by
  unfold fromEndP
  split <;> omega

theorem axis_any (a : Int) (rank : Nat) (w : World) (hr : rank ≤ 100000000000000) (ha : -9223372036854775808 ≤ a) : Calls Tryz.prog 181 #[.int .i64 a, .int .i64 rank] w fun e w' => e = .returned (.tuple #[.int .i64 ((axisO a rank).getD 0 : Nat), .bool (axisO a rank).isSome]) ∧ w = w' := by
  have F := hide (fromend_any a rank w hr ha)
  obtain ⟨f, hf⟩ : ∃ f, f = fromEndP a rank := ⟨_, rfl⟩
  have E : Hid (axisO a rank = if f < 0 then none else if (rank : Int) ≤ f then none else some f.toNat) := by show axisO a rank = _; rw [hf]; rfl
  rw [← hf] at F
  clear hf
  by_cases h1 : f < 0
  · have E2 : Hid (axisO a rank = none) := by show axisO a rank = none; rw [E.out, if_pos h1]
    go_enter Tryz.func181, Tryz.ntmps181
    go_wp2_with (go_at_call 183; refine F.out.mono ?_; rintro e w' ⟨rfl, rfl⟩)
    go_ret2
    exact ⟨by rw [E2.out]; rfl, rfl⟩
  · by_cases h2 : (rank : Int) ≤ f
    · have E2 : Hid (axisO a rank = none) := by show axisO a rank = none; rw [E.out, if_neg h1, if_pos h2]
      go_enter Tryz.func181, Tryz.ntmps181
      go_wp2_with (go_at_call 183; refine F.out.mono ?_; rintro e w' ⟨rfl, rfl⟩)
      go_ret2
      exact ⟨by rw [E2.out]; rfl, rfl⟩
    · have E2 : Hid (axisO a rank = some f.toNat) := by show axisO a rank = some f.toNat; rw [E.out, if_neg h1, if_neg h2]
      have E3 : Hid (((f.toNat : Nat) : Int) = f) := by show ((f.toNat : Nat) : Int) = f; omega
      go_enter Tryz.func181, Tryz.ntmps181
      go_wp2_with (go_at_call 183; refine F.out.mono ?_; rintro e w' ⟨rfl, rfl⟩)
      go_ret2
      exact ⟨by rw [E2.out]; simp only [Option.getD_some, E3.out]; rfl, rfl⟩

theorem axisof_any (a : Int) (rank : Nat) (w : World) (hr : rank ≤ 100000000000000) (ha : -9223372036854775808 ≤ a) : Calls Tryz.prog 106 #[.int .i64 a, .int .i64 rank] w (Ended w (axisP a rank) fun i v w' => v = .int .i64 (i : Nat) ∧ w = w') := by
  have F := hide (axis_any a rank w hr ha)
  unfold axisP
  cases hx : axisO a rank with
  | none =>
    rw [hx] at F
    clear hx
    go_enter Tryz.func106, Tryz.ntmps106
    go_wp2_with (first | (go_at_call 181; refine F.out.mono ?_; rintro e w' ⟨rfl, rfl⟩) | (go_at_call 45; refine (must_no _).mono ?_; rintro e w' ⟨rfl, rfl⟩))
    exact ⟨rfl, grown_refl _, rfl⟩
  | some i =>
    rw [hx] at F
    clear hx
    go_enter Tryz.func106, Tryz.ntmps106
    go_wp2_with (first | (go_at_call 181; refine F.out.mono ?_; rintro e w' ⟨rfl, rfl⟩) | (go_at_call 45; refine (must_yes _).mono ?_; rintro e w' ⟨rfl, rfl⟩))
    go_ret
    exact ⟨grown_refl _, _, rfl, rfl, rfl⟩

theorem countof_any (v : Value) (zs : List Int) (w : World) (h : IsInts w v zs) : Calls Tryz.prog 47 #[v] w (Ended w (countP zs) fun n v w' => v = .int .i64 n ∧ w = w') := by
  have F := hide (count_any v zs w h)
  unfold countP
  by_cases hx : cntE zs = 0
  · rw [if_pos hx]
    have E : cnt zs = prod zs := by simp [cnt, hx]
    rw [hx, E] at F
    clear hx h E
    go_enter Tryz.func47, Tryz.ntmps47
    go_wp2_with (first | (go_at_call 90; refine F.out.mono ?_; rintro e w' ⟨rfl, rfl⟩) | (go_at_call 43; refine (stop_ok _).mono ?_; rintro e w' ⟨rfl, rfl⟩))
    go_ret
    exact ⟨grown_refl _, _, rfl, rfl, rfl⟩
  · rw [if_neg hx]
    have HX := hide hx
    clear hx h
    go_enter Tryz.func47, Tryz.ntmps47
    go_wp2_with (first | (go_at_call 90; refine F.out.mono ?_; rintro e w' ⟨rfl, rfl⟩) | (go_at_call 43; refine (stop_err _ HX.out _).mono ?_; rintro e w' ⟨rfl, rfl⟩))
    exact ⟨rfl, grown_refl _, rfl⟩

theorem spread_any (u v : Sl) (a b : List Int) (w : World) (ha : IsInts w u.v a) (hb : IsInts w v.v b) : Calls Tryz.prog 96 #[.slice u.a u.n u.c, .slice v.a v.n v.c] w (Ended w (spreadP a b) fun zs r w' => ∃ s : Sl, r = s.v ∧ Owns w' w.heap.size s.v zs) := by
  have F := hide (bc_any u.v v.v a b w ha hb)
  unfold spreadP
  by_cases hx : bcE a b = 0
  · rw [if_pos hx]
    rw [hx] at F
    clear hx ha hb
    go_enter Tryz.func96, Tryz.ntmps96
    go_wp2_with (first | (go_at_call 174; refine F.out.mono ?_; rintro e w' ⟨r, rfl, ho, hg⟩) | (go_at_call 43; refine (stop_ok _).mono ?_; rintro e w' ⟨rfl, rfl⟩))
    go_ret
    obtain ⟨s, rfl⟩ := ho.sl
    exact ⟨hg, _, rfl, s, rfl, ho⟩
  · rw [if_neg hx]
    have HX := hide hx
    clear hx ha hb
    go_enter Tryz.func96, Tryz.ntmps96
    go_wp2_with (first | (go_at_call 174; refine F.out.mono ?_; rintro e w' ⟨r, rfl, ho, hg⟩) | (go_at_call 43; refine (stop_err _ HX.out _).mono ?_; rintro e w' ⟨rfl, rfl⟩))
    exact ⟨rfl, hg, rfl⟩

theorem itype_any (t : Int) (w : World) : Calls Tryz.prog 89 #[.int .i64 t] w fun e w' => e = .returned (.bool (isTypeP t)) ∧ w = w' := by
  have E : Hid (chk t 0 = isTypeP t) := by
    show chk t 0 = isTypeP t
    unfold chk isTypeP
    by_cases h1 : t = 1
    · subst h1; decide
    · by_cases h6 : t = 6
      · subst h6; decide
      · by_cases h7 : t = 7
        · subst h7; decide
        · by_cases h9 : t = 9
          · subst h9; decide
          · simp [h1, h6, h7, h9]
  have C := hide (numck_any t 0 w)
  rw [E.out] at C
  clear E
  go_enter Tryz.func89, Tryz.ntmps89
  go_wp2_with (go_at_call 168; refine C.out.mono ?_; rintro e w' ⟨rfl, rfl⟩)
  go_ret
  exact ⟨rfl, rfl⟩

theorem typ_any (t : Int) (w : World) : Calls Tryz.prog 46 #[.int .i64 t] w (Ended w (typP t) fun _ v w' => v = .tuple #[] ∧ w = w') := by
  have C := hide (itype_any t w)
  unfold typP
  cases h : isTypeP t with
  | true =>
    rw [h] at C
    clear h
    go_enter Tryz.func46, Tryz.ntmps46
    go_wp2_with (go_at_call 89; refine C.out.mono ?_; rintro e w' ⟨rfl, rfl⟩)
    go_end0
    exact ⟨grown_refl _, _, rfl, rfl, rfl⟩
  | false =>
    rw [h] at C
    clear h
    go_enter Tryz.func46, Tryz.ntmps46
    go_wp2_with (go_at_call 89; refine C.out.mono ?_; rintro e w' ⟨rfl, rfl⟩)
    exact ⟨rfl, grown_refl _, rfl⟩

theorem ison_any (x : Int) (w : World) : Calls Tryz.prog 177 #[.int .i64 x] w (Ended w (isOnP x) fun b v w' => v = .bool b ∧ w = w') := by
  unfold isOnP
  by_cases h0 : x = 0
  · subst h0
    rw [if_pos rfl]
    go_enter Tryz.func177, Tryz.ntmps177
    go_wp2_with (go_at_call 45; refine (must_yes _).mono ?_; rintro e w' ⟨rfl, rfl⟩)
    go_ret
    exact ⟨grown_refl _, _, rfl, rfl, rfl⟩
  · rw [if_neg h0]
    by_cases h1 : x = 1
    · subst h1
      rw [if_pos rfl]
      go_enter Tryz.func177, Tryz.ntmps177
      go_wp2_with (go_at_call 45; refine (must_yes _).mono ?_; rintro e w' ⟨rfl, rfl⟩)
      go_ret
      exact ⟨grown_refl _, _, rfl, rfl, rfl⟩
    · rw [if_neg h1]
      have b0 : (x == 0) = false := by simpa using h0
      have b1 : (x == 1) = false := by simpa using h1
      clear h0 h1
      go_enter Tryz.func177, Tryz.ntmps177
      go_wp2_with (go_at_call 45; refine (must_no _).mono ?_; rintro e w' ⟨rfl, rfl⟩)
      exact ⟨rfl, grown_refl _, rfl⟩
end Go.Proofs.YtdcbjikjeicgbaaGreatDoor

/- Lists of whole numbers: new ones, parts of them, one more behind them. -/
namespace Go.Proofs.YtdcbjikjeicgbaaGreatDoor
open Go.RowKit

/-- A new list of some numbers, whatever its type. -/
theorem ints_new (w : World) (zs : List Int) (t : TypeId) (hl : zs.length * 8 ≤ 140737488351232) (hz : ∀ z ∈ zs, -9223372036854775808 ≤ z ∧ z ≤ 9223372036854775807) :
    IsInts (w.alloc (.cells (zs.map (Value.int .i64)).toArray t)) (.slice (some ⟨w.heap.size, 0, none⟩) zs.length zs.length) zs := by
  refine ⟨_, _, rfl, Nat.le_refl _, by omega, hl, (fun h => by cases h), fun _ => ⟨_, _, rfl, fun k hk => ?_⟩, hz⟩
  rw [Nat.zero_add, cell_of_row _ _ k _ _ (0, 0) (heap_alloc_new w _)]
  simp [List.getD, hk]

/-- A part of a list. -/
theorem IsInts.part {w : World} {a : Option Addr} {n c : Nat} {zs : List Int} (h : IsInts w (.slice a n c) zs) (i j : Nat) (hij : i ≤ j) (hj : j ≤ zs.length) :
    ∃ a', IsInts w (.slice a' (j - i) (c - i)) ((zs.drop i).take (j - i)) ∧ (∀ b off, a = some ⟨b, off, none⟩ → a' = some ⟨b, off + i, none⟩) ∧ (a = none → a' = none) := by
  obtain ⟨ao, cap, e, h1, h2, h3, h4, h5, h6⟩ := h
  cases e
  have hlen : ((zs.drop i).take (j - i)).length = j - i := by simp; omega
  cases a with
  | none =>
    obtain ⟨rfl, rfl⟩ := h4 rfl
    have hj0 : j = 0 := by simpa using hj
    subst hj0
    have hi0 : i = 0 := by omega
    subst hi0
    exact ⟨none, ⟨none, 0, rfl, by simp, by simp, by simp, fun _ => ⟨by simp, rfl⟩, fun h => (by simp at h), fun z hz => (by simp at hz)⟩, (fun b off h => by cases h), fun _ => rfl⟩
  | some ad =>
    obtain ⟨b, off, sp⟩ := ad
    refine ⟨some ⟨b, off + i, sp⟩, ⟨some ⟨b, off + i, sp⟩, c - i, by rw [hlen], by rw [hlen]; omega, by omega, by rw [hlen]; omega, (fun h => by cases h), fun hp => ?_, fun z hz => h6 z (List.mem_of_mem_drop (List.mem_of_mem_take hz))⟩, (fun b' off' h => by cases h; rfl), fun h => by cases h⟩
    rw [hlen] at hp
    obtain ⟨b', off', e', hc⟩ := h5 (by omega)
    cases e'
    refine ⟨b, off + i, rfl, fun k hk => ?_⟩
    rw [hlen] at hk
    rw [Nat.add_assoc, hc (i + k) (by omega)]
    simp [List.getD, hk]
end Go.Proofs.YtdcbjikjeicgbaaGreatDoor

/- What attributes mean: axes, bounds, numbers, by the walk. -/
namespace Go.Proofs.YtdcbjikjeicgbaaGreatDoor
open Go.RowKit

theorem whole_any (x : Int) (w : World) : Calls Tryz.prog 92 #[.int .i64 x] w fun e w' => e = .returned (.int .i64 (wholeP x)) ∧ w = w' := by
  have E : ∀ a, a = wholeP x → Ending.returned (.int .i64 a) = .returned (.int .i64 (wholeP x)) := fun a h => by rw [h]
  go_enter Tryz.func92, Tryz.ntmps92
  go_wp2
  all_goals
    go_ret
    refine ⟨E _ ?_, rfl⟩
    unfold wholeP
    split <;> split at * <;> omega

theorem bounded_any (x : Int) (d : Nat) (w : World) (hd : d ≤ 100000000000000) (hx : -9223372036854775808 ≤ x) : Calls Tryz.prog 180 #[.int .i64 x, .int .i64 d] w fun e w' => e = .returned (.int .i64 (boundedP x d)) ∧ w = w' := by
  have F := hide (fromend_any x d w hd hx)
  have E : Hid (∀ a, a = (if (if fromEndP x d < 0 then 0 else fromEndP x d) < (d : Int) then (if fromEndP x d < 0 then 0 else fromEndP x d) else (d : Int)) → Ending.returned (.int .i64 a) = .returned (.int .i64 (boundedP x d))) := fun a h => by rw [h]; rfl
  obtain ⟨f, hf⟩ : ∃ f, f = fromEndP x d := ⟨_, rfl⟩
  rw [← hf] at F E
  clear hf
  go_enter Tryz.func180, Tryz.ntmps180
  go_wp2_with (go_at_call 183; refine F.out.mono ?_; rintro e w' ⟨rfl, rfl⟩)
  all_goals
    go_ret
    refine ⟨E.out _ ?_, rfl⟩
    split <;> split at * <;> omega

/-- A new list of so many no. -/
theorem make_bools (n : Nat) (hn : n ≤ 100000000000000) : ∃ M : Array Value, (∀ W : World, (Instr.makeSlice 136 (.int .i64 (n : Int)) (.int .i64 (n : Int))).run Tryz.prog W = .ok (.slice (some ⟨W.heap.size, 0, none⟩) n n) (W.alloc (.cells M 4))) ∧
    ∀ (W : World) (base : Nat), base ≤ W.heap.size → OwnBl (W.alloc (.cells M 4)) base W.heap.size (List.replicate n false) := by
  obtain ⟨j0, hj, jz0, jz1, jz2⟩ := info_parts infoBool
  obtain ⟨M1, hM1⟩ : ∃ M, M = madeCells (Value.bool false).cells (((n : Nat) : Int).toNat * j0.size) := ⟨_, rfl⟩
  have E1 : M1.toList = List.replicate n (.bool false) := by rw [hM1, jz1, Nat.mul_one, show (Value.bool false).cells = #[Value.bool false] from rfl, toList_madeCells_one]; simp
  refine ⟨M1, fun W => ?_, fun W base hb => ?_⟩
  · have h := Go.run_make (P := Tryz.prog) W 136 4 j0 (.bool false) Tryz.underlying136 hj jz0 .i64 .i64 (n : Int) (n : Int) (by omega) (by omega) (by rw [jz2]; omega) (by omega)
    rw [← hM1] at h
    simpa using h
  · unfold OwnBl
    rw [List.length_replicate, List.map_replicate]
    refine ⟨by simp, Or.inr ⟨W.heap.size, n, M1, rfl, hb, heap_alloc_new W _, Nat.le_refl _, by simp only [maxLen]; omega, ?_, ?_⟩⟩
    · rw [← Array.length_toList, E1, List.length_replicate, Nat.mul_one]
    · rw [E1, List.take_of_length_le (by simp)]

theorem IsInts.sl {w : World} {v : Value} {zs : List Int} (h : IsInts w v zs) : ∃ a c, v = .slice a zs.length c ∧ zs.length ≤ c ∧ c ≤ 9223372036854775807 ∧ zs.length * 8 ≤ 140737488351232 := by
  obtain ⟨ao, cap, rfl, h1, h2, h3, h4, h5, h6⟩ := h
  exact ⟨ao, cap, rfl, h1, h2, h3⟩

theorem IsInts.get {w : World} {a : Option Addr} {n c : Nat} {zs : List Int} (h : IsInts w (.slice a n c) zs) {k : Nat} (hk : k < zs.length) : ∃ b off, a = some ⟨b, off, none⟩ ∧ ∀ i, i < zs.length → w.cell? ⟨b, off + i, none⟩ = some (.int .i64 (zs.getD i 0)) := by
  obtain ⟨ao, cap, e, h1, h2, h3, h4, h5, h6⟩ := h
  cases e
  obtain ⟨b, off, rfl, hc⟩ := h5 (by omega)
  exact ⟨b, off, rfl, hc⟩

theorem axesO_step {rank : Nat} {l : List Int} {k : Nat} {is : List Bool} (hk : k < l.length) : axesO rank (l.drop k) is = match axisO (l.getD k 0) rank with
    | none => none
    | some i => if is.getD i false = true then none else axesO rank (l.drop (k + 1)) (is.set i true) := by
  rw [drop_step l k hk]
  rfl

theorem axisO_lt {a : Int} {rank i : Nat} (h : axisO a rank = some i) : i < rank := by
  unfold axisO at h
  split at h
  · cases h
  · split at h
    · cases h
    · cases h
      omega

set_option maxRecDepth 100000 in
theorem axes_any (v : Value) (l : List Int) (rank : Nat) (w : World) (hv : IsInts w v l) (hr : rank ≤ 100000000000000) : Calls Tryz.prog 175 #[v, .int .i64 rank] w fun e w' => w.grownBy w' none ∧ match axesO rank l (List.replicate rank false) with
    | some is => ∃ B, e = .returned (.tuple #[.slice (some ⟨B, 0, none⟩) rank rank, .bool true]) ∧ OwnBl w' w.heap.size B is ∧ is.length = rank
    | none => e = .returned (.tuple #[.slice none 0 0, .bool false]) := by
  obtain ⟨M, mk1, OW⟩ := make_bools rank hr
  have O0 := hide (OW w w.heap.size (Nat.le_refl _))
  clear OW
  obtain ⟨r, hr0⟩ : ∃ r, r = axesO rank l (List.replicate rank false) := ⟨_, rfl⟩
  rw [← hr0]
  have HR0 := hide hr0
  obtain ⟨a, c, rfl, c1, c2, c3⟩ := hv.sl
  have HV := hide hv
  clear hv hr0
  go_enter Tryz.func175, Tryz.ntmps175
  go_wp2_with fail
  clear mk1
  go_loopw [15] (fun i wr => ∃ (k : Nat) (is : List Bool), k ≤ l.length ∧ i = .int .i64 k ∧ OwnBl wr w.heap.size w.heap.size is ∧ is.length = rank ∧ w.grownBy wr none ∧ axesO rank (l.drop k) is = r) (fun i _ => l.length - (intOf i).toNat)
  case atStart => exact ⟨0, List.replicate rank false, Nat.zero_le _, rfl, O0.out, by simp, grown_new _ _, HR0.out.symm⟩
  case round =>
    obtain ⟨k, is, hk, rfl, ho, hlen, hg, hs⟩ := hrel
    have HO := hide ho
    have HL := hide hlen
    have HG := hide hg
    have HS := hide hs
    clear ho hlen hg hs
    by_cases hkl : k < l.length
    · obtain ⟨b, off, rfl, hc⟩ := HV.out.get hkl
      have hz := HV.out.wf (l.getD k 0) (by simp [List.getD, hkl])
      have hcell := hc k hkl
      have hcell2 : wr.cell? ⟨b, off + k, none⟩ = some (.int .i64 (l.getD k 0)) := cell_still hcell HG.out
      have ST := axesO_step (rank := rank) (is := is) hkl
      rw [HS.out] at ST
      obtain ⟨z, hz0⟩ : ∃ z, z = l.getD k 0 := ⟨_, rfl⟩
      rw [← hz0] at hz hcell2 ST
      have AX := hide (axis_any z rank wr (by omega) hz.1)
      clear hc hcell hz0
      cases hx : axisO z rank with
      | none =>
        rw [hx] at AX ST
        simp only at ST
        clear hx
        subst ST
        go_wp2_with (go_at_call 181; refine AX.out.mono ?_; rintro e w' ⟨rfl, rfl⟩)
        go_ret2
        exact ⟨HG.out, rfl⟩
      | some i =>
        have hi := axisO_lt hx
        rw [hx] at AX ST
        simp only at ST
        clear hx
        have hget : is[i]? = some (is.getD i false) := by simp [List.getD, show i < is.length by rw [HL.out]; exact hi]
        obtain ⟨bb, hbb⟩ : ∃ bb, bb = is.getD i false := ⟨_, rfl⟩
        rw [← hbb] at hget ST
        obtain ⟨cb, fb⟩ := HO.out.at hget
        clear hbb
        cases bb with
        | true =>
          rw [if_pos rfl] at ST
          subst ST
          go_wp2_with (go_at_call 181; refine AX.out.mono ?_; rintro e w' ⟨rfl, rfl⟩)
          go_ret2
          exact ⟨HG.out, rfl⟩
        | false =>
          rw [if_neg (by decide)] at ST
          have HST := hide ST
          clear ST
          obtain ⟨so, sg⟩ := HO.out.set i true
          have SO := hide so
          have SG := hide (grown_trans_row HG.out sg (fun r e => by cases e; exact Nat.le_refl _))
          clear so sg
          go_wp2_with (go_at_call 181; refine AX.out.mono ?_; rintro e w' ⟨rfl, rfl⟩)
          go_roundw
          case rel => exact ⟨k + 1, is.set i true, by omega, by go_num, SO.out, by rw [List.length_set]; exact HL.out, SG.out, HST.out.symm⟩
          case measure => simp [intOf]; omega
    · have hkk : k = l.length := by omega
      subst hkk
      have E : r = some is := by
        rw [← HS.out, List.drop_length]
        rfl
      subst E
      clear hk hkl
      go_wp2
      go_ret2
      exact ⟨HG.out, _, rfl, HO.out, HL.out⟩
end Go.Proofs.YtdcbjikjeicgbaaGreatDoor

/- A node's attributes as infer reads them, by the walk (mkIA.py). -/
namespace Go.Proofs.YtdcbjikjeicgbaaGreatDoor
open Go.RowKit

/-- A node whose attributes are these. -/
structure NodeOk (w : World) (n : Nod) (A : At) : Prop where
  op : A.op = n.op
  attrs : IsAttrs w n.av.v A.xs
  has : ∀ (j : Nat) (a : Atr), A.xs[j]? = some a → ∃ c, A.cs[j]? = some c ∧ Has w a c
  rng : ∀ a ∈ A.xs, -9223372036854775808 ≤ a.i ∧ a.i ≤ 9223372036854775807

theorem NodeOk.more {w w' : World} {n : Nod} {A : At} (h : NodeOk w n A) (hg : w.grownBy w' none) : NodeOk w' n A :=
  ⟨h.op, h.attrs.more hg, fun j a e => by obtain ⟨c, e1, e2⟩ := h.has j a e; exact ⟨c, e1, e2.more hg⟩, h.rng⟩

theorem NodeOk.int {w : World} {n : Nod} {A : At} (h : NodeOk w n A) (nm : ByteArray) (z : Int) (hz : -9223372036854775808 ≤ z ∧ z ≤ 9223372036854775807) : -9223372036854775808 ≤ A.int nm z ∧ A.int nm z ≤ 9223372036854775807 := by
  unfold At.int intV
  cases hf : A.xs.find? (isA nm 2) with
  | none => exact hz
  | some a => exact h.rng a (List.mem_of_find?_eq_some hf)

theorem ownsL_ints {w : World} {base : Nat} {v : Value} {zs : List Int} {te : TypeId} (h : OwnsL te 1 icell w base v zs) (hl : zs.length * 8 ≤ 140737488351232) (hz : ∀ z ∈ zs, -9223372036854775808 ≤ z ∧ z ≤ 9223372036854775807) : IsInts w v zs := by
  obtain ⟨ao, cap, rfl, h1, h2, h3, h4, h5⟩ := OwnsL.isL (bytes := 8) icell_len h hl
  refine ⟨ao, cap, rfl, h1, h2, hl, h4, fun hp => ?_, hz⟩
  obtain ⟨b, off, rfl, hc⟩ := h5 hp
  refine ⟨b, off, rfl, fun k hk => ?_⟩
  have := (hc k hk 0 (by omega)).1
  rw [Nat.mul_one, Nat.add_zero] at this
  rw [this]
  simp [icell, List.getD, hk]

theorem nints_any (n : Nod) (A : At) (nm : ByteArray) (other : Sl) (zs : List Int) (w : World) (hn : NodeOk w n A) (ho : IsInts w other.v zs) :
    Calls Tryz.prog 101 #[nval n, .string nm, .slice other.a other.n other.c] w fun e w' => ∃ u : Sl, e = .returned u.v ∧ IsInts w' u.v (A.ints nm zs) ∧ w.grownBy w' none := by
  refine (sints_any n A.xs A.cs nm other zs w hn.attrs hn.has ho).mono ?_
  rintro e w' ⟨u, rfl, hu, hg⟩
  refine ⟨u, rfl, ?_, hg⟩
  have hb : ∃ v, IsInts w v (A.ints nm zs) := by
    unfold At.ints intsV
    rcases find_zip (P := isA nm 7) hn.has with ⟨e1, e2⟩ | ⟨a, c, e1, e2, e3⟩
    · rw [e2]; exact ⟨_, ho⟩
    · rw [e2]; exact ⟨_, e3.i⟩
  obtain ⟨v, hb⟩ := hb
  exact ownsL_ints hu hb.le hb.wf

theorem nint_any (n : Nod) (A : At) (nm : ByteArray) (z : Int) (w : World) (hn : NodeOk w n A) :
    Calls Tryz.prog 93 #[nval n, .string nm, .int .i64 z] w fun e w' => e = .returned (.int .i64 (A.int nm z)) ∧ w.grownBy w' none :=
  sint_any n A.xs A.cs nm z w hn.attrs hn.has

/-- A list of whole numbers of the call's own, of no greater room than it needs. -/
def OwnI (te : TypeId) (w : World) (base B : Nat) (zs : List Int) : Prop := w.ownsRow base te 1 (.slice (some ⟨B, 0, none⟩) zs.length zs.length) zs.length (zs.map (Value.int .i64))

theorem OwnI.at {te : TypeId} {w : World} {base B : Nat} {zs : List Int} (h : OwnI te w base B zs) {k : Nat} (hk : k < zs.length) : w.cell? ⟨B, k, none⟩ = some (.int .i64 (zs.getD k 0)) ∧ w.frozen? ⟨B, k, none⟩ = false := by
  refine ⟨?_, World.ownsRow.frozenAt h k⟩
  rw [World.ownsRow.cellAt h k (by omega), List.getElem?_map]
  simp [List.getD, hk]

theorem OwnI.set {te : TypeId} {w : World} {base B : Nat} {zs : List Int} (h : OwnI te w base B zs) (k : Nat) (x : Int) : OwnI te (w.setCell ⟨B, k, none⟩ (.int .i64 x)) base B (zs.set k x) ∧ w.grownBy (w.setCell ⟨B, k, none⟩ (.int .i64 x)) (some B) := by
  have s := World.ownsRow.stored h k (.int .i64 x)
  rw [← List.map_set] at s
  refine ⟨?_, s.2⟩
  unfold OwnI
  rw [List.length_set]
  exact s.1

theorem OwnI.new {te : TypeId} {w w' : World} {base B : Nat} {zs : List Int} (h : OwnI te w base B zs) (hg : w.grownBy w' none) : OwnI te w' base B zs := World.ownsRow.kept h hg (.inr (by simp [Value.ownBlock]))

theorem OwnI.ints {te : TypeId} {w : World} {base B : Nat} {zs : List Int} (h : OwnI te w base B zs) (hl : zs.length * 8 ≤ 140737488351232) (hz : ∀ z ∈ zs, -9223372036854775808 ≤ z ∧ z ≤ 9223372036854775807) : IsInts w (.slice (some ⟨B, 0, none⟩) zs.length zs.length) zs := by
  refine ⟨_, _, rfl, Nat.le_refl _, by omega, hl, (fun h => by cases h), fun _ => ⟨_, _, rfl, fun k hk => ?_⟩, hz⟩
  rw [Nat.zero_add]
  exact (h.at hk).1

theorem OwnI.base_le {te : TypeId} {w : World} {base b' B : Nat} {zs : List Int} (h : OwnI te w base B zs) (hb : b' ≤ base) : OwnI te w b' B zs := by
  refine ⟨h.1, ?_⟩
  rcases h.2 with h0 | ⟨g, cap, cur, e, hg, r⟩
  · exact .inl h0
  · exact .inr ⟨g, cap, cur, e, by omega, r⟩

theorem make_ints (n : Nat) (hn : n * 8 ≤ 140737488351232) : ∃ M : Array Value, (∀ W : World, (Instr.makeSlice 53 (.int .i64 (n : Int)) (.int .i64 (n : Int))).run Tryz.prog W = .ok (.slice (some ⟨W.heap.size, 0, none⟩) n n) (W.alloc (.cells M 2))) ∧
    ∀ (W : World) (base : Nat), base ≤ W.heap.size → OwnI 2 (W.alloc (.cells M 2)) base W.heap.size (List.replicate n 0) := by
  obtain ⟨j0, hj, jz0, jz1, jz2⟩ := info_parts infoI64
  obtain ⟨M1, hM1⟩ : ∃ M, M = madeCells (Value.int .i64 0).cells (((n : Nat) : Int).toNat * j0.size) := ⟨_, rfl⟩
  have E1 : M1.toList = List.replicate n (.int .i64 0) := by rw [hM1, jz1, Nat.mul_one, show (Value.int .i64 0).cells = #[Value.int .i64 0] from rfl, toList_madeCells_one]; simp
  refine ⟨M1, fun W => ?_, fun W base hb => ?_⟩
  · have h := Go.run_make (P := Tryz.prog) W 53 2 j0 (.int .i64 0) Tryz.underlying53 hj jz0 .i64 .i64 (n : Int) (n : Int) (by omega) (by omega) (by rw [jz2]; omega) (by omega)
    rw [← hM1] at h
    simpa using h
  · unfold OwnI
    rw [List.length_replicate, List.map_replicate]
    refine ⟨by simp, Or.inr ⟨W.heap.size, n, M1, rfl, hb, heap_alloc_new W _, Nat.le_refl _, by simp only [maxLen]; omega, ?_, ?_⟩⟩
    · rw [← Array.length_toList, E1, List.length_replicate, Nat.mul_one]
    · rw [E1, List.take_of_length_le (by simp)]

theorem upToP_len (n : Nat) : (upToP n).length = n := by simp [upToP]

theorem upToP_mem {n : Nat} {z : Int} (h : z ∈ upToP n) : 0 ≤ z ∧ z < n := by
  unfold upToP at h
  obtain ⟨i, hi, rfl⟩ := List.mem_map.1 h
  have := List.mem_range.1 hi
  simp only [Int.ofNat_eq_natCast]
  omega

/-- The numbers up to k, and noughts behind them. -/
def upK (n k : Nat) : List Int := upToP k ++ List.replicate (n - k) 0

theorem upK_set {n k : Nat} (hk : k < n) : (upK n k).set k (k : Int) = upK n (k + 1) := by
  unfold upK
  rw [List.set_append_right _ _ (by rw [upToP_len]; omega), upToP_len, Nat.sub_self, show n - k = (n - (k + 1)) + 1 by omega, List.replicate_succ, List.set_cons_zero]
  unfold upToP
  rw [List.range_succ, List.map_append]
  simp

theorem upK_len {n k : Nat} (hk : k ≤ n) : (upK n k).length = n := by
  unfold upK
  rw [List.length_append, upToP_len, List.length_replicate]
  omega

set_option maxRecDepth 100000 in
theorem upto_any (n : Nat) (w : World) (hn : n * 8 ≤ 140737488351232) : Calls Tryz.prog 176 #[.int .i64 n] w fun e w' => e = .returned (.slice (some ⟨w.heap.size, 0, none⟩) n n) ∧ OwnI 2 w' w.heap.size w.heap.size (upToP n) ∧ w.grownBy w' none := by
  obtain ⟨M, mk1, OW⟩ := make_ints n hn
  have O0 := hide (OW w w.heap.size (Nat.le_refl _))
  clear OW
  go_enter Tryz.func176, Tryz.ntmps176
  go_wp2_with fail
  clear mk1
  go_loopw [9] (fun i wr => ∃ k : Nat, k ≤ n ∧ i = .int .i64 k ∧ OwnI 2 wr w.heap.size w.heap.size (upK n k) ∧ w.grownBy wr none) (fun i _ => n - (intOf i).toNat)
  case atStart => exact ⟨0, Nat.zero_le _, rfl, O0.out, grown_new _ _⟩
  case round =>
    obtain ⟨k, hk, rfl, ho, hg⟩ := hrel
    have HO := hide ho
    have HG := hide hg
    by_cases hkl : k < n
    · obtain ⟨c1, c2⟩ := ho.at (k := k) (by rw [upK_len hk]; exact hkl)
      obtain ⟨so, sg⟩ := ho.set k (k : Int)
      rw [upK_set hkl] at so
      have SO := hide so
      have SG := hide (grown_trans_row hg sg (fun r e => by cases e; exact Nat.le_refl _))
      clear so sg ho hg
      go_wp2
      go_roundw
      case rel => exact ⟨k + 1, by omega, by go_num, SO.out, SG.out⟩
      case measure => simp [intOf]; omega
    · have hkk : k = n := by omega
      subst hkk
      have E : upK k k = upToP k := by simp [upK]
      rw [E] at HO
      clear ho hg hk hkl
      go_wp2
      go_ret
      exact ⟨rfl, HO.out, HG.out⟩

set_option maxRecDepth 100000 in
theorem strides_any (n : Nod) (A : At) (w : World) (hn : NodeOk w n A) : Calls Tryz.prog 208 #[nval n] w fun e w' => ∃ u : Sl, e = .returned u.v ∧ IsInts w' u.v (A.ints ⟨#[115, 116, 114, 105, 100, 101, 115]⟩ [1, 1]) ∧ w.grownBy w' none := by
  have NK := hide hn
  obtain ⟨op, nam, ⟨ia, il, ic⟩, out, ⟨ao, al, cap⟩⟩ := n
  unfold nval
  simp only
  obtain ⟨w0, hw0⟩ : ∃ w0, w0 = w.alloc (.cells #[.string op, .string nam, .slice ia il ic, .string out, .slice ao al cap] 25) := ⟨_, rfl⟩
  have g0 : Hid (w.grownBy w0 none) := by show w.grownBy w0 none; rw [hw0]; exact grown_new _ _
  have hb0 := heap_alloc_new w (.cells #[.string op, .string nam, .slice ia il ic, .string out, .slice ao al cap] 25)
  rw [← hw0] at hb0
  have BX : Hid (∀ wx, w0.grownBy wx none → wx.heap[w.heap.size]? = some (.cells #[.string op, .string nam, .slice ia il ic, .string out, .slice ao al cap] 25 (0, 0))) := fun wx hg => box_kept hb0 hg
  clear hb0 hn
  obtain ⟨n0, n1, n2, n3, n4⟩ := nod_cells (n := ⟨op, nam, ⟨ia, il, ic⟩, out, ⟨ao, al, cap⟩⟩) (BX.out w0 (grown_refl _))
  obtain ⟨w1, hw1⟩ : ∃ w1, w1 = w0.alloc (.cells #[.int .i64 1, .int .i64 1] 2) := ⟨_, rfl⟩
  have g1 : Hid (w.grownBy w1 none) := by show w.grownBy w1 none; rw [hw1]; exact grown_trans g0.out (grown_new _ _)
  have C := hide (nints_any ⟨op, nam, ⟨ia, il, ic⟩, out, ⟨ao, al, cap⟩⟩ A ⟨#[115, 116, 114, 105, 100, 101, 115]⟩ ⟨some ⟨w0.heap.size, 0, none⟩, 2, 2⟩ [1, 1] w1 (NK.out.more g1.out) (by rw [hw1]; exact ints_new w0 [1, 1] 2 (by decide) (by decide)))
  unfold nval at C
  simp only at C
  rw [show w0.heap.size = w.heap.size + 1 by rw [hw0]; simp] at C
  clear n0 n1 n2 n3 n4
  go_enter Tryz.func208, Tryz.ntmps208
  go_wp2_with fail
  rw [← hw0, ← hw1]
  refine C.out.mono ?_
  rintro e w' ⟨u, rfl, hu, hg⟩
  go_wp2
  go_ret
  exact ⟨u, rfl, hu, grown_trans g1.out hg⟩

set_option maxRecDepth 100000 in
theorem dilations_any (n : Nod) (A : At) (w : World) (hn : NodeOk w n A) : Calls Tryz.prog 209 #[nval n] w fun e w' => ∃ u : Sl, e = .returned u.v ∧ IsInts w' u.v (A.ints ⟨#[100, 105, 108, 97, 116, 105, 111, 110, 115]⟩ [1, 1]) ∧ w.grownBy w' none := by
  have NK := hide hn
  obtain ⟨op, nam, ⟨ia, il, ic⟩, out, ⟨ao, al, cap⟩⟩ := n
  unfold nval
  simp only
  obtain ⟨w0, hw0⟩ : ∃ w0, w0 = w.alloc (.cells #[.string op, .string nam, .slice ia il ic, .string out, .slice ao al cap] 25) := ⟨_, rfl⟩
  have g0 : Hid (w.grownBy w0 none) := by show w.grownBy w0 none; rw [hw0]; exact grown_new _ _
  have hb0 := heap_alloc_new w (.cells #[.string op, .string nam, .slice ia il ic, .string out, .slice ao al cap] 25)
  rw [← hw0] at hb0
  have BX : Hid (∀ wx, w0.grownBy wx none → wx.heap[w.heap.size]? = some (.cells #[.string op, .string nam, .slice ia il ic, .string out, .slice ao al cap] 25 (0, 0))) := fun wx hg => box_kept hb0 hg
  clear hb0 hn
  obtain ⟨n0, n1, n2, n3, n4⟩ := nod_cells (n := ⟨op, nam, ⟨ia, il, ic⟩, out, ⟨ao, al, cap⟩⟩) (BX.out w0 (grown_refl _))
  obtain ⟨w1, hw1⟩ : ∃ w1, w1 = w0.alloc (.cells #[.int .i64 1, .int .i64 1] 2) := ⟨_, rfl⟩
  have g1 : Hid (w.grownBy w1 none) := by show w.grownBy w1 none; rw [hw1]; exact grown_trans g0.out (grown_new _ _)
  have C := hide (nints_any ⟨op, nam, ⟨ia, il, ic⟩, out, ⟨ao, al, cap⟩⟩ A ⟨#[100, 105, 108, 97, 116, 105, 111, 110, 115]⟩ ⟨some ⟨w0.heap.size, 0, none⟩, 2, 2⟩ [1, 1] w1 (NK.out.more g1.out) (by rw [hw1]; exact ints_new w0 [1, 1] 2 (by decide) (by decide)))
  unfold nval at C
  simp only at C
  rw [show w0.heap.size = w.heap.size + 1 by rw [hw0]; simp] at C
  clear n0 n1 n2 n3 n4
  go_enter Tryz.func209, Tryz.ntmps209
  go_wp2_with fail
  rw [← hw0, ← hw1]
  refine C.out.mono ?_
  rintro e w' ⟨u, rfl, hu, hg⟩
  go_wp2
  go_ret
  exact ⟨u, rfl, hu, grown_trans g1.out hg⟩

set_option maxRecDepth 100000 in
theorem pads_any (n : Nod) (A : At) (w : World) (hn : NodeOk w n A) : Calls Tryz.prog 210 #[nval n] w fun e w' => ∃ u : Sl, e = .returned u.v ∧ IsInts w' u.v (A.ints ⟨#[112, 97, 100, 115]⟩ [0, 0, 0, 0]) ∧ w.grownBy w' none := by
  have NK := hide hn
  obtain ⟨op, nam, ⟨ia, il, ic⟩, out, ⟨ao, al, cap⟩⟩ := n
  unfold nval
  simp only
  obtain ⟨w0, hw0⟩ : ∃ w0, w0 = w.alloc (.cells #[.string op, .string nam, .slice ia il ic, .string out, .slice ao al cap] 25) := ⟨_, rfl⟩
  have g0 : Hid (w.grownBy w0 none) := by show w.grownBy w0 none; rw [hw0]; exact grown_new _ _
  have hb0 := heap_alloc_new w (.cells #[.string op, .string nam, .slice ia il ic, .string out, .slice ao al cap] 25)
  rw [← hw0] at hb0
  have BX : Hid (∀ wx, w0.grownBy wx none → wx.heap[w.heap.size]? = some (.cells #[.string op, .string nam, .slice ia il ic, .string out, .slice ao al cap] 25 (0, 0))) := fun wx hg => box_kept hb0 hg
  clear hb0 hn
  obtain ⟨n0, n1, n2, n3, n4⟩ := nod_cells (n := ⟨op, nam, ⟨ia, il, ic⟩, out, ⟨ao, al, cap⟩⟩) (BX.out w0 (grown_refl _))
  obtain ⟨M, mk0, OW⟩ := make_ints 4 (by decide)
  have mk1 : ∀ W : World, (Instr.makeSlice 53 (.int .i64 4) (.int .i64 4)).run Tryz.prog W = .ok (.slice (some ⟨W.heap.size, 0, none⟩) 4 4) (W.alloc (.cells M 2)) := mk0
  clear mk0
  have C := hide (fun (wx : World) (B : Nat) (hg : w.grownBy wx none) (hB : IsInts wx (.slice (some ⟨B, 0, none⟩) 4 4) [0, 0, 0, 0]) => nints_any ⟨op, nam, ⟨ia, il, ic⟩, out, ⟨ao, al, cap⟩⟩ A ⟨#[112, 97, 100, 115]⟩ ⟨some ⟨B, 0, none⟩, 4, 4⟩ [0, 0, 0, 0] wx (NK.out.more hg) hB)
  unfold nval at C
  simp only at C
  have OI : Hid (∀ W : World, IsInts (W.alloc (.cells M 2)) (.slice (some ⟨W.heap.size, 0, none⟩) 4 4) [0, 0, 0, 0]) := fun W => (OW W 0 (Nat.zero_le _)).ints (by decide) (by decide)
  clear OW
  go_enter Tryz.func210, Tryz.ntmps210
  go_wp2_with fail
  rw [← hw0]
  clear hw0
  go_region_held3 (fun w' => w'.cell? ⟨w.heap.size, 0, none⟩ = some (.string op) ∧ w'.cell? ⟨w.heap.size, 1, none⟩ = some (.string nam) ∧ w'.cell? ⟨w.heap.size, 2, none⟩ = some (.slice ia il ic) ∧ w'.cell? ⟨w.heap.size, 3, none⟩ = some (.string out) ∧ w'.cell? ⟨w.heap.size, 4, none⟩ = some (.slice ao al cap)) (go_keep) (first | (go_at_call 101; refine (C.out _ _ (grown_drew (grown_trans g0.out (grown_new _ _))) ((OI.out w0).more (grown_drew (grown_refl _)))).mono ?_; rintro e w' ⟨u, rfl, hu, hg⟩; have g2 : w0.grownBy w' none := grown_trans (grown_drew (grown_new _ _)) hg; obtain ⟨n0, n1, n2, n3, n4⟩ := nod_cells (n := ⟨op, nam, ⟨ia, il, ic⟩, out, ⟨ao, al, cap⟩⟩) (BX.out w' (g2))) | fail)
  go_wp2
  go_ret
  exact ⟨u, rfl, hu, grown_trans g0.out g2⟩

theorem within_bad {l : List Int} {k : Nat} {least z : Int} (hk : k < l.length) (hz : z = l.getD k 0) (h : ¬ (least ≤ z ∧ z ≤ 100)) : l.all (fun x => decide (least ≤ x ∧ x ≤ 100)) = false := by
  rw [List.all_eq_false]
  refine ⟨z, ?_, by simpa using h⟩
  rw [hz]
  simp [List.getD, hk]

theorem within_good {l : List Int} {least : Int} (h : ∀ t, t < l.length → least ≤ l.getD t 0 ∧ l.getD t 0 ≤ 100) : l.all (fun x => decide (least ≤ x ∧ x ≤ 100)) = true := by
  rw [List.all_eq_true]
  intro z hz
  obtain ⟨t, ht, rfl⟩ := List.mem_iff_getElem.1 hz
  have := h t ht
  simpa [List.getD, ht] using this

theorem withinP_ok {l zs : List Int} {many : Nat} {least : Int} (h : withinP l many least = .ok zs) : zs = l ∧ zs.length = many ∧ ∀ z ∈ zs, least ≤ z ∧ z ≤ 100 := by
  unfold withinP mustP at h
  by_cases h1 : l.length = many
  · by_cases h2 : l.all (fun x => decide (least ≤ x ∧ x ≤ 100)) = true
    · rw [if_pos (by simpa using h1), if_pos h2] at h
      have e : l = zs := by simpa [bind, Except.bind, pure, Except.pure] using h
      subst e
      exact ⟨rfl, h1, fun z hz => by simpa using List.all_eq_true.1 h2 z hz⟩
    · rw [if_pos (by simpa using h1), if_neg h2] at h
      simp [bind, Except.bind] at h
  · rw [if_neg (by simpa using h1)] at h
    simp [bind, Except.bind] at h

set_option maxRecDepth 100000 in
theorem within_any (u : Sl) (l : List Int) (many : Nat) (least : Int) (w : World) (hv : IsInts w u.v l) (_hm : many ≤ 1000) : Calls Tryz.prog 186 #[.slice u.a u.n u.c, .int .i64 many, .int .i64 least] w (Ended w (withinP l many least) fun zs v w' => v = u.v ∧ zs = l ∧ w = w') := by
  obtain ⟨a, c, e, c1, c2, c3⟩ := hv.sl
  obtain ⟨ua, un, uc⟩ := u
  simp only [Sl.v, Value.slice.injEq] at e
  obtain ⟨rfl, rfl, rfl⟩ := e
  have HV := hide hv
  clear hv
  by_cases hl : l.length = many
  · have b0 : ((l.length : Int) == (many : Int)) = true := by simp [hl]
    have E : Hid (withinP l many least = (do mustP (l.all (fun x => decide (least ≤ x ∧ x ≤ 100))); return l)) := by show withinP l many least = _; unfold withinP mustP; simp [hl]; rfl
    clear hl
    go_enter Tryz.func186, Tryz.ntmps186
    go_wp2_with (go_at_call 45; refine (must_yes _).mono ?_; rintro e w' ⟨rfl, rfl⟩)
    go_loopw [16] (fun i wr => w = wr ∧ ∃ k : Nat, k ≤ l.length ∧ i = .int .i64 k ∧ ∀ t, t < k → least ≤ l.getD t 0 ∧ l.getD t 0 ≤ 100) (fun i _ => l.length - (intOf i).toNat)
    case atStart => exact ⟨rfl, 0, Nat.zero_le _, rfl, fun t h => absurd h (by omega)⟩
    case round =>
      obtain ⟨hw, k, hk, rfl, hp⟩ := hrel
      subst hw
      have HP := hide hp
      clear hp b0
      by_cases hkl : k < l.length
      · obtain ⟨b, off, rfl, hc⟩ := HV.out.get hkl
        have hcell := hc k hkl
        obtain ⟨z, hz0⟩ : ∃ z, z = l.getD k 0 := ⟨_, rfl⟩
        rw [← hz0] at hcell
        have HZ := hide hz0
        clear hc hz0
        by_cases h1 : least ≤ z
        · by_cases h2 : z ≤ 100
          · go_wp2_with (go_at_call 45; refine (must_yes _).mono ?_; rintro e w' ⟨rfl, rfl⟩)
            go_roundw
            case rel =>
              refine ⟨by trivial, k + 1, by omega, by go_num, fun t ht => ?_⟩
              rcases lt_succ_cases ht with h | rfl
              · exact HP.out t h
              · rw [← HZ.out]; exact ⟨h1, h2⟩
            case measure => simp [intOf]; omega
          · have E2 : Hid (withinP l many least = .error 4) := by show withinP l many least = _; rw [E.out, within_bad hkl HZ.out (fun h => h2 h.2)]; rfl
            go_wp2_with (go_at_call 45; refine (must_no _).mono ?_; rintro e w' ⟨rfl, rfl⟩)
            exact ⟨rfl, ended_err E2.out (grown_refl _)⟩
        · have E2 : Hid (withinP l many least = .error 4) := by show withinP l many least = _; rw [E.out, within_bad hkl HZ.out (fun h => h1 h.1)]; rfl
          go_wp2_with (go_at_call 45; refine (must_no _).mono ?_; rintro e w' ⟨rfl, rfl⟩)
          exact ⟨rfl, ended_err E2.out (grown_refl _)⟩
      · have E2 : Hid (withinP l many least = .ok l) := by show withinP l many least = _; rw [E.out, within_good (fun t ht => HP.out t (by omega))]; rfl
        go_wp2
        go_ret
        exact ended_ok E2.out (grown_refl _) ⟨rfl, rfl, rfl⟩
  · have b0 : ((l.length : Int) == (many : Int)) = false := by simpa using (fun h => hl (by omega) : ¬ (l.length : Int) = many)
    have E : Hid (withinP l many least = .error 4) := by show withinP l many least = _; unfold withinP mustP; simp [hl]; rfl
    rw [E.out]
    clear hl E
    go_enter Tryz.func186, Tryz.ntmps186
    go_wp2_with (go_at_call 45; refine (must_no _).mono ?_; rintro e w' ⟨rfl, rfl⟩)
    exact ⟨rfl, grown_refl _, rfl⟩

set_option maxRecDepth 100000 in
theorem padsof_any (n : Nod) (A : At) (w : World) (hn : NodeOk w n A) : Calls Tryz.prog 187 #[nval n] w (Ended w (padsP A) fun zs v w' => ∃ u : Sl, v = u.v ∧ IsInts w' u.v zs ∧ zs.length = 4 ∧ ∀ z ∈ zs, 0 ≤ z ∧ z ≤ 100) := by
  have NK := hide hn
  obtain ⟨op, nam, ⟨ia, il, ic⟩, out, ⟨ao, al, cap⟩⟩ := n
  unfold nval
  simp only
  obtain ⟨w0, hw0⟩ : ∃ w0, w0 = w.alloc (.cells #[.string op, .string nam, .slice ia il ic, .string out, .slice ao al cap] 25) := ⟨_, rfl⟩
  have g0 : Hid (w.grownBy w0 none) := by show w.grownBy w0 none; rw [hw0]; exact grown_new _ _
  have hb0 := heap_alloc_new w (.cells #[.string op, .string nam, .slice ia il ic, .string out, .slice ao al cap] 25)
  rw [← hw0] at hb0
  have BX : Hid (∀ wx, w0.grownBy wx none → wx.heap[w.heap.size]? = some (.cells #[.string op, .string nam, .slice ia il ic, .string out, .slice ao al cap] 25 (0, 0))) := fun wx hg => box_kept hb0 hg
  clear hb0 hn
  have C := hide (pads_any ⟨op, nam, ⟨ia, il, ic⟩, out, ⟨ao, al, cap⟩⟩ A w0 (NK.out.more g0.out))
  unfold nval at C
  simp only at C
  go_enter Tryz.func187, Tryz.ntmps187
  go_wp2_with fail
  rw [← hw0]
  clear hw0
  refine C.out.mono ?_
  rintro e w1 ⟨u, rfl, hu, hg⟩
  have W := hide (within_any u _ 4 0 w1 hu (by decide))
  have HU := hide hu
  have HG := hide (grown_trans g0.out hg)
  clear hu hg
  cases hr : withinP (A.ints ⟨#[112, 97, 100, 115]⟩ [0, 0, 0, 0]) 4 0 with
  | error c =>
    rw [hr] at W
    have E : Hid (padsP A = .error c) := hr
    clear hr
    go_wp2_with (go_at_call 186; refine W.out.mono ?_; rintro e w' ⟨hg, rfl⟩)
    exact ⟨rfl, ended_err E.out (grown_trans HG.out hg)⟩
  | ok zs =>
    rw [hr] at W
    have E : Hid (padsP A = .ok zs) := hr
    have B := hide (withinP_ok hr)
    clear hr
    go_wp2_with (go_at_call 186; refine W.out.mono ?_; rintro e w' ⟨hg, v, rfl, rfl, rfl, rfl⟩)
    go_ret
    exact ended_ok E.out HG.out ⟨u, rfl, HU.out, B.out.2.1, fun z hz => B.out.2.2 z hz⟩
end Go.Proofs.YtdcbjikjeicgbaaGreatDoor

/- Lists that infer makes: wholes, an order turned round, axes along which, by the walk. -/
namespace Go.Proofs.YtdcbjikjeicgbaaGreatDoor
open Go.RowKit

theorem wholeP_le (x : Int) : -1073741824 ≤ wholeP x ∧ wholeP x ≤ 1073741824 := by
  unfold wholeP
  split <;> split at * <;> omega

/-- append(s, z): one number more behind a list of the call's own. -/
theorem wpList_push {w0 : World} {ops : Array Oper} {rest : List Oper} {o : Oper} {a : Act} {Q : Exit → Act → World → Prop} (hgd : o.guard = none) (s x : Operand)
    (ho : o.op = .call { callee := .builtin .append, args := #[s, x], argTypes := #[29, 29] })
    (base : Nat) (v : Value) (xs : List Int) (hs : a.eval s = v) (hown : Owns w0 base v xs) (z : Int) (hx : a.eval x = .slice (some ⟨w0.heap.size, 0, none⟩) 1 1)
    (hz : -9223372036854775808 ≤ z ∧ z ≤ 9223372036854775807) (hbytes : (xs.length + 1) * 8 ≤ 140737488351232) (hbase : base ≤ w0.heap.size)
    (h : ∀ v' w', Owns w' base v' (xs ++ [z]) → (∀ r : World, r.heap.size ≤ base → r.grownBy w0 none → r.grownBy w' none) → wpList Tryz.prog ops Q rest (a.put o.dst v') w') : wpList Tryz.prog ops Q (o :: rest) a (w0.alloc (.cells #[.int .i64 z] 3)) := by
  have hi : IsInts (w0.alloc (.cells #[.int .i64 z] 3)) (.slice (some ⟨w0.heap.size, 0, none⟩) 1 1) [z] := ints_new w0 [z] 3 (by simp) (fun y hy => by simp at hy; subst hy; exact hz)
  refine wpList_app hgd s x ho base v xs hs (hown.new (grown_new _ _)) _ [z] hx hi (by simpa using hbytes) (by simp; omega) ?_
  intro v' w' ho' hg
  refine h v' w' ho' (fun r hr hrg => grown_trans_row (grown_trans hrg (grown_new _ _)) hg (fun b e => ?_))
  have := (hown.lt b e).1
  omega

set_option maxRecDepth 100000 in
theorem wholes_any (v : Value) (l : List Int) (w : World) (hv : IsInts w v l) : Calls Tryz.prog 102 #[v] w fun e w' => ∃ u : Sl, e = .returned u.v ∧ IsInts w' u.v (l.map wholeP) ∧ w.grownBy w' none := by
  obtain ⟨a, c, rfl, c1, c2, c3⟩ := hv.sl
  have HV := hide hv
  clear hv
  go_enter Tryz.func102, Tryz.ntmps102
  go_wp2
  go_loopw [3, 8] (fun s i wr => ∃ (k : Nat) (u : Sl), k ≤ l.length ∧ i = .int .i64 k ∧ s = .slice u.a u.n u.c ∧ Owns wr w.heap.size u.v ((l.take k).map wholeP) ∧ w.grownBy wr none) (fun _ i _ => l.length - (intOf i).toNat)
  case atStart => exact ⟨0, ⟨none, 0, 0⟩, Nat.zero_le _, rfl, rfl, owns_nil _ _, grown_refl _⟩
  case round =>
    obtain ⟨k, ⟨ua, un, uc⟩, hk, rfl, rfl, ho, hg⟩ := hrel
    simp only
    have HO := hide ho
    have HG := hide hg
    have hsz := hg.size
    by_cases hkl : k < l.length
    · obtain ⟨b, off, rfl, hc⟩ := HV.out.get hkl
      have hcell : wr.cell? ⟨b, off + k, none⟩ = some (.int .i64 (l.getD k 0)) := cell_still (hc k hkl) hg
      have E : Hid ((l.take (k + 1)).map wholeP = (l.take k).map wholeP ++ [wholeP (l.getD k 0)]) := by show _ = _; rw [take_step l k hkl, List.map_append]; rfl
      obtain ⟨z, hz0⟩ : ∃ z, z = l.getD k 0 := ⟨_, rfl⟩
      rw [← hz0] at hcell E
      clear hc hz0 ho hg
      have WH := hide (whole_any z wr)
      have hb := wholeP_le z
      obtain ⟨y, hy⟩ : ∃ y, y = wholeP z := ⟨_, rfl⟩
      rw [← hy] at WH hb E
      clear hy
      go_wp2_with (first | (go_at_call 92; refine WH.out.mono ?_; rintro e w' ⟨rfl, rfl⟩) | (at_builtin; refine wpList_push rfl (.tmp 12) (.tmp 15) rfl w.heap.size _ _ rfl HO.out y rfl (by omega) (by simp; omega) (by omega) ?_; intro v' w1 hown hgrow))
      obtain ⟨⟨xa, xn, xc⟩, rfl⟩ := hown.sl
      have HO1 := hide hown
      have HG1 := hide (hgrow w (Nat.le_refl _) HG.out)
      clear hown hgrow
      go_roundw
      case rel => exact ⟨k + 1, ⟨xa, xn, xc⟩, by omega, by go_num, rfl, by rw [E.out]; exact HO1.out, HG1.out⟩
      case measure => simp [intOf]; omega
    · have E : Hid ((l.take k).map wholeP = l.map wholeP) := by show _ = _; rw [List.take_of_length_le (by omega)]
      rw [E.out] at HO
      clear ho hg
      go_wp2
      go_ret
      exact ⟨⟨ua, un, uc⟩, rfl, HO.out.ints, HG.out⟩

/-- A list of which k numbers at either end are turned round. -/
structure RevK (zs : List Int) (k : Nat) (L : List Int) : Prop where
  len : L.length = zs.length
  at' : ∀ t, t < zs.length → L.getD t 0 = if t < k ∨ zs.length ≤ t + k then zs.getD (zs.length - 1 - t) 0 else zs.getD t 0

theorem RevK.start (zs : List Int) : RevK zs 0 zs := ⟨rfl, fun t ht => by rw [if_neg (by omega)]⟩

theorem RevK.done {zs L : List Int} {k : Nat} (h : RevK zs k L) (hk : zs.length ≤ 2 * k + 1) : L = zs.reverse := by
  refine List.ext_getElem (by rw [h.len, List.length_reverse]) fun t h1 h2 => ?_
  have ht : t < zs.length := by rw [← h.len]; exact h1
  have := h.at' t ht
  rw [List.getElem_reverse]
  have e1 : L.getD t 0 = L[t] := by simp [List.getD, h1]
  rw [← e1, this]
  split
  · simp [List.getD, show zs.length - 1 - t < zs.length by omega]
  · have e2 : zs.length - 1 - t = t := by omega
    simp [List.getD, e2, ht]

theorem RevK.step {zs L : List Int} {k : Nat} (h : RevK zs k L) (hk : 2 * k + 1 < zs.length) : RevK zs (k + 1) ((L.set k (L.getD (zs.length - 1 - k) 0)).set (zs.length - 1 - k) (L.getD k 0)) := by
  refine ⟨by rw [List.length_set, List.length_set, h.len], fun t ht => ?_⟩
  have hL := h.len
  have h1 := h.at' t ht
  have h2 := h.at' k (by omega)
  have h3 := h.at' (zs.length - 1 - k) (by omega)
  rw [if_neg (by omega)] at h2 h3
  by_cases e1 : t = zs.length - 1 - k
  · subst e1
    rw [if_pos (by omega)]
    have : ((L.set k (L.getD (zs.length - 1 - k) 0)).set (zs.length - 1 - k) (L.getD k 0)).getD (zs.length - 1 - k) 0 = L.getD k 0 := by
      rw [List.getD, List.getElem?_set_self (by rw [List.length_set]; omega)]; rfl
    rw [this, h2]
    congr 1
    omega
  · by_cases e2 : t = k
    · subst e2
      rw [if_pos (by omega)]
      have : ((L.set t (L.getD (zs.length - 1 - t) 0)).set (zs.length - 1 - t) (L.getD t 0)).getD t 0 = L.getD (zs.length - 1 - t) 0 := by
        rw [List.getD, List.getElem?_set_ne (by omega), List.getElem?_set_self (by omega)]; rfl
      rw [this, h3]
    · have : ((L.set k (L.getD (zs.length - 1 - k) 0)).set (zs.length - 1 - k) (L.getD k 0)).getD t 0 = L.getD t 0 := by
        rw [List.getD, List.getElem?_set_ne (by omega), List.getElem?_set_ne (by omega)]; rfl
      rw [this, h1]
      by_cases e3 : t < k ∨ zs.length ≤ t + k
      · rw [if_pos e3, if_pos (by omega)]
      · rw [if_neg e3, if_neg (by omega)]

set_option maxRecDepth 100000 in
theorem reverse_any (zs : List Int) (base B : Nat) (w : World) (h : OwnI 2 w base B zs) (hl : zs.length ≤ 1000000) : Calls Tryz.prog 207 #[.slice (some ⟨B, 0, none⟩) zs.length zs.length] w fun e w' => e = .returned (.tuple #[]) ∧ OwnI 2 w' base B zs.reverse ∧ w.grownBy w' (some B) := by
  have H0 := hide h
  clear h
  go_enter Tryz.func207, Tryz.ntmps207
  go_wp2
  go_loopw [2, 3] (fun i j wr => ∃ (k : Nat) (L : List Int), k ≤ zs.length ∧ i = .int .i64 k ∧ j = .int .i64 ((zs.length : Int) - 1 - k) ∧ RevK zs k L ∧ OwnI 2 wr base B L ∧ w.grownBy wr (some B)) (fun i _ _ => zs.length - (intOf i).toNat)
  case atStart => exact ⟨0, zs, Nat.zero_le _, rfl, by simp, RevK.start zs, H0.out, World.grownBy.refl _ _⟩
  case round =>
    obtain ⟨k, L, hk, rfl, rfl, hr, ho, hg⟩ := hrel
    have HR := hide hr
    have HO := hide ho
    have HG := hide hg
    clear hr ho hg
    by_cases hkl : (k : Int) < (zs.length : Int) - 1 - k
    · obtain ⟨j, hj⟩ : ∃ j : Nat, j = zs.length - 1 - k := ⟨_, rfl⟩
      have ej : (zs.length : Int) - 1 - k = (j : Int) := by omega
      rw [ej] at hkl ⊢
      have hjl : j < zs.length := by omega
      have hne : k ≠ j := by omega
      have st := HR.out.step (by omega)
      rw [← hj] at st
      have hL := HR.out.len
      obtain ⟨c1, f1⟩ := HO.out.at (k := k) (by omega)
      obtain ⟨c2, f2⟩ := HO.out.at (k := j) (by omega)
      obtain ⟨x, hx⟩ : ∃ x, x = L.getD k 0 := ⟨_, rfl⟩
      obtain ⟨y, hy⟩ : ∃ y, y = L.getD j 0 := ⟨_, rfl⟩
      rw [← hx] at c1 st
      rw [← hy] at c2 st
      obtain ⟨s1, t1⟩ := HO.out.set k y
      obtain ⟨s2, t2⟩ := s1.set j x
      have ST := hide st
      have S2 := hide s2
      have T2 := hide (grown_trans_same HG.out (grown_trans_same t1 t2))
      have hej : Hid (j = zs.length - 1 - k) := hj
      clear hx hy st s1 s2 t1 t2 hj hL
      have hne2 := hne.symm
      go_wp2
      go_region
      go_wp2
      go_roundw
      case rel => exact ⟨k + 1, _, by omega, by go_num, by have := hej.out; congr 1; omega, ST.out, S2.out.new (grown_drew (grown_refl _)), ⟨T2.out.os, T2.out.tape, T2.out.output, T2.out.size, T2.out.block⟩⟩
      case measure => simp [intOf]; omega
    · have E : L = zs.reverse := HR.out.done (by omega)
      rw [E] at HO
      go_wp2
      go_end0
      exact ⟨rfl, HO.out, HG.out⟩

theorem grown_drop {a b c : World} {B : Nat} (h : a.grownBy b none) (k : b.grownBy c (some B)) (hb : a.heap.size ≤ B) : a.grownBy c none := grown_trans_row h k (fun r e => by cases e; exact hb)

set_option maxRecDepth 100000 in
theorem perm_any (n : Nod) (A : At) (rank : Nat) (w : World) (hn : NodeOk w n A) (hr : rank ≤ 1000000) : Calls Tryz.prog 179 #[nval n, .int .i64 rank] w fun e w' => ∃ u : Sl, e = .returned u.v ∧ IsInts w' u.v (permP A rank) ∧ w.grownBy w' none := by
  have NK := hide hn
  obtain ⟨op, nam, ⟨ia, il, ic⟩, out, ⟨ao, al, cap⟩⟩ := n
  unfold nval
  simp only
  obtain ⟨w0, hw0⟩ : ∃ w0, w0 = w.alloc (.cells #[.string op, .string nam, .slice ia il ic, .string out, .slice ao al cap] 25) := ⟨_, rfl⟩
  have g0 : Hid (w.grownBy w0 none) := by show w.grownBy w0 none; rw [hw0]; exact grown_new _ _
  have hb0 := heap_alloc_new w (.cells #[.string op, .string nam, .slice ia il ic, .string out, .slice ao al cap] 25)
  rw [← hw0] at hb0
  have BX : Hid (∀ wx, w0.grownBy wx none → wx.heap[w.heap.size]? = some (.cells #[.string op, .string nam, .slice ia il ic, .string out, .slice ao al cap] 25 (0, 0))) := fun wx hg => box_kept hb0 hg
  clear hb0 hn
  have U := hide (upto_any rank w0 (by omega))
  have RV := hide (fun (wx : World) (h : OwnI 2 wx w0.heap.size w0.heap.size (upToP rank)) => reverse_any (upToP rank) w0.heap.size w0.heap.size wx h (by rw [upToP_len]; omega))
  rw [upToP_len] at RV
  have C := hide (fun (wx : World) (B : Nat) (hg : w.grownBy wx none) (hB : IsInts wx (.slice (some ⟨B, 0, none⟩) rank rank) (upToP rank).reverse) => nints_any ⟨op, nam, ⟨ia, il, ic⟩, out, ⟨ao, al, cap⟩⟩ A ⟨#[112, 101, 114, 109]⟩ ⟨some ⟨B, 0, none⟩, rank, rank⟩ _ wx (NK.out.more hg) hB)
  unfold nval at C
  simp only at C
  have HS : Hid (w0.heap.size = w.heap.size + 1) := by show _ = _; rw [hw0]; simp
  go_enter Tryz.func179, Tryz.ntmps179
  go_wp2_with fail
  rw [← hw0]
  clear hw0
  refine U.out.mono ?_
  rintro e w1 ⟨rfl, ho1, hg1⟩
  have HG1 := hide hg1
  have R1 := hide (RV.out w1 ho1)
  clear hg1 ho1 U RV
  go_wp2_with fail
  refine R1.out.mono ?_
  rintro e w2 ⟨rfl, ho2, hg2⟩
  have HG2 := hide (grown_drop HG1.out hg2 (Nat.le_refl _))
  have HI : Hid (IsInts w2 (.slice (some ⟨w0.heap.size, 0, none⟩) rank rank) (upToP rank).reverse) := by
    have h := ho2.ints (by rw [List.length_reverse, upToP_len]; omega) (fun z hz => by have := upToP_mem (List.mem_reverse.1 hz); omega)
    rw [List.length_reverse, upToP_len] at h
    exact h
  obtain ⟨n0, n1, n2, n3, n4⟩ := nod_cells (n := ⟨op, nam, ⟨ia, il, ic⟩, out, ⟨ao, al, cap⟩⟩) (BX.out w2 (HG2.out))
  clear ho2 hg2 R1 HG1
  go_wp2_with fail
  refine (C.out w2 _ (grown_trans g0.out HG2.out) HI.out).mono ?_
  rintro e w3 ⟨u, rfl, hu, hg3⟩
  go_wp2
  go_ret
  exact ⟨u, rfl, hu, grown_trans (grown_trans g0.out HG2.out) hg3⟩

theorem str_beq {a b : ByteArray} (h : (a.toList == b.toList) = true) : a.toList = b.toList := by simpa using h

set_option maxRecDepth 100000 in
theorem along_any (n : Nod) (A : At) (rank : Nat) (w : World) (hn : NodeOk w n A) (hr : rank ≤ 1000000) : Calls Tryz.prog 98 #[nval n, .int .i64 rank] w fun e w' => ∃ u : Sl, e = .returned u.v ∧ IsInts w' u.v (alongP A rank) ∧ w.grownBy w' none := by
  have HOP := hide hn.op
  have RG := hide (fun nm z hz => hn.int nm z hz)
  have NK := hide hn
  obtain ⟨op, nam, ⟨ia, il, ic⟩, out, ⟨ao, al, cap⟩⟩ := n
  unfold nval
  simp only
  obtain ⟨w0, hw0⟩ : ∃ w0, w0 = w.alloc (.cells #[.string op, .string nam, .slice ia il ic, .string out, .slice ao al cap] 25) := ⟨_, rfl⟩
  have g0 : Hid (w.grownBy w0 none) := by show w.grownBy w0 none; rw [hw0]; exact grown_new _ _
  have hb0 := heap_alloc_new w (.cells #[.string op, .string nam, .slice ia il ic, .string out, .slice ao al cap] 25)
  rw [← hw0] at hb0
  have BX : Hid (∀ wx, w0.grownBy wx none → wx.heap[w.heap.size]? = some (.cells #[.string op, .string nam, .slice ia il ic, .string out, .slice ao al cap] 25 (0, 0))) := fun wx hg => box_kept hb0 hg
  clear hb0 hn
  simp only at HOP
  have U := hide (fun (wx : World) => upto_any rank wx (by omega))
  have C := hide (fun (wx : World) (B : Nat) (hg : w.grownBy wx none) (hB : IsInts wx (.slice (some ⟨B, 0, none⟩) rank rank) (upToP rank)) => nints_any ⟨op, nam, ⟨ia, il, ic⟩, out, ⟨ao, al, cap⟩⟩ A ⟨#[97, 120, 101, 115]⟩ ⟨some ⟨B, 0, none⟩, rank, rank⟩ _ wx (NK.out.more hg) hB)
  have I0 := hide (nint_any ⟨op, nam, ⟨ia, il, ic⟩, out, ⟨ao, al, cap⟩⟩ A ⟨#[97, 120, 105, 115]⟩ 0 w0 (NK.out.more g0.out))
  have I1 := hide (nint_any ⟨op, nam, ⟨ia, il, ic⟩, out, ⟨ao, al, cap⟩⟩ A ⟨#[97, 120, 105, 115]⟩ (-1) w0 (NK.out.more g0.out))
  unfold nval at C I0 I1
  simp only at C I0 I1
  have HS : Hid (w0.heap.size = w.heap.size + 1) := by show _ = _; rw [hw0]; simp
  cases h1 : (op.toList == [65, 114, 103, 77, 97, 120]) with
  | true =>
    have E : Hid (alongP A rank = [A.int ⟨#[97, 120, 105, 115]⟩ 0]) := by show alongP A rank = _; unfold alongP; rw [HOP.out, if_pos (by simpa using h1)]
    have hb := RG.out ⟨#[97, 120, 105, 115]⟩ 0 (by omega)
    obtain ⟨z, hz⟩ : ∃ z, z = A.int ⟨#[97, 120, 105, 115]⟩ 0 := ⟨_, rfl⟩
    rw [← hz] at I0 E hb
    clear hz
    go_enter Tryz.func98, Tryz.ntmps98
    go_wp2_with fail
    rw [← hw0]
    clear hw0
    refine I0.out.mono ?_
    rintro e w1 ⟨rfl, hg1⟩
    have HG := hide (grown_trans g0.out hg1)
    clear hg1
    go_wp2
    go_ret
    exact ⟨⟨some ⟨w1.heap.size, 0, none⟩, 1, 1⟩, rfl, by rw [E.out]; exact ints_new w1 [z] 2 (by simp) (fun y hy => by simp at hy; subst hy; exact hb), grown_trans HG.out (grown_new _ _)⟩
  | false =>
    cases h2 : (op.toList == [83, 111, 102, 116, 109, 97, 120]) with
    | true =>
      have E : Hid (alongP A rank = [A.int ⟨#[97, 120, 105, 115]⟩ (-1)]) := by show alongP A rank = _; unfold alongP; rw [HOP.out, if_neg (by simpa using h1), if_pos (by simpa using h2)]
      have hb := RG.out ⟨#[97, 120, 105, 115]⟩ (-1) (by omega)
      obtain ⟨z, hz⟩ : ∃ z, z = A.int ⟨#[97, 120, 105, 115]⟩ (-1) := ⟨_, rfl⟩
      rw [← hz] at I1 E hb
      clear hz
      go_enter Tryz.func98, Tryz.ntmps98
      go_wp2_with fail
      rw [← hw0]
      clear hw0
      refine I1.out.mono ?_
      rintro e w1 ⟨rfl, hg1⟩
      have HG := hide (grown_trans g0.out hg1)
      clear hg1
      go_wp2
      go_ret
      exact ⟨⟨some ⟨w1.heap.size, 0, none⟩, 1, 1⟩, rfl, by rw [E.out]; exact ints_new w1 [z] 2 (by simp) (fun y hy => by simp at hy; subst hy; exact hb), grown_trans HG.out (grown_new _ _)⟩
    | false =>
      have E : Hid (alongP A rank = A.ints ⟨#[97, 120, 101, 115]⟩ (upToP rank)) := by show alongP A rank = _; unfold alongP; rw [HOP.out, if_neg (by simpa using h1), if_neg (by simpa using h2)]
      obtain ⟨n0, n1, n2, n3, n4⟩ := nod_cells (n := ⟨op, nam, ⟨ia, il, ic⟩, out, ⟨ao, al, cap⟩⟩) (BX.out w0 (grown_refl _))
      go_enter Tryz.func98, Tryz.ntmps98
      go_wp2_with fail
      rw [← hw0]
      clear hw0
      go_region_held3 (fun w' => w'.cell? ⟨w.heap.size, 0, none⟩ = some (.string op) ∧ w'.cell? ⟨w.heap.size, 1, none⟩ = some (.string nam) ∧ w'.cell? ⟨w.heap.size, 2, none⟩ = some (.slice ia il ic) ∧ w'.cell? ⟨w.heap.size, 3, none⟩ = some (.string out) ∧ w'.cell? ⟨w.heap.size, 4, none⟩ = some (.slice ao al cap)) (go_keep) (first | (go_at_call 176; refine (U.out _).mono ?_; rintro e w1 ⟨rfl, ho1, hg1⟩; have g1 : w0.grownBy w1 none := grown_trans (grown_drew (grown_refl _)) hg1; obtain ⟨n0, n1, n2, n3, n4⟩ := nod_cells (n := ⟨op, nam, ⟨ia, il, ic⟩, out, ⟨ao, al, cap⟩⟩) (BX.out w1 (g1))) | (go_at_call 101; refine (C.out _ _ (grown_trans g0.out g1) (by have h := ho1.ints (by rw [upToP_len]; omega) (fun z hz => by have := upToP_mem hz; omega); rw [upToP_len] at h; exact h)).mono ?_; rintro e w2 ⟨u, rfl, hu, hg2⟩; have g2 : w0.grownBy w2 none := grown_trans g1 hg2; obtain ⟨n0, n1, n2, n3, n4⟩ := nod_cells (n := ⟨op, nam, ⟨ia, il, ic⟩, out, ⟨ao, al, cap⟩⟩) (BX.out w2 (g2))) | fail)
      go_wp2
      go_ret
      exact ⟨u, rfl, by rw [E.out]; exact hu, grown_trans g0.out g2⟩
end Go.Proofs.YtdcbjikjeicgbaaGreatDoor
