/- Joined texts: IPure, IHelp, IAttr, INum, GLit, NSameN. -/
import Derived.Test.YtfladhogkhhlcaaGreatDoorPartN
import Derived.Test.YtfladhogkhhlcaaGreatDoorPartE
import Derived.Test.YtfladhogkhhlcaaGreatDoorPartI
import Derived.WalkLawsBesides
import Derived.Deep.RegionHeld3
import Derived.Test.YtfladhogkhhlcaaGreatDoorPartC
/- What infer answers, in plain functions: errors and lists; no program stands here. -/
namespace Go.Proofs.YtfladhogkhhlcaaGreatDoor

/-- An answer, or the number of an error. -/
abbrev R := Except Int

def mustP (b : Bool) : R Unit := if b = true then .ok () else .error 4
def stopP (e : Int) : R Unit := if e = 0 then .ok () else .error e
def wholeP (x : Int) : Int := if (if x < -1073741824 then -1073741824 else x) < 1073741824 then (if x < -1073741824 then -1073741824 else x) else 1073741824
def isTypeP (t : Int) : Bool := t == 1 || t == 6 || t == 7 || t == 9
def typP (t : Int) : R Unit := if isTypeP t = true then .ok () else .error 5
def countP (zs : List Int) : R Int := if cntE zs = 0 then .ok (prod zs) else .error (cntE zs)
def spreadP (a b : List Int) : R (List Int) := if bcE a b = 0 then .ok (bcR a b) else .error (bcE a b)
def fromEndP (x : Int) (n : Nat) : Int := if x < 0 then x + n else x
def axisO (a : Int) (rank : Nat) : Option Nat := if fromEndP a rank < 0 then none else if (rank : Int) ≤ fromEndP a rank then none else some (fromEndP a rank).toNat
def axisP (a : Int) (rank : Nat) : R Nat := match axisO a rank with
  | some i => .ok i
  | none => .error 4
/-- Which of the dimensions are among the axes. -/
def axesO (rank : Nat) : List Int → List Bool → Option (List Bool)
  | [], is => some is
  | a :: l, is => match axisO a rank with
    | none => none
    | some i => if is.getD i false = true then none else axesO rank l (is.set i true)
def axesP (l : List Int) (rank : Nat) : R (List Bool) := match axesO rank l (List.replicate rank false) with
  | some is => .ok is
  | none => .error 4
def boundedP (x : Int) (d : Nat) : Int := if (if fromEndP x d < 0 then 0 else fromEndP x d) < d then (if fromEndP x d < 0 then 0 else fromEndP x d) else d
def upToP (n : Nat) : List Int := (List.range n).map Int.ofNat
def isOnP (x : Int) : R Bool := if x = 0 then .ok false else if x = 1 then .ok true else .error 4

/-- A node's attributes with what their lists hold. -/
structure At where
  op : ByteArray
  xs : List Atr
  cs : List Cont

def At.int (n : At) (nm : ByteArray) (z : Int) : Int := intV n.xs nm z
def At.ints (n : At) (nm : ByteArray) (zs : List Int) : List Int := intsV n.xs n.cs nm zs

def permP (n : At) (rank : Nat) : List Int := n.ints ⟨#[112, 101, 114, 109]⟩ (upToP rank).reverse
def alongP (n : At) (rank : Nat) : List Int :=
  if n.op.toList = [65, 114, 103, 77, 97, 120] then [n.int ⟨#[97, 120, 105, 115]⟩ 0] else if n.op.toList = [83, 111, 102, 116, 109, 97, 120] then [n.int ⟨#[97, 120, 105, 115]⟩ (-1)] else n.ints ⟨#[97, 120, 101, 115]⟩ (upToP rank)

/-- The dims without the axes that go, or with 1 for them. -/
def keptL (keep : Bool) : List Int → List Bool → List Int
  | d :: l, g :: gs => if g = false then d :: keptL keep l gs else if keep = true then 1 :: keptL keep l gs else keptL keep l gs
  | _, _ => []
def reducedP (n : At) (x : List Int) : R (List Int) := do
  let keep ← isOnP (n.int ⟨#[107, 101, 101, 112, 100, 105, 109, 115]⟩ 1)
  let gone ← axesP (alongP n x.length) x.length
  return keptL keep x gone

/-- What is known of a shape, number by number: where the open one is, the product, the dims. -/
def shapeP (x : List Int) (count : Int) : List Int → Nat → Option Nat → Int → List Int → R (Option Nat × Int × List Int)
  | [], _, left, known, dims => .ok (left, known, dims)
  | d :: l, i, left, known, dims => do
    let (left', d') ← (if d = -1 then (if left = none then .ok (some i, 1) else .error 4) else if d = 0 then (if i < x.length then .ok (left, x.getD i 0) else .error 4) else .ok (left, d) : R (Option Nat × Int))
    mustP (decide (1 ≤ d' ∧ d' ≤ count))
    mustP (decide (known * d' ≤ count))
    shapeP x count l (i + 1) left' (known * d') (dims ++ [d'])
def reshapedP (x shape : List Int) : R (List Int) := do
  let count ← countP x
  let (left, known, dims) ← shapeP x count shape 0 none 1 []
  mustP (decide (count % known = 0 ∧ (left ≠ none ∨ known = count)))
  return (match left with
    | some j => dims.set j (count / known)
    | none => dims)

def permL (x : List Int) : List Int → R (List Int)
  | [] => .ok []
  | p :: l => if 0 ≤ p then (permL x l).map (x.getD p.toNat 0 :: ·) else .error 4
def transposedP (n : At) (x : List Int) : R (List Int) := do
  mustP (decide ((permP n x.length).length = x.length))
  let _ ← axesP (permP n x.length) x.length
  permL x (permP n x.length)

/-- Are all dims but that of the axis alike? -/
def likeP (dims : List Int) (axis : Nat) (y : List Int) : Bool := (List.range y.length).all (fun i => i == axis || y.getD i 0 == dims.getD i 0)
def joinL (axis : Nat) : List (List Int) → List Int → R (List Int)
  | [], dims => .ok dims
  | y :: l, dims => do
    mustP (decide (y.length = dims.length))
    mustP (likeP dims axis y)
    joinL axis l (dims.set axis (dims.getD axis 0 + y.getD axis 0))
def joinedP (n : At) (x : List Int) (ys : List (List Int)) : R (List Int) := do
  let axis ← axisP (n.int ⟨#[97, 120, 105, 115]⟩ 0) x.length
  joinL axis ys x

def sliceL (x : List Int) : List Int → List Int → List Int → List Int → R (List Int)
  | a :: al, s :: ss, e :: es, dims => do
    let axis ← axisP a x.length
    mustP (decide (boundedP s (x.getD axis 0).toNat < boundedP e (x.getD axis 0).toNat))
    sliceL x al ss es (dims.set axis (boundedP e (x.getD axis 0).toNat - boundedP s (x.getD axis 0).toNat))
  | _, _, _, dims => .ok dims
def slicedP (n : At) (x : List Int) : R (List Int) := do
  let starts := n.ints ⟨#[115, 116, 97, 114, 116, 115]⟩ []
  let ends := n.ints ⟨#[101, 110, 100, 115]⟩ []
  let axes := n.ints ⟨#[97, 120, 101, 115]⟩ (upToP starts.length)
  mustP (decide (starts.length = ends.length ∧ starts.length = axes.length))
  let _ ← axesP axes x.length
  sliceL x axes starts ends x

def padL (r : Nat) : List Int → Nat → List Int → R (List Int)
  | [], _, dims => .ok dims
  | p :: l, i, dims => do
    mustP (decide (0 ≤ p ∧ p ≤ 65536))
    padL r l (i + 1) (dims.set (i % r) (dims.getD (i % r) 0 + p))
def paddedP (x pads : List Int) : R (List Int) := do
  mustP (decide (pads.length = 2 * x.length))
  padL x.length pads 0 x

def squeezeL : List Int → List Bool → R (List Int)
  | d :: l, g :: gs => if g = true then (if d = 1 then squeezeL l gs else .error 4) else (squeezeL l gs).map (d :: ·)
  | _, _ => .ok []
def squeezedP (x axes : List Int) : R (List Int) := do
  let gone ← axesP axes x.length
  squeezeL x gone

def unsqL : List Bool → List Int → List Int
  | [], _ => []
  | true :: l, x => 1 :: unsqL l x
  | false :: l, x => x.getD 0 0 :: unsqL l x.tail
def unsqueezedP (x axes : List Int) : R (List Int) := do
  let isNew ← axesP axes (x.length + axes.length)
  return unsqL isNew x

def flattenedP (n : At) (x : List Int) : R (List Int) := do
  let axis := fromEndP (n.int ⟨#[97, 120, 105, 115]⟩ 1) x.length
  mustP (decide (0 ≤ axis ∧ axis ≤ x.length))
  let a ← countP (x.take axis.toNat)
  let b ← countP (x.drop axis.toNat)
  return [a, b]

def productP (x y : List Int) : R (List Int) := do
  mustP (decide (2 ≤ x.length ∧ 2 ≤ y.length))
  mustP (x.getD (x.length - 1) 0 == y.getD (y.length - 2) 0)
  let s ← spreadP (x.take (x.length - 2)) (y.take (y.length - 2))
  return s ++ [x.getD (x.length - 2) 0, y.getD (y.length - 1) 0]
def turnedP (x : List Int) (t : Int) : R (List Int) := do
  mustP (decide (x.length = 2))
  let on ← isOnP t
  return if on = true then [x.getD 1 0, x.getD 0 0] else x
def gemmP (n : At) (x y : List Int) (z : Option (List Int)) : R (List Int) := do
  let a ← turnedP x (n.int ⟨#[116, 114, 97, 110, 115, 65]⟩ 0)
  let b ← turnedP y (n.int ⟨#[116, 114, 97, 110, 115, 66]⟩ 0)
  let dims ← productP a b
  match z with
  | none => return dims
  | some c => do
    let s ← spreadP dims c
    mustP (decide (s = dims))
    return dims
def normalizedP (x : List Int) (ys : List (List Int)) : R (List Int) := do
  mustP (decide (2 ≤ x.length))
  mustP (ys.all (fun y => y == (x.drop 1).take 1))
  return x

def withinP (l : List Int) (many : Nat) (least : Int) : R (List Int) := do
  mustP (decide (l.length = many))
  mustP (l.all (fun x => decide (least ≤ x ∧ x ≤ 100)))
  return l
def padsP (n : At) : R (List Int) := withinP (n.ints ⟨#[112, 97, 100, 115]⟩ [0, 0, 0, 0]) 4 0
def placesP (n : At) (x kernel : List Int) (along : Nat) : R Int := do
  let stride ← withinP (n.ints ⟨#[115, 116, 114, 105, 100, 101, 115]⟩ [1, 1]) 2 1
  let dilation ← withinP (n.ints ⟨#[100, 105, 108, 97, 116, 105, 111, 110, 115]⟩ [1, 1]) 2 1
  let pads ← padsP n
  let rest := x.getD (2 + along) 0 + pads.getD along 0 + pads.getD (2 + along) 0 - dilation.getD along 0 * (kernel.getD along 0 - 1) - 1
  mustP (decide (0 ≤ rest))
  return rest / stride.getD along 0 + 1
def convolvedP (n : At) (x w : List Int) (z : Option (List Int)) : R (List Int) := do
  mustP (decide (x.length = 4 ∧ w.length = 4))
  mustP (match z with
    | none => true
    | some c => decide (c.length = 1 ∧ c.getD 0 0 = w.getD 0 0))
  let group := n.int ⟨#[103, 114, 111, 117, 112]⟩ 1
  mustP (decide (1 ≤ group))
  mustP (decide (x.getD 1 0 % group = 0 ∧ w.getD 0 0 % group = 0 ∧ x.getD 1 0 / group = w.getD 1 0))
  let a ← placesP n x [w.getD 2 0, w.getD 3 0] 0
  let b ← placesP n x [w.getD 2 0, w.getD 3 0] 1
  return [x.getD 0 0, w.getD 0 0, a, b]
def pooledP (n : At) (x : List Int) : R (List Int) := do
  mustP (decide (x.length = 4))
  let kernel ← withinP (n.ints ⟨#[107, 101, 114, 110, 101, 108, 95, 115, 104, 97, 112, 101]⟩ []) 2 1
  let pads ← padsP n
  mustP ((List.range 4).all (fun i => decide (pads.getD i 0 < kernel.getD (i % 2) 0)))
  let a ← placesP n x kernel 0
  let b ← placesP n x kernel 1
  return [x.getD 0 0, x.getD 1 0, a, b]
end Go.Proofs.YtfladhogkhhlcaaGreatDoor

/- The small helpers of infer and attr, by the walk. -/
namespace Go.Proofs.YtfladhogkhhlcaaGreatDoor
open Go.RowKit

/-- How a call ends that may give up: an error's number, or what it answers. -/
def Ended {α : Type} (w : World) (r : R α) (Q : α → Value → World → Prop) (e : Ending) (w' : World) : Prop := w.grownBy w' none ∧ match r with
  | .error c => e = .panicked [{ v := .iface 30 (.int .i64 c), recovered := false }]
  | .ok a => ∃ v, e = .returned v ∧ Q a v w'

theorem ended_err {α : Type} {w w' : World} {r : R α} {Q : α → Value → World → Prop} {c : Int} (h : r = .error c) (hg : w.grownBy w' none) : Ended w r Q (.panicked [{ v := .iface 30 (.int .i64 c), recovered := false }]) w' := by
  rw [h]
  exact ⟨hg, rfl⟩

theorem ended_ok {α : Type} {w w' : World} {r : R α} {Q : α → Value → World → Prop} {a : α} {v : Value} (h : r = .ok a) (hg : w.grownBy w' none) (hq : Q a v w') : Ended w r Q (.returned v) w' := by
  rw [h]
  exact ⟨hg, v, rfl, hq⟩

theorem Owns.sl {w : World} {base : Nat} {v : Value} {zs : List Int} (h : Owns w base v zs) : ∃ s : Sl, v = s.v := by
  rcases h.1.2 with ⟨rfl, -⟩ | ⟨g, cap, cur, rfl, -⟩
  · exact ⟨⟨none, 0, 0⟩, rfl⟩
  · exact ⟨⟨_, _, _⟩, rfl⟩

theorem must_yes (w : World) : Calls Tryz.prog 87 #[.bool true] w fun e w' => e = .returned (.tuple #[]) ∧ w = w' := by
  go_enter Tryz.func87, Tryz.ntmps87
  go_wp2
  go_end0
  exact ⟨rfl, rfl⟩

theorem must_no (w : World) : Calls Tryz.prog 87 #[.bool false] w fun e w' => e = .panicked [{ v := .iface 30 (.int .i64 4), recovered := false }] ∧ w = w' := by
  go_enter Tryz.func87, Tryz.ntmps87
  go_wp2
  exact ⟨rfl, rfl, rfl⟩

theorem stop_ok (w : World) : Calls Tryz.prog 85 #[.int .i64 0] w fun e w' => e = .returned (.tuple #[]) ∧ w = w' := by
  go_enter Tryz.func85, Tryz.ntmps85
  go_wp2
  go_end0
  exact ⟨rfl, rfl⟩

theorem stop_err (c : Int) (hc : c ≠ 0) (w : World) : Calls Tryz.prog 85 #[.int .i64 c] w fun e w' => e = .panicked [{ v := .iface 30 (.int .i64 c), recovered := false }] ∧ w = w' := by
  have h : (c != 0) = true := by simpa using hc
  clear hc
  go_enter Tryz.func85, Tryz.ntmps85
  go_wp2
  exact ⟨rfl, rfl, rfl⟩

theorem fromend_any (x : Int) (n : Nat) (w : World) (hn : n ≤ 100000000000000) (hx : -9223372036854775808 ≤ x) : Calls Tryz.prog 83 #[.int .i64 x, .int .i64 n] w fun e w' => e = .returned (.int .i64 (fromEndP x n)) ∧ w = w' := by
  by_cases h : x < 0
  · have E : Hid (fromEndP x n = x + n) := by show fromEndP x n = x + n; simp [fromEndP, h]
    go_enter Tryz.func83, Tryz.ntmps83
    go_wp2
    go_ret
    exact ⟨by rw [E.out]; rfl, rfl⟩
  · have E : Hid (fromEndP x n = x) := by show fromEndP x n = x; simp [fromEndP, h]
    go_enter Tryz.func83, Tryz.ntmps83
    go_wp2
    go_ret
    exact ⟨by rw [E.out]; rfl, rfl⟩

theorem fromEndP_le (x : Int) (n : Nat) (hn : n ≤ 100000000000000) (hx : -9223372036854775808 ≤ x) (hx2 : x ≤ 9223372036854775807) : -9223372036854775808 ≤ fromEndP x n ∧ fromEndP x n ≤ 9223372036854775807 := by
  unfold fromEndP
  split <;> omega

theorem axis_any (a : Int) (rank : Nat) (w : World) (hr : rank ≤ 100000000000000) (ha : -9223372036854775808 ≤ a) : Calls Tryz.prog 61 #[.int .i64 a, .int .i64 rank] w fun e w' => e = .returned (.tuple #[.int .i64 ((axisO a rank).getD 0 : Nat), .bool (axisO a rank).isSome]) ∧ w = w' := by
  have F := hide (fromend_any a rank w hr ha)
  obtain ⟨f, hf⟩ : ∃ f, f = fromEndP a rank := ⟨_, rfl⟩
  have E : Hid (axisO a rank = if f < 0 then none else if (rank : Int) ≤ f then none else some f.toNat) := by show axisO a rank = _; rw [hf]; rfl
  rw [← hf] at F
  clear hf
  by_cases h1 : f < 0
  · have E2 : Hid (axisO a rank = none) := by show axisO a rank = none; rw [E.out, if_pos h1]
    go_enter Tryz.func61, Tryz.ntmps61
    go_wp2_with (go_at_call 83; refine F.out.mono ?_; rintro e w' ⟨rfl, rfl⟩)
    go_ret2
    exact ⟨by rw [E2.out]; rfl, rfl⟩
  · by_cases h2 : (rank : Int) ≤ f
    · have E2 : Hid (axisO a rank = none) := by show axisO a rank = none; rw [E.out, if_neg h1, if_pos h2]
      go_enter Tryz.func61, Tryz.ntmps61
      go_wp2_with (go_at_call 83; refine F.out.mono ?_; rintro e w' ⟨rfl, rfl⟩)
      go_ret2
      exact ⟨by rw [E2.out]; rfl, rfl⟩
    · have E2 : Hid (axisO a rank = some f.toNat) := by show axisO a rank = some f.toNat; rw [E.out, if_neg h1, if_neg h2]
      have E3 : Hid (((f.toNat : Nat) : Int) = f) := by show ((f.toNat : Nat) : Int) = f; omega
      go_enter Tryz.func61, Tryz.ntmps61
      go_wp2_with (go_at_call 83; refine F.out.mono ?_; rintro e w' ⟨rfl, rfl⟩)
      go_ret2
      exact ⟨by rw [E2.out]; simp only [Option.getD_some, E3.out]; rfl, rfl⟩

theorem axisof_any (a : Int) (rank : Nat) (w : World) (hr : rank ≤ 100000000000000) (ha : -9223372036854775808 ≤ a) : Calls Tryz.prog 119 #[.int .i64 a, .int .i64 rank] w (Ended w (axisP a rank) fun i v w' => v = .int .i64 (i : Nat) ∧ w = w') := by
  have F := hide (axis_any a rank w hr ha)
  unfold axisP
  cases hx : axisO a rank with
  | none =>
    rw [hx] at F
    clear hx
    go_enter Tryz.func119, Tryz.ntmps119
    go_wp2_with (first | (go_at_call 61; refine F.out.mono ?_; rintro e w' ⟨rfl, rfl⟩) | (go_at_call 87; refine (must_no _).mono ?_; rintro e w' ⟨rfl, rfl⟩))
    exact ⟨rfl, grown_refl _, rfl⟩
  | some i =>
    rw [hx] at F
    clear hx
    go_enter Tryz.func119, Tryz.ntmps119
    go_wp2_with (first | (go_at_call 61; refine F.out.mono ?_; rintro e w' ⟨rfl, rfl⟩) | (go_at_call 87; refine (must_yes _).mono ?_; rintro e w' ⟨rfl, rfl⟩))
    go_ret
    exact ⟨grown_refl _, _, rfl, rfl, rfl⟩

theorem countof_any (v : Value) (zs : List Int) (w : World) (h : IsInts w v zs) : Calls Tryz.prog 89 #[v] w (Ended w (countP zs) fun n v w' => v = .int .i64 n ∧ w = w') := by
  have F := hide (count_any v zs w h)
  unfold countP
  by_cases hx : cntE zs = 0
  · rw [if_pos hx]
    have E : cnt zs = prod zs := by simp [cnt, hx]
    rw [hx, E] at F
    clear hx h E
    go_enter Tryz.func89, Tryz.ntmps89
    go_wp2_with (first | (go_at_call 49; refine F.out.mono ?_; rintro e w' ⟨rfl, rfl⟩) | (go_at_call 85; refine (stop_ok _).mono ?_; rintro e w' ⟨rfl, rfl⟩))
    go_ret
    exact ⟨grown_refl _, _, rfl, rfl, rfl⟩
  · rw [if_neg hx]
    have HX := hide hx
    clear hx h
    go_enter Tryz.func89, Tryz.ntmps89
    go_wp2_with (first | (go_at_call 49; refine F.out.mono ?_; rintro e w' ⟨rfl, rfl⟩) | (go_at_call 85; refine (stop_err _ HX.out _).mono ?_; rintro e w' ⟨rfl, rfl⟩))
    exact ⟨rfl, grown_refl _, rfl⟩

theorem spread_any (u v : Sl) (a b : List Int) (w : World) (ha : IsInts w u.v a) (hb : IsInts w v.v b) : Calls Tryz.prog 110 #[.slice u.a u.n u.c, .slice v.a v.n v.c] w (Ended w (spreadP a b) fun zs r w' => ∃ s : Sl, r = s.v ∧ Owns w' w.heap.size s.v zs) := by
  have F := hide (bc_any u.v v.v a b w ha hb)
  unfold spreadP
  by_cases hx : bcE a b = 0
  · rw [if_pos hx]
    rw [hx] at F
    clear hx ha hb
    go_enter Tryz.func110, Tryz.ntmps110
    go_wp2_with (first | (go_at_call 52; refine F.out.mono ?_; rintro e w' ⟨r, rfl, ho, hg⟩) | (go_at_call 85; refine (stop_ok _).mono ?_; rintro e w' ⟨rfl, rfl⟩))
    go_ret
    obtain ⟨s, rfl⟩ := ho.sl
    exact ⟨hg, _, rfl, s, rfl, ho⟩
  · rw [if_neg hx]
    have HX := hide hx
    clear hx ha hb
    go_enter Tryz.func110, Tryz.ntmps110
    go_wp2_with (first | (go_at_call 52; refine F.out.mono ?_; rintro e w' ⟨r, rfl, ho, hg⟩) | (go_at_call 85; refine (stop_err _ HX.out _).mono ?_; rintro e w' ⟨rfl, rfl⟩))
    exact ⟨rfl, hg, rfl⟩

theorem itype_any (t : Int) (w : World) : Calls Tryz.prog 106 #[.int .i64 t] w fun e w' => e = .returned (.bool (isTypeP t)) ∧ w = w' := by
  have E : Hid (chk t 0 = isTypeP t) := by
    show chk t 0 = isTypeP t
    unfold chk isTypeP
    by_cases h1 : t = 1
    · subst h1; decide
    · by_cases h6 : t = 6
      · subst h6; decide
      · by_cases h7 : t = 7
        · subst h7; decide
        · by_cases h9 : t = 9
          · subst h9; decide
          · simp [h1, h6, h7, h9]
  have C := hide (numck_any t 0 w)
  rw [E.out] at C
  clear E
  go_enter Tryz.func106, Tryz.ntmps106
  go_wp2_with (go_at_call 67; refine C.out.mono ?_; rintro e w' ⟨rfl, rfl⟩)
  go_ret
  exact ⟨rfl, rfl⟩

theorem typ_any (t : Int) (w : World) : Calls Tryz.prog 88 #[.int .i64 t] w (Ended w (typP t) fun _ v w' => v = .tuple #[] ∧ w = w') := by
  have C := hide (itype_any t w)
  unfold typP
  cases h : isTypeP t with
  | true =>
    rw [h] at C
    clear h
    go_enter Tryz.func88, Tryz.ntmps88
    go_wp2_with (go_at_call 106; refine C.out.mono ?_; rintro e w' ⟨rfl, rfl⟩)
    go_end0
    exact ⟨grown_refl _, _, rfl, rfl, rfl⟩
  | false =>
    rw [h] at C
    clear h
    go_enter Tryz.func88, Tryz.ntmps88
    go_wp2_with (go_at_call 106; refine C.out.mono ?_; rintro e w' ⟨rfl, rfl⟩)
    exact ⟨rfl, grown_refl _, rfl⟩

theorem ison_any (x : Int) (w : World) : Calls Tryz.prog 151 #[.int .i64 x] w (Ended w (isOnP x) fun b v w' => v = .bool b ∧ w = w') := by
  unfold isOnP
  by_cases h0 : x = 0
  · subst h0
    rw [if_pos rfl]
    go_enter Tryz.func151, Tryz.ntmps151
    go_wp2_with (go_at_call 87; refine (must_yes _).mono ?_; rintro e w' ⟨rfl, rfl⟩)
    go_ret
    exact ⟨grown_refl _, _, rfl, rfl, rfl⟩
  · rw [if_neg h0]
    by_cases h1 : x = 1
    · subst h1
      rw [if_pos rfl]
      go_enter Tryz.func151, Tryz.ntmps151
      go_wp2_with (go_at_call 87; refine (must_yes _).mono ?_; rintro e w' ⟨rfl, rfl⟩)
      go_ret
      exact ⟨grown_refl _, _, rfl, rfl, rfl⟩
    · rw [if_neg h1]
      have b0 : (x == 0) = false := by simpa using h0
      have b1 : (x == 1) = false := by simpa using h1
      clear h0 h1
      go_enter Tryz.func151, Tryz.ntmps151
      go_wp2_with (go_at_call 87; refine (must_no _).mono ?_; rintro e w' ⟨rfl, rfl⟩)
      exact ⟨rfl, grown_refl _, rfl⟩
end Go.Proofs.YtfladhogkhhlcaaGreatDoor

/- What attributes mean: axes, bounds, numbers, by the walk. -/
namespace Go.Proofs.YtfladhogkhhlcaaGreatDoor
open Go.RowKit

theorem whole_any (x : Int) (w : World) : Calls Tryz.prog 107 #[.int .i64 x] w fun e w' => e = .returned (.int .i64 (wholeP x)) ∧ w = w' := by
  have E : ∀ a, a = wholeP x → Ending.returned (.int .i64 a) = .returned (.int .i64 (wholeP x)) := fun a h => by rw [h]
  go_enter Tryz.func107, Tryz.ntmps107
  go_wp2
  all_goals
    go_ret
    refine ⟨E _ ?_, rfl⟩
    unfold wholeP
    split <;> split at * <;> omega

theorem bounded_any (x : Int) (d : Nat) (w : World) (hd : d ≤ 100000000000000) (hx : -9223372036854775808 ≤ x) : Calls Tryz.prog 62 #[.int .i64 x, .int .i64 d] w fun e w' => e = .returned (.int .i64 (boundedP x d)) ∧ w = w' := by
  have F := hide (fromend_any x d w hd hx)
  have E : Hid (∀ a, a = (if (if fromEndP x d < 0 then 0 else fromEndP x d) < (d : Int) then (if fromEndP x d < 0 then 0 else fromEndP x d) else (d : Int)) → Ending.returned (.int .i64 a) = .returned (.int .i64 (boundedP x d))) := fun a h => by rw [h]; rfl
  obtain ⟨f, hf⟩ : ∃ f, f = fromEndP x d := ⟨_, rfl⟩
  rw [← hf] at F E
  clear hf
  go_enter Tryz.func62, Tryz.ntmps62
  go_wp2_with (go_at_call 83; refine F.out.mono ?_; rintro e w' ⟨rfl, rfl⟩)
  all_goals
    go_ret
    refine ⟨E.out _ ?_, rfl⟩
    split <;> split at * <;> omega

/-- A new list of so many no. -/
theorem make_bools (n : Nat) (hn : n ≤ 100000000000000) : ∃ M : Array Value, (∀ W : World, (Instr.makeSlice 153 (.int .i64 (n : Int)) (.int .i64 (n : Int))).run Tryz.prog W = .ok (.slice (some ⟨W.heap.size, 0, none⟩) n n) (W.alloc (.cells M 4))) ∧
    ∀ (W : World) (base : Nat), base ≤ W.heap.size → OwnBl (W.alloc (.cells M 4)) base W.heap.size (List.replicate n false) := by
  obtain ⟨j0, hj, jz0, jz1, jz2⟩ := info_parts infoBool
  obtain ⟨M1, hM1⟩ : ∃ M, M = madeCells (Value.bool false).cells (((n : Nat) : Int).toNat * j0.size) := ⟨_, rfl⟩
  have E1 : M1.toList = List.replicate n (.bool false) := by rw [hM1, jz1, Nat.mul_one, show (Value.bool false).cells = #[Value.bool false] from rfl, toList_madeCells_one]; simp
  refine ⟨M1, fun W => ?_, fun W base hb => ?_⟩
  · have h := Go.run_make (P := Tryz.prog) W 153 4 j0 (.bool false) Tryz.underlying153 hj jz0 .i64 .i64 (n : Int) (n : Int) (by omega) (by omega) (by rw [jz2]; omega) (by omega)
    rw [← hM1] at h
    simpa using h
  · unfold OwnBl
    rw [List.length_replicate, List.map_replicate]
    refine ⟨by simp, Or.inr ⟨W.heap.size, n, M1, rfl, hb, heap_alloc_new W _, Nat.le_refl _, by simp only [maxLen]; omega, ?_, ?_⟩⟩
    · rw [← Array.length_toList, E1, List.length_replicate, Nat.mul_one]
    · rw [E1, List.take_of_length_le (by simp)]

theorem IsInts.sl {w : World} {v : Value} {zs : List Int} (h : IsInts w v zs) : ∃ a c, v = .slice a zs.length c ∧ zs.length ≤ c ∧ c ≤ 9223372036854775807 ∧ zs.length * 8 ≤ 140737488351232 := by
  obtain ⟨ao, cap, rfl, h1, h2, h3, h4, h5, h6⟩ := h
  exact ⟨ao, cap, rfl, h1, h2, h3⟩

theorem IsInts.get {w : World} {a : Option Addr} {n c : Nat} {zs : List Int} (h : IsInts w (.slice a n c) zs) {k : Nat} (hk : k < zs.length) : ∃ b off, a = some ⟨b, off, none⟩ ∧ ∀ i, i < zs.length → w.cell? ⟨b, off + i, none⟩ = some (.int .i64 (zs.getD i 0)) := by
  obtain ⟨ao, cap, e, h1, h2, h3, h4, h5, h6⟩ := h
  cases e
  obtain ⟨b, off, rfl, hc⟩ := h5 (by omega)
  exact ⟨b, off, rfl, hc⟩

theorem axesO_step {rank : Nat} {l : List Int} {k : Nat} {is : List Bool} (hk : k < l.length) : axesO rank (l.drop k) is = match axisO (l.getD k 0) rank with
    | none => none
    | some i => if is.getD i false = true then none else axesO rank (l.drop (k + 1)) (is.set i true) := by
  rw [drop_step l k hk]
  rfl

theorem axisO_lt {a : Int} {rank i : Nat} (h : axisO a rank = some i) : i < rank := by
  unfold axisO at h
  split at h
  · cases h
  · split at h
    · cases h
    · cases h
      omega

set_option maxRecDepth 100000 in
theorem axes_any (v : Value) (l : List Int) (rank : Nat) (w : World) (hv : IsInts w v l) (hr : rank ≤ 100000000000000) : Calls Tryz.prog 150 #[v, .int .i64 rank] w fun e w' => w.grownBy w' none ∧ match axesO rank l (List.replicate rank false) with
    | some is => ∃ B, e = .returned (.tuple #[.slice (some ⟨B, 0, none⟩) rank rank, .bool true]) ∧ OwnBl w' w.heap.size B is ∧ is.length = rank
    | none => e = .returned (.tuple #[.slice none 0 0, .bool false]) := by
  obtain ⟨M, mk1, OW⟩ := make_bools rank hr
  have O0 := hide (OW w w.heap.size (Nat.le_refl _))
  clear OW
  obtain ⟨r, hr0⟩ : ∃ r, r = axesO rank l (List.replicate rank false) := ⟨_, rfl⟩
  rw [← hr0]
  have HR0 := hide hr0
  obtain ⟨a, c, rfl, c1, c2, c3⟩ := hv.sl
  have HV := hide hv
  clear hv hr0
  go_enter Tryz.func150, Tryz.ntmps150
  go_wp2_with fail
  clear mk1
  go_loopw [15] (fun i wr => ∃ (k : Nat) (is : List Bool), k ≤ l.length ∧ i = .int .i64 k ∧ OwnBl wr w.heap.size w.heap.size is ∧ is.length = rank ∧ w.grownBy wr none ∧ axesO rank (l.drop k) is = r) (fun i _ => l.length - (intOf i).toNat)
  case atStart => exact ⟨0, List.replicate rank false, Nat.zero_le _, rfl, O0.out, by simp, grown_new _ _, HR0.out.symm⟩
  case round =>
    obtain ⟨k, is, hk, rfl, ho, hlen, hg, hs⟩ := hrel
    have HO := hide ho
    have HL := hide hlen
    have HG := hide hg
    have HS := hide hs
    clear ho hlen hg hs
    by_cases hkl : k < l.length
    · obtain ⟨b, off, rfl, hc⟩ := HV.out.get hkl
      have hz := HV.out.wf (l.getD k 0) (by simp [List.getD, hkl])
      have hcell := hc k hkl
      have hcell2 : wr.cell? ⟨b, off + k, none⟩ = some (.int .i64 (l.getD k 0)) := cell_still hcell HG.out
      have ST := axesO_step (rank := rank) (is := is) hkl
      rw [HS.out] at ST
      obtain ⟨z, hz0⟩ : ∃ z, z = l.getD k 0 := ⟨_, rfl⟩
      rw [← hz0] at hz hcell2 ST
      have AX := hide (axis_any z rank wr (by omega) hz.1)
      clear hc hcell hz0
      cases hx : axisO z rank with
      | none =>
        rw [hx] at AX ST
        simp only at ST
        clear hx
        subst ST
        go_wp2_with (go_at_call 61; refine AX.out.mono ?_; rintro e w' ⟨rfl, rfl⟩)
        go_ret2
        exact ⟨HG.out, rfl⟩
      | some i =>
        have hi := axisO_lt hx
        rw [hx] at AX ST
        simp only at ST
        clear hx
        have hget : is[i]? = some (is.getD i false) := by simp [List.getD, show i < is.length by rw [HL.out]; exact hi]
        obtain ⟨bb, hbb⟩ : ∃ bb, bb = is.getD i false := ⟨_, rfl⟩
        rw [← hbb] at hget ST
        obtain ⟨cb, fb⟩ := HO.out.at hget
        clear hbb
        cases bb with
        | true =>
          rw [if_pos rfl] at ST
          subst ST
          go_wp2_with (go_at_call 61; refine AX.out.mono ?_; rintro e w' ⟨rfl, rfl⟩)
          go_ret2
          exact ⟨HG.out, rfl⟩
        | false =>
          rw [if_neg (by decide)] at ST
          have HST := hide ST
          clear ST
          obtain ⟨so, sg⟩ := HO.out.set i true
          have SO := hide so
          have SG := hide (grown_trans_row HG.out sg (fun r e => by cases e; exact Nat.le_refl _))
          clear so sg
          go_wp2_with (go_at_call 61; refine AX.out.mono ?_; rintro e w' ⟨rfl, rfl⟩)
          go_roundw
          case rel => exact ⟨k + 1, is.set i true, by omega, by go_num, SO.out, by rw [List.length_set]; exact HL.out, SG.out, HST.out.symm⟩
          case measure => simp [intOf]; omega
    · have hkk : k = l.length := by omega
      subst hkk
      have E : r = some is := by
        rw [← HS.out, List.drop_length]
        rfl
      subst E
      clear hk hkl
      go_wp2
      go_ret2
      exact ⟨HG.out, _, rfl, HO.out, HL.out⟩
end Go.Proofs.YtfladhogkhhlcaaGreatDoor

/- Which operators there are for which types (mkINum.py). -/
namespace Go.Proofs.YtfladhogkhhlcaaGreatDoor
open Go.RowKit

def names1 : List (List UInt8) := [[73, 100, 101, 110, 116, 105, 116, 121], [78, 101, 103], [65, 98, 115], [78, 111, 116], [82, 101, 108, 117], [83, 113, 114, 116], [70, 108, 111, 111, 114], [69, 120, 112], [83, 105, 103, 109, 111, 105, 100], [84, 97, 110, 104]]
def names2 : List (List UInt8) := [[65, 100, 100], [83, 117, 98], [77, 117, 108], [68, 105, 118], [77, 97, 120], [77, 105, 110], [65, 110, 100], [79, 114], [88, 111, 114], [69, 113, 117, 97, 108], [76, 101, 115, 115], [71, 114, 101, 97, 116, 101, 114]]

/-- Is there an operator of one for a type? -/
def oneOK (op : List UInt8) (t : Int) : Bool := op == [73, 100, 101, 110, 116, 105, 116, 121] || (t == 1 && [[78, 101, 103], [65, 98, 115], [82, 101, 108, 117], [83, 113, 114, 116], [70, 108, 111, 111, 114], [69, 120, 112], [83, 105, 103, 109, 111, 105, 100], [84, 97, 110, 104]].contains op) || (t == 9 && op == [78, 111, 116]) || ((t == 6 || t == 7) && [[78, 101, 103], [65, 98, 115]].contains op)

/-- Is there an operator of two for a type? -/
def twoOK (op : List UInt8) (t : Int) : Bool := (t == 9 && [[65, 110, 100], [79, 114], [88, 111, 114], [69, 113, 117, 97, 108]].contains op) || ((t == 1 || t == 6 || t == 7) && [[65, 100, 100], [83, 117, 98], [77, 117, 108], [68, 105, 118], [77, 97, 120], [77, 105, 110], [69, 113, 117, 97, 108], [76, 101, 115, 115], [71, 114, 101, 97, 116, 101, 114]].contains op)

/-- Behind an operator of one at the element 1. -/
def Opd (w : World) (c : Int) (e : Ending) (w' : World) : Prop := ∃ z, e = .returned (.tuple #[.int .i64 z, .int .i64 c]) ∧ w.grownBy w' none

theorem opd_same {w : World} {z c d : Int} (h : c = d) : ∀ e w', (e = Ending.returned (.tuple #[.int .i64 z, .int .i64 c]) ∧ w' = w) → Opd w d e w' := by
  rintro e w' ⟨rfl, rfl⟩
  exact ⟨z, by rw [h], grown_refl _⟩

theorem opd_drew {w : World} {z c d : Int} (h : c = d) : ∀ e w', (e = Ending.returned (.tuple #[.int .i64 z, .int .i64 c]) ∧ ∃ n, w' = w.drewN n) → Opd w d e w' := by
  rintro e w' ⟨rfl, n, rfl⟩
  exact ⟨z, by rw [h], ⟨rfl, rfl, rfl, Nat.le_refl _, fun k hk hn => rfl⟩⟩

theorem opd_round {w : World} : ∀ e w', (∃ r n, r < 4294967296 ∧ e = Ending.returned (.tuple #[.int .i64 (Nu.tob r), .int .i64 0]) ∧ w' = w.drewN n) → Opd w 0 e w' := by
  rintro e w' ⟨r, n, -, rfl, rfl⟩
  exact ⟨_, rfl, ⟨rfl, rfl, rfl, Nat.le_refl _, fun k hk hn => rfl⟩⟩

theorem typ_cases {t : Int} (h : isTypeP t = true) : t = 1 ∨ t = 6 ∨ t = 7 ∨ t = 9 := by
  simpa [isTypeP, or_assoc] using h

theorem one_Identity (t : Int) (ht : isTypeP t = true) (w : World) : Calls Tryz.prog 133 #[.string ⟨#[73, 100, 101, 110, 116, 105, 116, 121]⟩, .int .i64 t, .int .i64 1] w (Opd w (if oneOK [73, 100, 101, 110, 116, 105, 116, 121] t = true then 0 else 1)) := by
  rcases typ_cases ht with rfl | rfl | rfl | rfl
  · exact (Nu.unary0 1 1 w).mono (opd_same (by rw [Nu.un_0 1 1 (by decide)]; decide))
  · exact (Nu.unary0 6 1 w).mono (opd_same (by rw [Nu.un_0 6 1 (by decide)]; decide))
  · exact (Nu.unary0 7 1 w).mono (opd_same (by rw [Nu.un_0 7 1 (by decide)]; decide))
  · exact (Nu.unary0 9 1 w).mono (opd_same (by rw [Nu.un_0 9 1 (by decide)]; decide))

theorem one_Neg (t : Int) (ht : isTypeP t = true) (w : World) : Calls Tryz.prog 133 #[.string ⟨#[78, 101, 103]⟩, .int .i64 t, .int .i64 1] w (Opd w (if oneOK [78, 101, 103] t = true then 0 else 1)) := by
  rcases typ_cases ht with rfl | rfl | rfl | rfl
  · exact (Nu.unary1_1 1 w (by decide)).mono (opd_same (by rw [Nu.un_1 1 1 (by decide) (by decide)]; rfl))
  · exact (Nu.unary1_6 1 w (by decide)).mono (opd_same (by rw [Nu.un_6 1 1 (by decide) (by decide)]; rfl))
  · exact (Nu.unary1_7 1 w (by decide)).mono (opd_same (by rw [Nu.un_7 1 1 (by decide) (by decide)]; rfl))
  · exact (Nu.unary1_9 1 w (by decide)).mono (opd_same (by rw [Nu.un_9 1 1 (by decide) (by decide)]; rfl))

theorem one_Abs (t : Int) (ht : isTypeP t = true) (w : World) : Calls Tryz.prog 133 #[.string ⟨#[65, 98, 115]⟩, .int .i64 t, .int .i64 1] w (Opd w (if oneOK [65, 98, 115] t = true then 0 else 1)) := by
  rcases typ_cases ht with rfl | rfl | rfl | rfl
  · exact (Nu.unary2_1 1 w (by decide)).mono (opd_same (by rw [Nu.un_1 2 1 (by decide) (by decide)]; rfl))
  · exact (Nu.unary2_6 1 w (by decide)).mono (opd_same (by rw [Nu.un_6 2 1 (by decide) (by decide)]; rfl))
  · exact (Nu.unary2_7 1 w (by decide)).mono (opd_same (by rw [Nu.un_7 2 1 (by decide) (by decide)]; rfl))
  · exact (Nu.unary2_9 1 w (by decide)).mono (opd_same (by rw [Nu.un_9 2 1 (by decide) (by decide)]; rfl))

theorem one_Not (t : Int) (ht : isTypeP t = true) (w : World) : Calls Tryz.prog 133 #[.string ⟨#[78, 111, 116]⟩, .int .i64 t, .int .i64 1] w (Opd w (if oneOK [78, 111, 116] t = true then 0 else 1)) := by
  rcases typ_cases ht with rfl | rfl | rfl | rfl
  · exact (Nu.unary3_1 1 w (by decide)).mono (opd_same (by rw [Nu.un_1 3 1 (by decide) (by decide)]; rfl))
  · exact (Nu.unary3_6 1 w (by decide)).mono (opd_same (by rw [Nu.un_6 3 1 (by decide) (by decide)]; rfl))
  · exact (Nu.unary3_7 1 w (by decide)).mono (opd_same (by rw [Nu.un_7 3 1 (by decide) (by decide)]; rfl))
  · exact (Nu.unary3_9 1 w (by decide)).mono (opd_same (by rw [Nu.un_9 3 1 (by decide) (by decide)]; rfl))

theorem one_Relu (t : Int) (ht : isTypeP t = true) (w : World) : Calls Tryz.prog 133 #[.string ⟨#[82, 101, 108, 117]⟩, .int .i64 t, .int .i64 1] w (Opd w (if oneOK [82, 101, 108, 117] t = true then 0 else 1)) := by
  rcases typ_cases ht with rfl | rfl | rfl | rfl
  · exact (Nu.unary4_1 1 w (by decide)).mono (opd_same (by rw [Nu.un_1 4 1 (by decide) (by decide)]; rfl))
  · exact (Nu.unary4_6 1 w (by decide)).mono (opd_same (by rw [Nu.un_6 4 1 (by decide) (by decide)]; rfl))
  · exact (Nu.unary4_7 1 w (by decide)).mono (opd_same (by rw [Nu.un_7 4 1 (by decide) (by decide)]; rfl))
  · exact (Nu.unary4_9 1 w (by decide)).mono (opd_same (by rw [Nu.un_9 4 1 (by decide) (by decide)]; rfl))

theorem one_Sqrt (t : Int) (ht : isTypeP t = true) (w : World) : Calls Tryz.prog 133 #[.string ⟨#[83, 113, 114, 116]⟩, .int .i64 t, .int .i64 1] w (Opd w (if oneOK [83, 113, 114, 116] t = true then 0 else 1)) := by
  rcases typ_cases ht with rfl | rfl | rfl | rfl
  · exact (Nu.unary5_1 1 w (by decide)).mono opd_round
  · exact (Nu.unary5_6 1 w (by decide)).mono (opd_same (by rw [Nu.un_6 5 1 (by decide) (by decide)]; rfl))
  · exact (Nu.unary5_7 1 w (by decide)).mono (opd_same (by rw [Nu.un_7 5 1 (by decide) (by decide)]; rfl))
  · exact (Nu.unary5_9 1 w (by decide)).mono (opd_same (by rw [Nu.un_9 5 1 (by decide) (by decide)]; rfl))

theorem one_Floor (t : Int) (ht : isTypeP t = true) (w : World) : Calls Tryz.prog 133 #[.string ⟨#[70, 108, 111, 111, 114]⟩, .int .i64 t, .int .i64 1] w (Opd w (if oneOK [70, 108, 111, 111, 114] t = true then 0 else 1)) := by
  rcases typ_cases ht with rfl | rfl | rfl | rfl
  · exact (Nu.unary6_1 1 w (by decide)).mono opd_round
  · exact (Nu.unary6_6 1 w (by decide)).mono (opd_same (by rw [Nu.un_6 6 1 (by decide) (by decide)]; rfl))
  · exact (Nu.unary6_7 1 w (by decide)).mono (opd_same (by rw [Nu.un_7 6 1 (by decide) (by decide)]; rfl))
  · exact (Nu.unary6_9 1 w (by decide)).mono (opd_same (by rw [Nu.un_9 6 1 (by decide) (by decide)]; rfl))

theorem one_Exp (t : Int) (ht : isTypeP t = true) (w : World) : Calls Tryz.prog 133 #[.string ⟨#[69, 120, 112]⟩, .int .i64 t, .int .i64 1] w (Opd w (if oneOK [69, 120, 112] t = true then 0 else 1)) := by
  rcases typ_cases ht with rfl | rfl | rfl | rfl
  · exact (Nu.unary7_1 1 w (by decide)).mono opd_round
  · exact (Nu.unary7_6 1 w (by decide)).mono (opd_same (by rw [Nu.un_6 7 1 (by decide) (by decide)]; rfl))
  · exact (Nu.unary7_7 1 w (by decide)).mono (opd_same (by rw [Nu.un_7 7 1 (by decide) (by decide)]; rfl))
  · exact (Nu.unary7_9 1 w (by decide)).mono (opd_same (by rw [Nu.un_9 7 1 (by decide) (by decide)]; rfl))

theorem one_Sigmoid (t : Int) (ht : isTypeP t = true) (w : World) : Calls Tryz.prog 133 #[.string ⟨#[83, 105, 103, 109, 111, 105, 100]⟩, .int .i64 t, .int .i64 1] w (Opd w (if oneOK [83, 105, 103, 109, 111, 105, 100] t = true then 0 else 1)) := by
  rcases typ_cases ht with rfl | rfl | rfl | rfl
  · exact (Nu.unary8_1 1 w (by decide)).mono opd_round
  · exact (Nu.unary8_6 1 w (by decide)).mono (opd_same (by rw [Nu.un_6 8 1 (by decide) (by decide)]; rfl))
  · exact (Nu.unary8_7 1 w (by decide)).mono (opd_same (by rw [Nu.un_7 8 1 (by decide) (by decide)]; rfl))
  · exact (Nu.unary8_9 1 w (by decide)).mono (opd_same (by rw [Nu.un_9 8 1 (by decide) (by decide)]; rfl))

theorem one_Tanh (t : Int) (ht : isTypeP t = true) (w : World) : Calls Tryz.prog 133 #[.string ⟨#[84, 97, 110, 104]⟩, .int .i64 t, .int .i64 1] w (Opd w (if oneOK [84, 97, 110, 104] t = true then 0 else 1)) := by
  rcases typ_cases ht with rfl | rfl | rfl | rfl
  · exact (Nu.unary9_1 1 w (by decide)).mono opd_round
  · exact (Nu.unary9_6 1 w (by decide)).mono (opd_same (by rw [Nu.un_6 9 1 (by decide) (by decide)]; rfl))
  · exact (Nu.unary9_7 1 w (by decide)).mono (opd_same (by rw [Nu.un_7 9 1 (by decide) (by decide)]; rfl))
  · exact (Nu.unary9_9 1 w (by decide)).mono (opd_same (by rw [Nu.un_9 9 1 (by decide) (by decide)]; rfl))

theorem two_Add (t : Int) (ht : isTypeP t = true) (w : World) : Calls Tryz.prog 75 #[.string ⟨#[65, 100, 100]⟩, .int .i64 t, .int .i64 1, .int .i64 1] w (Opd w (if twoOK [65, 100, 100] t = true then 0 else 1)) := by
  rcases typ_cases ht with rfl | rfl | rfl | rfl
  · exact (Nu.binary0 1 1 1 w).mono (opd_drew (by rfl))
  · exact (Nu.binary0 6 1 1 w).mono (opd_drew (by rfl))
  · exact (Nu.binary0 7 1 1 w).mono (opd_drew (by rfl))
  · exact (Nu.binary0 9 1 1 w).mono (opd_drew (by rfl))

theorem two_Sub (t : Int) (ht : isTypeP t = true) (w : World) : Calls Tryz.prog 75 #[.string ⟨#[83, 117, 98]⟩, .int .i64 t, .int .i64 1, .int .i64 1] w (Opd w (if twoOK [83, 117, 98] t = true then 0 else 1)) := by
  rcases typ_cases ht with rfl | rfl | rfl | rfl
  · exact (Nu.binary1 1 1 1 w).mono (opd_drew (by rfl))
  · exact (Nu.binary1 6 1 1 w).mono (opd_drew (by rfl))
  · exact (Nu.binary1 7 1 1 w).mono (opd_drew (by rfl))
  · exact (Nu.binary1 9 1 1 w).mono (opd_drew (by rfl))

theorem two_Mul (t : Int) (ht : isTypeP t = true) (w : World) : Calls Tryz.prog 75 #[.string ⟨#[77, 117, 108]⟩, .int .i64 t, .int .i64 1, .int .i64 1] w (Opd w (if twoOK [77, 117, 108] t = true then 0 else 1)) := by
  rcases typ_cases ht with rfl | rfl | rfl | rfl
  · exact (Nu.binary2 1 1 1 w).mono (opd_drew (by rfl))
  · exact (Nu.binary2 6 1 1 w).mono (opd_drew (by rfl))
  · exact (Nu.binary2 7 1 1 w).mono (opd_drew (by rfl))
  · exact (Nu.binary2 9 1 1 w).mono (opd_drew (by rfl))

theorem two_Div (t : Int) (ht : isTypeP t = true) (w : World) : Calls Tryz.prog 75 #[.string ⟨#[68, 105, 118]⟩, .int .i64 t, .int .i64 1, .int .i64 1] w (Opd w (if twoOK [68, 105, 118] t = true then 0 else 1)) := by
  rcases typ_cases ht with rfl | rfl | rfl | rfl
  · exact (Nu.binary3 1 1 1 w).mono (opd_drew (by rfl))
  · exact (Nu.binary3 6 1 1 w).mono (opd_drew (by rfl))
  · exact (Nu.binary3 7 1 1 w).mono (opd_drew (by rfl))
  · exact (Nu.binary3 9 1 1 w).mono (opd_drew (by rfl))

theorem two_Max (t : Int) (ht : isTypeP t = true) (w : World) : Calls Tryz.prog 75 #[.string ⟨#[77, 97, 120]⟩, .int .i64 t, .int .i64 1, .int .i64 1] w (Opd w (if twoOK [77, 97, 120] t = true then 0 else 1)) := by
  rcases typ_cases ht with rfl | rfl | rfl | rfl
  · exact (Nu.binary4 1 1 1 w).mono (opd_drew (by rfl))
  · exact (Nu.binary4 6 1 1 w).mono (opd_drew (by rfl))
  · exact (Nu.binary4 7 1 1 w).mono (opd_drew (by rfl))
  · exact (Nu.binary4 9 1 1 w).mono (opd_drew (by rfl))

theorem two_Min (t : Int) (ht : isTypeP t = true) (w : World) : Calls Tryz.prog 75 #[.string ⟨#[77, 105, 110]⟩, .int .i64 t, .int .i64 1, .int .i64 1] w (Opd w (if twoOK [77, 105, 110] t = true then 0 else 1)) := by
  rcases typ_cases ht with rfl | rfl | rfl | rfl
  · exact (Nu.binary5 1 1 1 w).mono (opd_drew (by rfl))
  · exact (Nu.binary5 6 1 1 w).mono (opd_drew (by rfl))
  · exact (Nu.binary5 7 1 1 w).mono (opd_drew (by rfl))
  · exact (Nu.binary5 9 1 1 w).mono (opd_drew (by rfl))

theorem two_And (t : Int) (ht : isTypeP t = true) (w : World) : Calls Tryz.prog 75 #[.string ⟨#[65, 110, 100]⟩, .int .i64 t, .int .i64 1, .int .i64 1] w (Opd w (if twoOK [65, 110, 100] t = true then 0 else 1)) := by
  rcases typ_cases ht with rfl | rfl | rfl | rfl
  · exact (Nu.binary6 1 1 1 w).mono (opd_drew (by rfl))
  · exact (Nu.binary6 6 1 1 w).mono (opd_drew (by rfl))
  · exact (Nu.binary6 7 1 1 w).mono (opd_drew (by rfl))
  · exact (Nu.binary6 9 1 1 w).mono (opd_drew (by rfl))

theorem two_Or (t : Int) (ht : isTypeP t = true) (w : World) : Calls Tryz.prog 75 #[.string ⟨#[79, 114]⟩, .int .i64 t, .int .i64 1, .int .i64 1] w (Opd w (if twoOK [79, 114] t = true then 0 else 1)) := by
  rcases typ_cases ht with rfl | rfl | rfl | rfl
  · exact (Nu.binary7 1 1 1 w).mono (opd_drew (by rfl))
  · exact (Nu.binary7 6 1 1 w).mono (opd_drew (by rfl))
  · exact (Nu.binary7 7 1 1 w).mono (opd_drew (by rfl))
  · exact (Nu.binary7 9 1 1 w).mono (opd_drew (by rfl))

theorem two_Xor (t : Int) (ht : isTypeP t = true) (w : World) : Calls Tryz.prog 75 #[.string ⟨#[88, 111, 114]⟩, .int .i64 t, .int .i64 1, .int .i64 1] w (Opd w (if twoOK [88, 111, 114] t = true then 0 else 1)) := by
  rcases typ_cases ht with rfl | rfl | rfl | rfl
  · exact (Nu.binary8 1 1 1 w).mono (opd_drew (by rfl))
  · exact (Nu.binary8 6 1 1 w).mono (opd_drew (by rfl))
  · exact (Nu.binary8 7 1 1 w).mono (opd_drew (by rfl))
  · exact (Nu.binary8 9 1 1 w).mono (opd_drew (by rfl))

theorem two_Equal (t : Int) (ht : isTypeP t = true) (w : World) : Calls Tryz.prog 75 #[.string ⟨#[69, 113, 117, 97, 108]⟩, .int .i64 t, .int .i64 1, .int .i64 1] w (Opd w (if twoOK [69, 113, 117, 97, 108] t = true then 0 else 1)) := by
  rcases typ_cases ht with rfl | rfl | rfl | rfl
  · exact (Nu.binary9 1 1 1 w).mono (opd_drew (by rfl))
  · exact (Nu.binary9 6 1 1 w).mono (opd_drew (by rfl))
  · exact (Nu.binary9 7 1 1 w).mono (opd_drew (by rfl))
  · exact (Nu.binary9 9 1 1 w).mono (opd_drew (by rfl))

theorem two_Less (t : Int) (ht : isTypeP t = true) (w : World) : Calls Tryz.prog 75 #[.string ⟨#[76, 101, 115, 115]⟩, .int .i64 t, .int .i64 1, .int .i64 1] w (Opd w (if twoOK [76, 101, 115, 115] t = true then 0 else 1)) := by
  rcases typ_cases ht with rfl | rfl | rfl | rfl
  · exact (Nu.binary10 1 1 1 w).mono (opd_drew (by rfl))
  · exact (Nu.binary10 6 1 1 w).mono (opd_drew (by rfl))
  · exact (Nu.binary10 7 1 1 w).mono (opd_drew (by rfl))
  · exact (Nu.binary10 9 1 1 w).mono (opd_drew (by rfl))

theorem two_Greater (t : Int) (ht : isTypeP t = true) (w : World) : Calls Tryz.prog 75 #[.string ⟨#[71, 114, 101, 97, 116, 101, 114]⟩, .int .i64 t, .int .i64 1, .int .i64 1] w (Opd w (if twoOK [71, 114, 101, 97, 116, 101, 114] t = true then 0 else 1)) := by
  rcases typ_cases ht with rfl | rfl | rfl | rfl
  · exact (Nu.binary11 1 1 1 w).mono (opd_drew (by rfl))
  · exact (Nu.binary11 6 1 1 w).mono (opd_drew (by rfl))
  · exact (Nu.binary11 7 1 1 w).mono (opd_drew (by rfl))
  · exact (Nu.binary11 9 1 1 w).mono (opd_drew (by rfl))

theorem one_any (op : ByteArray) (t : Int) (h : op.toList ∈ names1) (ht : isTypeP t = true) (w : World) : Calls Tryz.prog 133 #[.string op, .int .i64 t, .int .i64 1] w (Opd w (if oneOK op.toList t = true then 0 else 1)) := by
  have e : op = B op.toList := by rw [bytes_toList, B_self]
  simp only [names1, List.mem_cons, List.not_mem_nil, or_false] at h
  rcases h with h | h | h | h | h | h | h | h | h | h
  · rw [h, show op = ⟨#[73, 100, 101, 110, 116, 105, 116, 121]⟩ from e.trans (by rw [h]; rfl)]; exact one_Identity t ht w
  · rw [h, show op = ⟨#[78, 101, 103]⟩ from e.trans (by rw [h]; rfl)]; exact one_Neg t ht w
  · rw [h, show op = ⟨#[65, 98, 115]⟩ from e.trans (by rw [h]; rfl)]; exact one_Abs t ht w
  · rw [h, show op = ⟨#[78, 111, 116]⟩ from e.trans (by rw [h]; rfl)]; exact one_Not t ht w
  · rw [h, show op = ⟨#[82, 101, 108, 117]⟩ from e.trans (by rw [h]; rfl)]; exact one_Relu t ht w
  · rw [h, show op = ⟨#[83, 113, 114, 116]⟩ from e.trans (by rw [h]; rfl)]; exact one_Sqrt t ht w
  · rw [h, show op = ⟨#[70, 108, 111, 111, 114]⟩ from e.trans (by rw [h]; rfl)]; exact one_Floor t ht w
  · rw [h, show op = ⟨#[69, 120, 112]⟩ from e.trans (by rw [h]; rfl)]; exact one_Exp t ht w
  · rw [h, show op = ⟨#[83, 105, 103, 109, 111, 105, 100]⟩ from e.trans (by rw [h]; rfl)]; exact one_Sigmoid t ht w
  · rw [h, show op = ⟨#[84, 97, 110, 104]⟩ from e.trans (by rw [h]; rfl)]; exact one_Tanh t ht w

theorem two_any (op : ByteArray) (t : Int) (h : op.toList ∈ names2) (ht : isTypeP t = true) (w : World) : Calls Tryz.prog 75 #[.string op, .int .i64 t, .int .i64 1, .int .i64 1] w (Opd w (if twoOK op.toList t = true then 0 else 1)) := by
  have e : op = B op.toList := by rw [bytes_toList, B_self]
  simp only [names2, List.mem_cons, List.not_mem_nil, or_false] at h
  rcases h with h | h | h | h | h | h | h | h | h | h | h | h
  · rw [h, show op = ⟨#[65, 100, 100]⟩ from e.trans (by rw [h]; rfl)]; exact two_Add t ht w
  · rw [h, show op = ⟨#[83, 117, 98]⟩ from e.trans (by rw [h]; rfl)]; exact two_Sub t ht w
  · rw [h, show op = ⟨#[77, 117, 108]⟩ from e.trans (by rw [h]; rfl)]; exact two_Mul t ht w
  · rw [h, show op = ⟨#[68, 105, 118]⟩ from e.trans (by rw [h]; rfl)]; exact two_Div t ht w
  · rw [h, show op = ⟨#[77, 97, 120]⟩ from e.trans (by rw [h]; rfl)]; exact two_Max t ht w
  · rw [h, show op = ⟨#[77, 105, 110]⟩ from e.trans (by rw [h]; rfl)]; exact two_Min t ht w
  · rw [h, show op = ⟨#[65, 110, 100]⟩ from e.trans (by rw [h]; rfl)]; exact two_And t ht w
  · rw [h, show op = ⟨#[79, 114]⟩ from e.trans (by rw [h]; rfl)]; exact two_Or t ht w
  · rw [h, show op = ⟨#[88, 111, 114]⟩ from e.trans (by rw [h]; rfl)]; exact two_Xor t ht w
  · rw [h, show op = ⟨#[69, 113, 117, 97, 108]⟩ from e.trans (by rw [h]; rfl)]; exact two_Equal t ht w
  · rw [h, show op = ⟨#[76, 101, 115, 115]⟩ from e.trans (by rw [h]; rfl)]; exact two_Less t ht w
  · rw [h, show op = ⟨#[71, 114, 101, 97, 116, 101, 114]⟩ from e.trans (by rw [h]; rfl)]; exact two_Greater t ht w

theorem mustone_any (op : ByteArray) (t : Int) (h : op.toList ∈ names1) (ht : isTypeP t = true) (w : World) : Calls Tryz.prog 93 #[.string op, .int .i64 t] w (Ended w (mustP (oneOK op.toList t)) fun _ v _ => v = .tuple #[]) := by
  have C := hide (one_any op t h ht w)
  cases hx : oneOK op.toList t with
  | true =>
    rw [hx, if_pos rfl] at C
    clear hx h ht
    go_enter Tryz.func93, Tryz.ntmps93
    go_wp2_with (first | (go_at_call 133; refine C.out.mono ?_; rintro e w' ⟨z, rfl, hg⟩) | (go_at_call 87; refine (must_yes _).mono ?_; rintro e w' ⟨rfl, rfl⟩))
    go_end0
    exact ⟨hg, _, rfl, rfl⟩
  | false =>
    rw [hx, if_neg (by decide)] at C
    clear hx h ht
    go_enter Tryz.func93, Tryz.ntmps93
    go_wp2_with (first | (go_at_call 133; refine C.out.mono ?_; rintro e w' ⟨z, rfl, hg⟩) | (go_at_call 87; refine (must_no _).mono ?_; rintro e w' ⟨rfl, rfl⟩))
    exact ⟨rfl, hg, rfl⟩

theorem musttwo_any (op : ByteArray) (t : Int) (h : op.toList ∈ names2) (ht : isTypeP t = true) (w : World) : Calls Tryz.prog 109 #[.string op, .int .i64 t] w (Ended w (mustP (twoOK op.toList t)) fun _ v _ => v = .tuple #[]) := by
  have C := hide (two_any op t h ht w)
  cases hx : twoOK op.toList t with
  | true =>
    rw [hx, if_pos rfl] at C
    clear hx h ht
    go_enter Tryz.func109, Tryz.ntmps109
    go_wp2_with (first | (go_at_call 75; refine C.out.mono ?_; rintro e w' ⟨z, rfl, hg⟩) | (go_at_call 87; refine (must_yes _).mono ?_; rintro e w' ⟨rfl, rfl⟩))
    go_end0
    exact ⟨hg, _, rfl, rfl⟩
  | false =>
    rw [hx, if_neg (by decide)] at C
    clear hx h ht
    go_enter Tryz.func109, Tryz.ntmps109
    go_wp2_with (first | (go_at_call 75; refine C.out.mono ?_; rintro e w' ⟨z, rfl, hg⟩) | (go_at_call 87; refine (must_no _).mono ?_; rintro e w' ⟨rfl, rfl⟩))
    exact ⟨rfl, hg, rfl⟩

end Go.Proofs.YtfladhogkhhlcaaGreatDoor

/- Lists that are laid down by a literal. -/
namespace Go.Proofs.YtfladhogkhhlcaaGreatDoor
open Go.RowKit

abbrev nilS : Sl := ⟨none, 0, 0⟩

theorem lit_isLG {α : Type} {te : TypeId} {size bytes : Nat} {f : α → List Value} (hf : ∀ a, (f a).length = size) {w : World} {B : Nat} {xs : List α} {cur : Array Value} (hb : w.heap[B]? = some (.cells cur te (0, 0))) (hc : cur.toList = xs.flatMap f) (hs : cur.size = xs.length * size) (hl : xs.length * bytes ≤ 140737488351232) (hm : xs.length ≤ 1048576) :
    IsL bytes size f w (.slice (some ⟨B, 0, none⟩) xs.length xs.length) xs := by
  refine OwnsL.isL (te := te) (base := 0) hf ?_ hl
  refine ⟨by rw [← hc, Array.length_toList, hs], Or.inr ⟨B, xs.length, cur, rfl, Nat.zero_le _, hb, Nat.le_refl _, by simp only [maxLen]; omega, hs, ?_⟩⟩
  rw [hc, List.take_of_length_le (by rw [← hc, Array.length_toList, hs]; exact Nat.le_refl _)]

theorem ints_nil (w : World) : IsInts w (.slice none 0 0) [] := ⟨none, 0, rfl, by simp, by simp, by simp, fun _ => ⟨rfl, rfl⟩, fun h => by simp at h, fun z hz => by simp at hz⟩
end Go.Proofs.YtfladhogkhhlcaaGreatDoor

/- The same tensors, attributes and nodes: the document's answer, by the walk. -/
namespace Go.Proofs.YtfladhogkhhlcaaGreatDoor
open Go.RowKit

theorem ints_addr' {w : World} {a : Option Addr} {l c : Nat} {zs : List Int} (h : IsInts w (.slice a l c) zs) {k : Nat} (hk : k < zs.length) : ∃ b off, a = some ⟨b, off, none⟩ ∧ w.cell? ⟨b, off + k, none⟩ = some (.int .i64 (zs.getD k 0)) := by
  obtain ⟨ao, cap, e, h1, h2, h3, h4, h5, h6⟩ := h
  cases e
  obtain ⟨b, off, rfl, hc⟩ := h5 (by omega)
  exact ⟨b, off, rfl, hc k hk⟩

set_option maxRecDepth 100000 in
set_option maxHeartbeats 1600000 in
theorem sameints_eq (u v : Value) (xs : List Int) (w : World) (hu : IsInts w u xs) (hv : IsInts w v xs) :
    Calls Tryz.prog 17 #[u, v] w fun e w' => e = .returned (.bool true) ∧ w.grownBy w' none := by
  have HU := hide hu
  have HV := hide hv
  obtain ⟨ua, uc, rfl, h1, h2, h3, -⟩ := hu
  obtain ⟨va, vc, rfl, k1, k2, k3, -⟩ := hv
  go_enter Tryz.func17, Tryz.ntmps17
  go_wp2
  go_loopw [5] (fun i wr => w.grownBy wr none ∧ ∃ k : Nat, k ≤ xs.length ∧ i = .int .i64 k) (fun i _ => xs.length - (intOf i).toNat)
  case atStart => exact ⟨grown_refl _, 0, Nat.zero_le _, rfl⟩
  case round =>
    obtain ⟨hg, k, hk, rfl⟩ := hrel
    by_cases hlt : k < xs.length
    · obtain ⟨ub, uo, rfl, a0⟩ := ints_addr' (HU.out.more hg) hlt
      obtain ⟨vb, vo, rfl, b0⟩ := ints_addr' (HV.out.more hg) hlt
      obtain ⟨X, hX⟩ : ∃ X, X = xs.getD k 0 := ⟨_, rfl⟩
      rw [← hX] at a0 b0
      clear hX
      go_wp2
      go_region
      all_goals
        go_wp2
        go_roundw
        case rel => exact ⟨grown_drew hg, k + 1, by omega, by go_num⟩
        case measure => simp [intOf]; omega
    · go_wp2
      go_ret
      exact ⟨rfl, hg⟩

set_option maxRecDepth 100000 in
set_option maxHeartbeats 1600000 in
theorem sameten_eq (ty : Int) (d t d' t' : Value) (ds ts : List Int) (w : World) (hd : IsInts w d ds) (ht : IsInts w t ts) (hd' : IsInts w d' ds) (ht' : IsInts w t' ts) :
    Calls Tryz.prog 12 #[.agg #[.int .i64 ty, d, t], .agg #[.int .i64 ty, d', t']] w fun e w' => e = .returned (.bool true) ∧ w.grownBy w' none := by
  have HD := hide hd
  have HD' := hide hd'
  have HT := hide ht
  have HT' := hide ht'
  obtain ⟨da, dc, rfl, -⟩ := hd
  obtain ⟨ea, ec, rfl, -⟩ := hd'
  obtain ⟨ua, uc, rfl, h1, h2, h3, -⟩ := ht
  obtain ⟨va, vc, rfl, k1, k2, k3, -⟩ := ht'
  obtain ⟨w0, hw0⟩ : ∃ w0, w0 = (w.alloc (.cells #[.int .i64 ty, .slice da ds.length dc, .slice ua ts.length uc] 25)).alloc (.cells #[.int .i64 ty, .slice ea ds.length ec, .slice va ts.length vc] 25) := ⟨_, rfl⟩
  have g0 : w.grownBy w0 none := by rw [hw0]; exact grown_trans (grown_new _ _) (grown_new _ _)
  have hbx := two_boxes w (.cells #[.int .i64 ty, .slice da ds.length dc, .slice ua ts.length uc] 25) (.cells #[.int .i64 ty, .slice ea ds.length ec, .slice va ts.length vc] 25)
  have hbx0 := hbx
  rw [← hw0] at hbx
  have B1 : Hid (∀ wx, w0.grownBy wx none → wx.heap[w.heap.size]? = some (.cells #[.int .i64 ty, .slice da ds.length dc, .slice ua ts.length uc] 25 (0, 0))) := fun wx hg => box_kept hbx.1 hg
  have B2 : Hid (∀ wx, w0.grownBy wx none → wx.heap[w.heap.size + 1]? = some (.cells #[.int .i64 ty, .slice ea ds.length ec, .slice va ts.length vc] 25 (0, 0))) := fun wx hg => box_kept hbx.2 hg
  obtain ⟨a0, a1, a2⟩ := ten_cells hbx0.1
  obtain ⟨b0, b1, b2⟩ := ten_cells hbx0.2
  clear hbx hbx0
  go_enter Tryz.func12, Tryz.ntmps12
  go_wp2_with fail
  rw [← hw0]
  clear hw0 a0 a1 a2 b0 b1 b2
  refine (sameints_eq _ _ ds w0 (HD.out.more g0) (HD'.out.more g0)).mono ?_
  rintro e w1 ⟨rfl, hg1⟩
  obtain ⟨a0, a1, a2⟩ := ten_cells (B1.out w1 hg1)
  obtain ⟨b0, b1, b2⟩ := ten_cells (B2.out w1 hg1)
  go_wp2_with fail
  clear a0 a1 a2 b0 b1 b2
  go_loopw [5] (fun i wr => w0.grownBy wr none ∧ ∃ k : Nat, k ≤ ts.length ∧ i = .int .i64 k) (fun i _ => ts.length - (intOf i).toNat)
  case atStart => exact ⟨hg1, 0, Nat.zero_le _, rfl⟩
  case round =>
    obtain ⟨hg, k, hk, rfl⟩ := hrel
    obtain ⟨a0, a1, a2⟩ := ten_cells (B1.out wr hg)
    obtain ⟨b0, b1, b2⟩ := ten_cells (B2.out wr hg)
    by_cases hlt : k < ts.length
    · obtain ⟨ub, uo, rfl, x0⟩ := ints_addr' (HT.out.more (grown_trans g0 hg)) hlt
      obtain ⟨vb, vo, rfl, y0⟩ := ints_addr' (HT'.out.more (grown_trans g0 hg)) hlt
      obtain ⟨X, hX⟩ : ∃ X, X = ts.getD k 0 := ⟨_, rfl⟩
      rw [← hX] at x0 y0
      clear hX
      go_wp2
      go_region
      all_goals
        go_wp2
        go_roundw
        case rel => exact ⟨grown_drew hg, k + 1, by omega, by go_num⟩
        case measure => simp [intOf]; omega
    · go_wp2
      go_ret
      exact ⟨rfl, grown_trans g0 hg⟩

end Go.Proofs.YtfladhogkhhlcaaGreatDoor
