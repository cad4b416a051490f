/- What infer answers, in plain functions: errors and lists; no program stands here. -/
import Derived.Test.YteigfipgmghgmaaGreatDoorGBase
import Derived.Test.YteigfipgmghgmaaGreatDoorNReads
import Derived.Test.YteigfipgmghgmaaGreatDoorSBc
namespace Go.Proofs.YteigfipgmghgmaaGreatDoor

/-- An answer, or the number of an error. -/
abbrev R := Except Int

def mustP (b : Bool) : R Unit := if b = true then .ok () else .error 4
def stopP (e : Int) : R Unit := if e = 0 then .ok () else .error e
def wholeP (x : Int) : Int := if (if x < -1073741824 then -1073741824 else x) < 1073741824 then (if x < -1073741824 then -1073741824 else x) else 1073741824
def isTypeP (t : Int) : Bool := t == 1 || t == 6 || t == 7 || t == 9
def typP (t : Int) : R Unit := if isTypeP t = true then .ok () else .error 5
def countP (zs : List Int) : R Int := if cntE zs = 0 then .ok (prod zs) else .error (cntE zs)
def spreadP (a b : List Int) : R (List Int) := if bcE a b = 0 then .ok (bcR a b) else .error (bcE a b)
def fromEndP (x : Int) (n : Nat) : Int := if x < 0 then x + n else x
def axisO (a : Int) (rank : Nat) : Option Nat := if fromEndP a rank < 0 then none else if (rank : Int) ≤ fromEndP a rank then none else some (fromEndP a rank).toNat
def axisP (a : Int) (rank : Nat) : R Nat := match axisO a rank with
  | some i => .ok i
  | none => .error 4
/-- Which of the dimensions are among the axes. -/
def axesO (rank : Nat) : List Int → List Bool → Option (List Bool)
  | [], is => some is
  | a :: l, is => match axisO a rank with
    | none => none
    | some i => if is.getD i false = true then none else axesO rank l (is.set i true)
def axesP (l : List Int) (rank : Nat) : R (List Bool) := match axesO rank l (List.replicate rank false) with
  | some is => .ok is
  | none => .error 4
def boundedP (x : Int) (d : Nat) : Int := if (if fromEndP x d < 0 then 0 else fromEndP x d) < d then (if fromEndP x d < 0 then 0 else fromEndP x d) else d
def upToP (n : Nat) : List Int := (List.range n).map Int.ofNat
def isOnP (x : Int) : R Bool := if x = 0 then .ok false else if x = 1 then .ok true else .error 4

/-- A node's attributes with what their lists hold. -/
structure At where
  op : ByteArray
  xs : List Atr
  cs : List Cont

def At.int (n : At) (nm : ByteArray) (z : Int) : Int := intV n.xs nm z
def At.ints (n : At) (nm : ByteArray) (zs : List Int) : List Int := intsV n.xs n.cs nm zs

def permP (n : At) (rank : Nat) : List Int := n.ints ⟨#[112, 101, 114, 109]⟩ (upToP rank).reverse
def alongP (n : At) (rank : Nat) : List Int :=
  if n.op.toList = [65, 114, 103, 77, 97, 120] then [n.int ⟨#[97, 120, 105, 115]⟩ 0] else if n.op.toList = [83, 111, 102, 116, 109, 97, 120] then [n.int ⟨#[97, 120, 105, 115]⟩ (-1)] else n.ints ⟨#[97, 120, 101, 115]⟩ (upToP rank)

/-- The dims without the axes that go, or with 1 for them. -/
def keptL (keep : Bool) : List Int → List Bool → List Int
  | d :: l, g :: gs => if g = false then d :: keptL keep l gs else if keep = true then 1 :: keptL keep l gs else keptL keep l gs
  | _, _ => []
def reducedP (n : At) (x : List Int) : R (List Int) := do
  let keep ← isOnP (n.int ⟨#[107, 101, 101, 112, 100, 105, 109, 115]⟩ 1)
  let gone ← axesP (alongP n x.length) x.length
  return keptL keep x gone

/-- What is known of a shape, number by number: where the open one is, the product, the dims. -/
def shapeP (x : List Int) (count : Int) : List Int → Nat → Option Nat → Int → List Int → R (Option Nat × Int × List Int)
  | [], _, left, known, dims => .ok (left, known, dims)
  | d :: l, i, left, known, dims => do
    let (left', d') ← (if d = -1 then (if left = none then .ok (some i, 1) else .error 4) else if d = 0 then (if i < x.length then .ok (left, x.getD i 0) else .error 4) else .ok (left, d) : R (Option Nat × Int))
    mustP (decide (1 ≤ d' ∧ d' ≤ count))
    mustP (decide (known * d' ≤ count))
    shapeP x count l (i + 1) left' (known * d') (dims ++ [d'])
def reshapedP (x shape : List Int) : R (List Int) := do
  let count ← countP x
  let (left, known, dims) ← shapeP x count shape 0 none 1 []
  mustP (decide (count % known = 0 ∧ (left ≠ none ∨ known = count)))
  return (match left with
    | some j => dims.set j (count / known)
    | none => dims)

def permL (x : List Int) : List Int → R (List Int)
  | [] => .ok []
  | p :: l => if 0 ≤ p then (permL x l).map (x.getD p.toNat 0 :: ·) else .error 4
def transposedP (n : At) (x : List Int) : R (List Int) := do
  mustP (decide ((permP n x.length).length = x.length))
  let _ ← axesP (permP n x.length) x.length
  permL x (permP n x.length)

/-- Are all dims but that of the axis alike? -/
def likeP (dims : List Int) (axis : Nat) (y : List Int) : Bool := (List.range y.length).all (fun i => i == axis || y.getD i 0 == dims.getD i 0)
def joinL (axis : Nat) : List (List Int) → List Int → R (List Int)
  | [], dims => .ok dims
  | y :: l, dims => do
    mustP (decide (y.length = dims.length))
    mustP (likeP dims axis y)
    joinL axis l (dims.set axis (dims.getD axis 0 + y.getD axis 0))
def joinedP (n : At) (x : List Int) (ys : List (List Int)) : R (List Int) := do
  let axis ← axisP (n.int ⟨#[97, 120, 105, 115]⟩ 0) x.length
  joinL axis ys x

def sliceL (x : List Int) : List Int → List Int → List Int → List Int → R (List Int)
  | a :: al, s :: ss, e :: es, dims => do
    let axis ← axisP a x.length
    mustP (decide (boundedP s (x.getD axis 0).toNat < boundedP e (x.getD axis 0).toNat))
    sliceL x al ss es (dims.set axis (boundedP e (x.getD axis 0).toNat - boundedP s (x.getD axis 0).toNat))
  | _, _, _, dims => .ok dims
def slicedP (n : At) (x : List Int) : R (List Int) := do
  let starts := n.ints ⟨#[115, 116, 97, 114, 116, 115]⟩ []
  let ends := n.ints ⟨#[101, 110, 100, 115]⟩ []
  let axes := n.ints ⟨#[97, 120, 101, 115]⟩ (upToP starts.length)
  mustP (decide (starts.length = ends.length ∧ starts.length = axes.length))
  let _ ← axesP axes x.length
  sliceL x axes starts ends x

def padL (r : Nat) : List Int → Nat → List Int → R (List Int)
  | [], _, dims => .ok dims
  | p :: l, i, dims => do
    mustP (decide (0 ≤ p ∧ p ≤ 65536))
    padL r l (i + 1) (dims.set (i % r) (dims.getD (i % r) 0 + p))
def paddedP (x pads : List Int) : R (List Int) := do
  mustP (decide (pads.length = 2 * x.length))
  padL x.length pads 0 x

def squeezeL : List Int → List Bool → R (List Int)
  | d :: l, g :: gs => if g = true then (if d = 1 then squeezeL l gs else .error 4) else (squeezeL l gs).map (d :: ·)
  | _, _ => .ok []
def squeezedP (x axes : List Int) : R (List Int) := do
  let gone ← axesP axes x.length
  squeezeL x gone

def unsqL : List Bool → List Int → List Int
  | [], _ => []
  | true :: l, x => 1 :: unsqL l x
  | false :: l, x => x.getD 0 0 :: unsqL l x.tail
def unsqueezedP (x axes : List Int) : R (List Int) := do
  let isNew ← axesP axes (x.length + axes.length)
  return unsqL isNew x

def flattenedP (n : At) (x : List Int) : R (List Int) := do
  let axis := fromEndP (n.int ⟨#[97, 120, 105, 115]⟩ 1) x.length
  mustP (decide (0 ≤ axis ∧ axis ≤ x.length))
  let a ← countP (x.take axis.toNat)
  let b ← countP (x.drop axis.toNat)
  return [a, b]

def productP (x y : List Int) : R (List Int) := do
  mustP (decide (2 ≤ x.length ∧ 2 ≤ y.length))
  mustP (x.getD (x.length - 1) 0 == y.getD (y.length - 2) 0)
  let s ← spreadP (x.take (x.length - 2)) (y.take (y.length - 2))
  return s ++ [x.getD (x.length - 2) 0, y.getD (y.length - 1) 0]
def turnedP (x : List Int) (t : Int) : R (List Int) := do
  mustP (decide (x.length = 2))
  let on ← isOnP t
  return if on = true then [x.getD 1 0, x.getD 0 0] else x
def gemmP (n : At) (x y : List Int) (z : Option (List Int)) : R (List Int) := do
  let a ← turnedP x (n.int ⟨#[116, 114, 97, 110, 115, 65]⟩ 0)
  let b ← turnedP y (n.int ⟨#[116, 114, 97, 110, 115, 66]⟩ 0)
  let dims ← productP a b
  match z with
  | none => return dims
  | some c => do
    let s ← spreadP dims c
    mustP (decide (s = dims))
    return dims
def normalizedP (x : List Int) (ys : List (List Int)) : R (List Int) := do
  mustP (decide (2 ≤ x.length))
  mustP (ys.all (fun y => y == (x.drop 1).take 1))
  return x

def withinP (l : List Int) (many : Nat) (least : Int) : R (List Int) := do
  mustP (decide (l.length = many))
  mustP (l.all (fun x => decide (least ≤ x ∧ x ≤ 100)))
  return l
def padsP (n : At) : R (List Int) := withinP (n.ints ⟨#[112, 97, 100, 115]⟩ [0, 0, 0, 0]) 4 0
def placesP (n : At) (x kernel : List Int) (along : Nat) : R Int := do
  let stride ← withinP (n.ints ⟨#[115, 116, 114, 105, 100, 101, 115]⟩ [1, 1]) 2 1
  let dilation ← withinP (n.ints ⟨#[100, 105, 108, 97, 116, 105, 111, 110, 115]⟩ [1, 1]) 2 1
  let pads ← padsP n
  let rest := x.getD (2 + along) 0 + pads.getD along 0 + pads.getD (2 + along) 0 - dilation.getD along 0 * (kernel.getD along 0 - 1) - 1
  mustP (decide (0 ≤ rest))
  return rest / stride.getD along 0 + 1
def convolvedP (n : At) (x w : List Int) (z : Option (List Int)) : R (List Int) := do
  mustP (decide (x.length = 4 ∧ w.length = 4))
  mustP (match z with
    | none => true
    | some c => decide (c.length = 1 ∧ c.getD 0 0 = w.getD 0 0))
  let group := n.int ⟨#[103, 114, 111, 117, 112]⟩ 1
  mustP (decide (1 ≤ group))
  mustP (decide (x.getD 1 0 % group = 0 ∧ w.getD 0 0 % group = 0 ∧ x.getD 1 0 / group = w.getD 1 0))
  let a ← placesP n x [w.getD 2 0, w.getD 3 0] 0
  let b ← placesP n x [w.getD 2 0, w.getD 3 0] 1
  return [x.getD 0 0, w.getD 0 0, a, b]
def pooledP (n : At) (x : List Int) : R (List Int) := do
  mustP (decide (x.length = 4))
  let kernel ← withinP (n.ints ⟨#[107, 101, 114, 110, 101, 108, 95, 115, 104, 97, 112, 101]⟩ []) 2 1
  let pads ← padsP n
  mustP ((List.range 4).all (fun i => decide (pads.getD i 0 < kernel.getD (i % 2) 0)))
  let a ← placesP n x kernel 0
  let b ← placesP n x kernel 1
  return [x.getD 0 0, x.getD 1 0, a, b]
end Go.Proofs.YteigfipgmghgmaaGreatDoor
