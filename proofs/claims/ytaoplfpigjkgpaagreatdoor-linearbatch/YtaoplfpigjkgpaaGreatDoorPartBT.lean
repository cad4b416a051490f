/- Joined texts: LLBatS. -/
import Derived.Test.YtaoplfpigjkgpaaGreatDoorPartBR
import Derived.Test.YtaoplfpigjkgpaaGreatDoorPartBS
import Derived.Deep.RegionHeld3
namespace Go.Proofs.YtaoplfpigjkgpaaGreatDoor

open Go.RowKit

def oa0 : Oper := { dst := some 137, op := Op.load 25 (Operand.tmp 7), type := 25, pos := "law.go:177", after := #[], guard := none }

def oa1 : Oper := { dst := some 138, op := Op.fieldAddr 32 (Operand.tmp 3) 0, type := 0, pos := "law.go:177", after := #[], guard := none }

def oa2 : Oper := { dst := some 139, op := Op.load 3 (Operand.tmp 138), type := 3, pos := "law.go:177", after := #[{ on := 1, ground := Ground.data }], guard := none }

def oa3 : Oper := { dst := some 140, op := Op.fieldAddr 32 (Operand.tmp 3) 1, type := 0, pos := "law.go:177", after := #[], guard := none }

def oa4 : Oper := { dst := some 141, op := Op.load 29 (Operand.tmp 140), type := 29, pos := "law.go:177", after := #[{ on := 3, ground := Ground.data }], guard := none }

def oa5 : Oper := { dst := some 142, op := Op.slice 29 (Operand.tmp 141) (some (Operand.const (Value.int IntKind.i64 1))) none none, type := 29, pos := "law.go:177", after := #[{ on := 4, ground := Ground.data }], guard := none }

def oa6 : Oper := { dst := some 143, op := Op.fieldAddr 32 (Operand.tmp 3) 2, type := 0, pos := "law.go:177", after := #[], guard := none }

def oa7 : Oper := { dst := some 144, op := Op.load 30 (Operand.tmp 143), type := 30, pos := "law.go:177", after := #[{ on := 6, ground := Ground.data }], guard := none }

def oa8 : Oper := { dst := some 145, op := Op.move (Operand.tmp 2), type := 3, pos := "law.go:177", after := #[], guard := none }

def oa9 : Oper := { dst := some 146, op := Op.move (Operand.tmp 10), type := 3, pos := "law.go:177", after := #[], guard := none }

def oa10 : Oper := { dst := some 147, op := Op.binOp BinOp.mul 3 (Operand.tmp 145) (Operand.tmp 146) 3, type := 3, pos := "law.go:177", after := #[{ on := 8, ground := Ground.data }, { on := 9, ground := Ground.data }], guard := none }

def oa11 : Oper := { dst := some 148, op := Op.move (Operand.tmp 2), type := 3, pos := "law.go:177", after := #[], guard := none }

def oa12 : Oper := { dst := some 149, op := Op.move (Operand.tmp 10), type := 3, pos := "law.go:177", after := #[], guard := none }

def oa13 : Oper := { dst := some 150, op := Op.binOp BinOp.mul 3 (Operand.tmp 148) (Operand.tmp 149) 3, type := 3, pos := "law.go:177", after := #[{ on := 11, ground := Ground.data }, { on := 12, ground := Ground.data }], guard := none }

def oa14 : Oper := { dst := some 151, op := Op.move (Operand.tmp 10), type := 3, pos := "law.go:177", after := #[], guard := none }

def oa15 : Oper := { dst := some 152, op := Op.binOp BinOp.add 3 (Operand.tmp 150) (Operand.tmp 151) 3, type := 3, pos := "law.go:177", after := #[{ on := 13, ground := Ground.data }, { on := 14, ground := Ground.data }], guard := none }

def oa16 : Oper := { dst := some 153, op := Op.slice 30 (Operand.tmp 144) (some (Operand.tmp 147)) (some (Operand.tmp 152)) none, type := 30, pos := "law.go:177", after := #[{ on := 7, ground := Ground.data }, { on := 10, ground := Ground.data }, { on := 15, ground := Ground.data }], guard := none }

def oa17 : Oper := { dst := some 154, op := Op.build 32 #[(0, Operand.tmp 139), (1, Operand.tmp 142), (2, Operand.tmp 153)], type := 32, pos := "law.go:177", after := #[{ on := 2, ground := Ground.data }, { on := 5, ground := Ground.data }, { on := 16, ground := Ground.data }], guard := none }

def oa18 : Oper := { dst := some 155, op := Op.fieldAddr 32 (Operand.tmp 4) 0, type := 0, pos := "law.go:177", after := #[], guard := none }

def oa19 : Oper := { dst := some 156, op := Op.load 3 (Operand.tmp 155), type := 3, pos := "law.go:177", after := #[{ on := 18, ground := Ground.data }], guard := none }

def oa20 : Oper := { dst := some 157, op := Op.fieldAddr 32 (Operand.tmp 4) 1, type := 0, pos := "law.go:177", after := #[], guard := none }

def oa21 : Oper := { dst := some 158, op := Op.load 29 (Operand.tmp 157), type := 29, pos := "law.go:177", after := #[{ on := 20, ground := Ground.data }], guard := none }

def oa22 : Oper := { dst := some 159, op := Op.slice 29 (Operand.tmp 158) (some (Operand.const (Value.int IntKind.i64 1))) none none, type := 29, pos := "law.go:177", after := #[{ on := 21, ground := Ground.data }], guard := none }

def oa23 : Oper := { dst := some 160, op := Op.fieldAddr 32 (Operand.tmp 4) 2, type := 0, pos := "law.go:177", after := #[], guard := none }

def oa24 : Oper := { dst := some 161, op := Op.load 30 (Operand.tmp 160), type := 30, pos := "law.go:177", after := #[{ on := 23, ground := Ground.data }], guard := none }

def oa25 : Oper := { dst := some 162, op := Op.move (Operand.tmp 2), type := 3, pos := "law.go:177", after := #[], guard := none }

def oa26 : Oper := { dst := some 163, op := Op.move (Operand.tmp 11), type := 3, pos := "law.go:177", after := #[], guard := none }

def oa27 : Oper := { dst := some 164, op := Op.binOp BinOp.mul 3 (Operand.tmp 162) (Operand.tmp 163) 3, type := 3, pos := "law.go:177", after := #[{ on := 25, ground := Ground.data }, { on := 26, ground := Ground.data }], guard := none }

def oa28 : Oper := { dst := some 165, op := Op.move (Operand.tmp 2), type := 3, pos := "law.go:177", after := #[], guard := none }

def oa29 : Oper := { dst := some 166, op := Op.move (Operand.tmp 11), type := 3, pos := "law.go:177", after := #[], guard := none }

def oa30 : Oper := { dst := some 167, op := Op.binOp BinOp.mul 3 (Operand.tmp 165) (Operand.tmp 166) 3, type := 3, pos := "law.go:177", after := #[{ on := 28, ground := Ground.data }, { on := 29, ground := Ground.data }], guard := none }

def oa31 : Oper := { dst := some 168, op := Op.move (Operand.tmp 11), type := 3, pos := "law.go:177", after := #[], guard := none }

def oa32 : Oper := { dst := some 169, op := Op.binOp BinOp.add 3 (Operand.tmp 167) (Operand.tmp 168) 3, type := 3, pos := "law.go:177", after := #[{ on := 30, ground := Ground.data }, { on := 31, ground := Ground.data }], guard := none }

def oa33 : Oper := { dst := some 170, op := Op.slice 30 (Operand.tmp 161) (some (Operand.tmp 164)) (some (Operand.tmp 169)) none, type := 30, pos := "law.go:177", after := #[{ on := 24, ground := Ground.data }, { on := 27, ground := Ground.data }, { on := 32, ground := Ground.data }], guard := none }

def oa34 : Oper := { dst := some 171, op := Op.build 32 #[(0, Operand.tmp 156), (1, Operand.tmp 159), (2, Operand.tmp 170)], type := 32, pos := "law.go:177", after := #[{ on := 19, ground := Ground.data }, { on := 22, ground := Ground.data }, { on := 33, ground := Ground.data }], guard := none }

def oa35 : Oper := { dst := some 172, op := Op.buildSlice 26 2 #[(0, Operand.tmp 154), (1, Operand.tmp 171)], type := 26, pos := "law.go:177", after := #[{ on := 17, ground := Ground.data }, { on := 34, ground := Ground.data }], guard := none }

def oa36 : Oper := { dst := some 173, op := Op.call { callee := Callee.value (Operand.func 16), args := #[Operand.tmp 137, Operand.tmp 172], argTypes := #[25, 26] }, type := 34, pos := "law.go:177", after := #[{ on := 0, ground := Ground.data }, { on := 35, ground := Ground.data }], guard := none }

def oa37 : Oper := { dst := some 136, op := Op.move (Operand.tmp 173), type := 34, pos := "law.go:177", after := #[{ on := 36, ground := Ground.data }], guard := none }

def oa38 : Oper := { dst := some 174, op := Op.extract (Operand.tmp 136) 0, type := 32, pos := "law.go:177", after := #[{ on := 37, ground := Ground.data }], guard := none }

def oa39 : Oper := { dst := some 175, op := Op.extract (Operand.tmp 136) 1, type := 33, pos := "law.go:177", after := #[{ on := 37, ground := Ground.data }, { on := 41, ground := Ground.gcOnly Departure.lateStores }], guard := none }

def oa40 : Oper := { dst := some 13, op := Op.alloc 32, type := 0, pos := "law.go:177", after := #[], guard := none }

def oa41 : Oper := { dst := none, op := Op.store 32 (Operand.tmp 13) (Operand.tmp 174), type := 0, pos := "law.go:177", after := #[{ on := 40, ground := Ground.data }, { on := 38, ground := Ground.data }, { on := 36, ground := Ground.chain }, { on := 0, ground := Ground.phase }, { on := 1, ground := Ground.phase }, { on := 2, ground := Ground.phase }, { on := 3, ground := Ground.phase }, { on := 4, ground := Ground.phase }, { on := 5, ground := Ground.phase }, { on := 6, ground := Ground.phase }, { on := 7, ground := Ground.phase }, { on := 8, ground := Ground.phase }, { on := 9, ground := Ground.phase }, { on := 10, ground := Ground.phase }, { on := 11, ground := Ground.phase }, { on := 12, ground := Ground.phase }, { on := 13, ground := Ground.phase }, { on := 14, ground := Ground.phase }, { on := 15, ground := Ground.phase }, { on := 16, ground := Ground.phase }, { on := 17, ground := Ground.phase }, { on := 18, ground := Ground.phase }, { on := 19, ground := Ground.phase }, { on := 20, ground := Ground.phase }, { on := 21, ground := Ground.phase }, { on := 22, ground := Ground.phase }, { on := 23, ground := Ground.phase }, { on := 24, ground := Ground.phase }, { on := 25, ground := Ground.phase }, { on := 26, ground := Ground.phase }, { on := 27, ground := Ground.phase }, { on := 28, ground := Ground.phase }, { on := 29, ground := Ground.phase }, { on := 30, ground := Ground.phase }, { on := 31, ground := Ground.phase }, { on := 32, ground := Ground.phase }, { on := 33, ground := Ground.phase }, { on := 34, ground := Ground.phase }, { on := 35, ground := Ground.phase }, { on := 36, ground := Ground.phase }, { on := 37, ground := Ground.phase }, { on := 38, ground := Ground.phase }, { on := 39, ground := Ground.textOnly Departure.lateStores }, { on := 40, ground := Ground.phase }], guard := none }

def oa42 : Oper := { dst := some 14, op := Op.assign (Operand.tmp 175), type := 33, pos := "law.go:177", after := #[{ on := 39, ground := Ground.data }, { on := 41, ground := Ground.chain }, { on := 0, ground := Ground.phase }, { on := 1, ground := Ground.phase }, { on := 2, ground := Ground.phase }, { on := 3, ground := Ground.phase }, { on := 4, ground := Ground.phase }, { on := 5, ground := Ground.phase }, { on := 6, ground := Ground.phase }, { on := 7, ground := Ground.phase }, { on := 8, ground := Ground.phase }, { on := 9, ground := Ground.phase }, { on := 10, ground := Ground.phase }, { on := 11, ground := Ground.phase }, { on := 12, ground := Ground.phase }, { on := 13, ground := Ground.phase }, { on := 14, ground := Ground.phase }, { on := 15, ground := Ground.phase }, { on := 16, ground := Ground.phase }, { on := 17, ground := Ground.phase }, { on := 18, ground := Ground.phase }, { on := 19, ground := Ground.phase }, { on := 20, ground := Ground.phase }, { on := 21, ground := Ground.phase }, { on := 22, ground := Ground.phase }, { on := 23, ground := Ground.phase }, { on := 24, ground := Ground.phase }, { on := 25, ground := Ground.phase }, { on := 26, ground := Ground.phase }, { on := 27, ground := Ground.phase }, { on := 28, ground := Ground.phase }, { on := 29, ground := Ground.phase }, { on := 30, ground := Ground.phase }, { on := 31, ground := Ground.phase }, { on := 32, ground := Ground.phase }, { on := 33, ground := Ground.phase }, { on := 34, ground := Ground.phase }, { on := 35, ground := Ground.phase }, { on := 36, ground := Ground.phase }, { on := 37, ground := Ground.phase }, { on := 38, ground := Ground.phase }, { on := 39, ground := Ground.phase }, { on := 40, ground := Ground.phase }, { on := 41, ground := Ground.phase }], guard := none }

def ops15 : Array Oper := #[oa0, oa1, oa2, oa3, oa4, oa5, oa6, oa7, oa8, oa9, oa10, oa11, oa12, oa13, oa14, oa15, oa16, oa17, oa18, oa19, oa20, oa21, oa22, oa23, oa24, oa25, oa26, oa27, oa28, oa29, oa30, oa31, oa32, oa33, oa34, oa35, oa36, oa37, oa38, oa39, oa40, oa41, oa42]

def ob0 : Oper := { dst := some 176, op := Op.move (Operand.tmp 14), type := 33, pos := "law.go:178", after := #[], guard := none }

def ob1 : Oper := { dst := some 177, op := Op.binOp BinOp.eql 33 (Operand.tmp 176) (Operand.const (Value.int IntKind.i64 0)) 33, type := 4, pos := "law.go:178", after := #[{ on := 0, ground := Ground.data }], guard := none }

def ob2 : Oper := { dst := some 178, op := Op.move (Operand.tmp 177), type := 4, pos := "law.go:178", after := #[{ on := 1, ground := Ground.data }], guard := none }

def ob3 : Oper := { dst := some 179, op := Op.load 32 (Operand.tmp 13), type := 32, pos := "law.go:178", after := #[{ on := 2, ground := Ground.guard }], guard := some (2, true) }

def ob4 : Oper := { dst := some 180, op := Op.fieldAddr 32 (Operand.tmp 3) 1, type := 0, pos := "law.go:178", after := #[{ on := 2, ground := Ground.guard }], guard := some (2, true) }

def ob5 : Oper := { dst := some 181, op := Op.load 29 (Operand.tmp 180), type := 29, pos := "law.go:178", after := #[{ on := 4, ground := Ground.data }, { on := 2, ground := Ground.guard }], guard := some (2, true) }

def ob6 : Oper := { dst := some 182, op := Op.indexAddr 29 (Operand.tmp 181) (Operand.const (Value.int IntKind.i64 1)), type := 0, pos := "law.go:178", after := #[{ on := 5, ground := Ground.data }, { on := 2, ground := Ground.guard }], guard := some (2, true) }

def ob7 : Oper := { dst := some 183, op := Op.load 3 (Operand.tmp 182), type := 3, pos := "law.go:178", after := #[{ on := 6, ground := Ground.data }, { on := 2, ground := Ground.guard }], guard := some (2, true) }

def ob8 : Oper := { dst := some 184, op := Op.fieldAddr 32 (Operand.tmp 4) 1, type := 0, pos := "law.go:178", after := #[{ on := 2, ground := Ground.guard }], guard := some (2, true) }

def ob9 : Oper := { dst := some 185, op := Op.load 29 (Operand.tmp 184), type := 29, pos := "law.go:178", after := #[{ on := 8, ground := Ground.data }, { on := 2, ground := Ground.guard }], guard := some (2, true) }

def ob10 : Oper := { dst := some 186, op := Op.indexAddr 29 (Operand.tmp 185) (Operand.const (Value.int IntKind.i64 2)), type := 0, pos := "law.go:178", after := #[{ on := 9, ground := Ground.data }, { on := 2, ground := Ground.guard }], guard := some (2, true) }

def ob11 : Oper := { dst := some 187, op := Op.load 3 (Operand.tmp 186), type := 3, pos := "law.go:178", after := #[{ on := 10, ground := Ground.data }, { on := 2, ground := Ground.guard }], guard := some (2, true) }

def ob12 : Oper := { dst := some 188, op := Op.buildSlice 29 2 #[(0, Operand.tmp 183), (1, Operand.tmp 187)], type := 29, pos := "law.go:178", after := #[{ on := 7, ground := Ground.data }, { on := 11, ground := Ground.data }, { on := 2, ground := Ground.guard }], guard := some (2, true) }

def ob13 : Oper := { dst := some 189, op := Op.fieldAddr 32 (Operand.tmp 8) 2, type := 0, pos := "law.go:178", after := #[{ on := 2, ground := Ground.guard }], guard := some (2, true) }

def ob14 : Oper := { dst := some 190, op := Op.load 30 (Operand.tmp 189), type := 30, pos := "law.go:178", after := #[{ on := 13, ground := Ground.data }, { on := 2, ground := Ground.guard }], guard := some (2, true) }

def ob15 : Oper := { dst := some 191, op := Op.move (Operand.tmp 2), type := 3, pos := "law.go:178", after := #[{ on := 2, ground := Ground.guard }], guard := some (2, true) }

def ob16 : Oper := { dst := some 192, op := Op.move (Operand.tmp 12), type := 3, pos := "law.go:178", after := #[{ on := 2, ground := Ground.guard }], guard := some (2, true) }

def ob17 : Oper := { dst := some 193, op := Op.binOp BinOp.mul 3 (Operand.tmp 191) (Operand.tmp 192) 3, type := 3, pos := "law.go:178", after := #[{ on := 15, ground := Ground.data }, { on := 16, ground := Ground.data }, { on := 2, ground := Ground.guard }], guard := some (2, true) }

def ob18 : Oper := { dst := some 194, op := Op.move (Operand.tmp 2), type := 3, pos := "law.go:178", after := #[{ on := 2, ground := Ground.guard }], guard := some (2, true) }

def ob19 : Oper := { dst := some 195, op := Op.move (Operand.tmp 12), type := 3, pos := "law.go:178", after := #[{ on := 2, ground := Ground.guard }], guard := some (2, true) }

def ob20 : Oper := { dst := some 196, op := Op.binOp BinOp.mul 3 (Operand.tmp 194) (Operand.tmp 195) 3, type := 3, pos := "law.go:178", after := #[{ on := 18, ground := Ground.data }, { on := 19, ground := Ground.data }, { on := 2, ground := Ground.guard }], guard := some (2, true) }

def ob21 : Oper := { dst := some 197, op := Op.move (Operand.tmp 12), type := 3, pos := "law.go:178", after := #[{ on := 2, ground := Ground.guard }], guard := some (2, true) }

def ob22 : Oper := { dst := some 198, op := Op.binOp BinOp.add 3 (Operand.tmp 196) (Operand.tmp 197) 3, type := 3, pos := "law.go:178", after := #[{ on := 20, ground := Ground.data }, { on := 21, ground := Ground.data }, { on := 2, ground := Ground.guard }], guard := some (2, true) }

def ob23 : Oper := { dst := some 199, op := Op.slice 30 (Operand.tmp 190) (some (Operand.tmp 193)) (some (Operand.tmp 198)) none, type := 30, pos := "law.go:178", after := #[{ on := 14, ground := Ground.data }, { on := 17, ground := Ground.data }, { on := 22, ground := Ground.data }, { on := 2, ground := Ground.guard }], guard := some (2, true) }

def ob24 : Oper := { dst := some 200, op := Op.build 32 #[(0, Operand.const (Value.int IntKind.i64 1)), (1, Operand.tmp 188), (2, Operand.tmp 199)], type := 32, pos := "law.go:178", after := #[{ on := 12, ground := Ground.data }, { on := 23, ground := Ground.data }, { on := 2, ground := Ground.guard }], guard := some (2, true) }

def ob25 : Oper := { dst := some 201, op := Op.call { callee := Callee.value (Operand.func 12), args := #[Operand.tmp 179, Operand.tmp 200], argTypes := #[32, 32] }, type := 4, pos := "law.go:178", after := #[{ on := 3, ground := Ground.data }, { on := 24, ground := Ground.data }, { on := 2, ground := Ground.chain }, { on := 2, ground := Ground.guard }], guard := some (2, true) }

def ob26 : Oper := { dst := some 202, op := Op.pick (Operand.tmp 178) (Operand.tmp 201) (Operand.const (Value.bool false)), type := 4, pos := "law.go:178", after := #[{ on := 2, ground := Ground.data }, { on := 25, ground := Ground.data }], guard := none }

def ob27 : Oper := { dst := some 203, op := Op.move (Operand.tmp 202), type := 4, pos := "law.go:178", after := #[{ on := 26, ground := Ground.data }, { on := 25, ground := Ground.chain }], guard := none }

def ob28 : Oper := { dst := some 204, op := Op.call { callee := Callee.value (Operand.func 15), args := #[], argTypes := #[] }, type := 4, pos := "law.go:178", after := #[{ on := 27, ground := Ground.chain }, { on := 27, ground := Ground.guard }], guard := some (27, true) }

def ob29 : Oper := { dst := some 205, op := Op.pick (Operand.tmp 203) (Operand.tmp 204) (Operand.const (Value.bool false)), type := 4, pos := "law.go:178", after := #[{ on := 27, ground := Ground.data }, { on := 28, ground := Ground.data }], guard := none }

def ob30 : Oper := { dst := some 6, op := Op.assign (Operand.tmp 205), type := 4, pos := "law.go:178", after := #[{ on := 29, ground := Ground.data }, { on := 28, ground := Ground.chain }, { on := 0, ground := Ground.phase }, { on := 1, ground := Ground.phase }, { on := 2, ground := Ground.phase }, { on := 3, ground := Ground.phase }, { on := 4, ground := Ground.phase }, { on := 5, ground := Ground.phase }, { on := 6, ground := Ground.phase }, { on := 7, ground := Ground.phase }, { on := 8, ground := Ground.phase }, { on := 9, ground := Ground.phase }, { on := 10, ground := Ground.phase }, { on := 11, ground := Ground.phase }, { on := 12, ground := Ground.phase }, { on := 13, ground := Ground.phase }, { on := 14, ground := Ground.phase }, { on := 15, ground := Ground.phase }, { on := 16, ground := Ground.phase }, { on := 17, ground := Ground.phase }, { on := 18, ground := Ground.phase }, { on := 19, ground := Ground.phase }, { on := 20, ground := Ground.phase }, { on := 21, ground := Ground.phase }, { on := 22, ground := Ground.phase }, { on := 23, ground := Ground.phase }, { on := 24, ground := Ground.phase }, { on := 25, ground := Ground.phase }, { on := 26, ground := Ground.phase }, { on := 27, ground := Ground.phase }, { on := 28, ground := Ground.phase }, { on := 29, ground := Ground.phase }], guard := none }

def ops16 : Array Oper := #[ob0, ob1, ob2, ob3, ob4, ob5, ob6, ob7, ob8, ob9, ob10, ob11, ob12, ob13, ob14, ob15, ob16, ob17, ob18, ob19, ob20, ob21, ob22, ob23, ob24, ob25, ob26, ob27, ob28, ob29, ob30]

set_option maxRecDepth 100000 in
set_option maxHeartbeats 16000000 in
theorem lb15 {Qx : Exit → Act → World → Prop} (hQ : ∀ c a a' w, a.defers = a'.defers → Qx (.panic c) a w → Qx (.panic c) a' w) (X Y Nb NS : Nat) (xb xo Cx ub uo NP QP C1 P yb yo Cy vb vo NQ QQ C3 Q q a b : Nat) (ZR : List Int) (b0 : Act) (g0 : Nat → Value) (F0 : Fr b0 206 g0) (p2 W : World) (gW : p2.grownBy W none)
    (s2 : g0 2 = .int .i64 (q : Int)) (s3 : g0 3 = .pointer (some ⟨X, 0, none⟩)) (s4 : g0 4 = .pointer (some ⟨Y, 0, none⟩)) (s7 : g0 7 = .pointer (some ⟨Nb, 0, none⟩)) (s10 : g0 10 = .int .i64 (P : Int)) (s11 : g0 11 = .int .i64 (Q : Int))
    (x0 : p2.cell? ⟨X, 0, none⟩ = some (.int .i64 1)) (x1 : p2.cell? ⟨X, 1, none⟩ = some (.slice (some ⟨xb, xo, none⟩) 3 (1 + Cx))) (x2 : p2.cell? ⟨X, 2, none⟩ = some (.slice (some ⟨ub, uo, none⟩) NP (QP + C1)))
    (y0 : p2.cell? ⟨Y, 0, none⟩ = some (.int .i64 1)) (y1 : p2.cell? ⟨Y, 1, none⟩ = some (.slice (some ⟨yb, yo, none⟩) 3 (1 + Cy))) (y2 : p2.cell? ⟨Y, 2, none⟩ = some (.slice (some ⟨vb, vo, none⟩) NQ (QQ + C3)))
    (n0 : p2.cell? ⟨Nb, 0, none⟩ = some (.string ⟨#[77, 97, 116, 77, 117, 108]⟩)) (n1 : p2.cell? ⟨Nb, 1, none⟩ = some (.string ⟨#[]⟩)) (n2 : p2.cell? ⟨Nb, 2, none⟩ = some (.slice (some ⟨NS, 0, none⟩) 2 2)) (n3 : p2.cell? ⟨Nb, 3, none⟩ = some (.string ⟨#[122]⟩)) (n4 : p2.cell? ⟨Nb, 4, none⟩ = some (.slice none 0 0))
    (wQP : Hid (IntKind.i64.wrap ((q : Int) * (P : Int)) = (QP : Int))) (aP : Hid (IntKind.i64.wrap ((QP : Int) + (P : Int)) = (QP : Int) + (P : Int))) (wQQ : Hid (IntKind.i64.wrap ((q : Int) * (Q : Int)) = (QQ : Int))) (aQ : Hid (IntKind.i64.wrap ((QQ : Int) + (Q : Int)) = (QQ : Int) + (Q : Int)))
    (cx0 : ¬ Cx = 0) (cy0 : ¬ Cy = 0)
    (sl1 : (QP : Int) ≤ (QP : Int) + (P : Int)) (sl3 : ((QP : Int) + (P : Int)).toNat = QP + P) (sl4 : (P : Int) ≤ (C1 : Int)) (sl5 : ¬ C1 = 0)
    (tl1 : (QQ : Int) ≤ (QQ : Int) + (Q : Int)) (tl3 : ((QQ : Int) + (Q : Int)).toNat = QQ + Q) (tl4 : (Q : Int) ≤ (C3 : Int)) (tl5 : ¬ C3 = 0)
    (DO2 : Hid (∀ (wx : World) (Bt : Nat), p2.grownBy wx none → wx.heap[Bt]? = some (.cells #[.int .i64 1, .slice (some ⟨xb, xo + 1, none⟩) 2 Cx, .slice (some ⟨ub, uo + QP, none⟩) P C1, .int .i64 1, .slice (some ⟨yb, yo + 1, none⟩) 2 Cy, .slice (some ⟨vb, vo + QQ, none⟩) Q C3] 32 (0, 0)) → Calls Tryz.prog 16 #[.agg #[.string ⟨#[77, 97, 116, 77, 117, 108]⟩, .string ⟨#[]⟩, .slice (some ⟨NS, 0, none⟩) 2 2, .string ⟨#[122]⟩, .slice none 0 0], .slice (some ⟨Bt, 0, none⟩) 2 2] wx fun e w' => ∃ d t : Sl, e = .returned (.tuple #[.agg #[.int .i64 1, .slice d.a d.n d.c, .slice t.a t.n t.c], .int .i64 0]) ∧ Owns w' wx.heap.size d.v [(a : Int), (b : Int)] ∧ OwnsE w' wx.heap.size t.v ZR ∧ wx.grownBy w' none))
    (fin : Hid (∀ b' w', b'.tmps.size = 206 → b'.defers = [] → (∀ j, j < 13 → b'.tmps.getD j undef = g0 j) → (∃ (B : Nat) (d t : Sl), b'.tmps.getD 13 undef = .pointer (some ⟨B, 0, none⟩) ∧ b'.tmps.getD 14 undef = .int .i64 0 ∧ w'.heap[B]? = some (.cells #[.int .i64 1, .slice d.a d.n d.c, .slice t.a t.n t.c] 32 (0, 0)) ∧ IsInts w' d.v [(a : Int), (b : Int)] ∧ IsInts w' t.v ZR ∧ p2.grownBy w' none) → Qx .normal b' w')) :
    (Code.region 15 ops15 true).wp Tryz.prog Qx b0 W := by
  refine wp_region_held_drew (S := fun w' => p2.grownBy w' none) (by kernel_rfl) (grown_drew gW) (fun hHeld => ?_)
  have F := F0
  refine tk (o := oa0) 0 (.agg #[.string ⟨#[77, 97, 116, 77, 117, 108]⟩, .string ⟨#[]⟩, .slice (some ⟨NS, 0, none⟩) 2 2, .string ⟨#[122]⟩, .slice none 0 0]) rfl rfl (by kernel_rfl) (by kernel_rfl) (by kernel_rfl) hQ F (by decide) rfl (fun f fe fc wS hSw => ?_) (by assumption) (fun z F => ?_)
  · have e0 : f (.tmp 7) = .pointer (some ⟨Nb, 0, none⟩) := (fe 7).trans s7
    have c0 := cell_still n0 hSw
    have c1 := cell_still n1 hSw
    have c2 := cell_still n2 hSw
    have c3 := cell_still n3 hSw
    have c4 := cell_still n4 hSw
    clear fe
    simp only [execOp, oa0]
    go_simp
  refine tk (o := oa1) 1 (.pointer (some ⟨X, 0, none⟩)) rfl rfl (by kernel_rfl) (by kernel_rfl) (by kernel_rfl) hQ F (by decide) rfl (fun f fe fc wS hSw => ?_) (by assumption) (fun z F => ?_)
  · have e0 : f (.tmp 3) = .pointer (some ⟨X, 0, none⟩) := (fe 3).trans s3
    clear fe
    simp only [execOp, oa1]
    go_simp
  refine tk (o := oa2) 2 (.int .i64 1) rfl rfl (by kernel_rfl) (by kernel_rfl) (by kernel_rfl) hQ F (by decide) rfl (fun f fe fc wS hSw => ?_) (by assumption) (fun z F => ?_)
  · have e0 : f (.tmp 138) = .pointer (some ⟨X, 0, none⟩) := fe 138
    have c0 := cell_still x0 hSw
    clear fe
    simp only [execOp, oa2]
    go_simp
  refine tk (o := oa3) 3 (.pointer (some ⟨X, 1, none⟩)) rfl rfl (by kernel_rfl) (by kernel_rfl) (by kernel_rfl) hQ F (by decide) rfl (fun f fe fc wS hSw => ?_) (by assumption) (fun z F => ?_)
  · have e0 : f (.tmp 3) = .pointer (some ⟨X, 0, none⟩) := (fe 3).trans s3
    clear fe
    simp only [execOp, oa3]
    go_simp
  refine tk (o := oa4) 4 (.slice (some ⟨xb, xo, none⟩) 3 (1 + Cx)) rfl rfl (by kernel_rfl) (by kernel_rfl) (by kernel_rfl) hQ F (by decide) rfl (fun f fe fc wS hSw => ?_) (by assumption) (fun z F => ?_)
  · have e0 : f (.tmp 140) = .pointer (some ⟨X, 1, none⟩) := fe 140
    have c0 := cell_still x1 hSw
    clear fe
    simp only [execOp, oa4]
    go_simp
  refine tk (o := oa5) 5 (.slice (some ⟨xb, xo + 1, none⟩) 2 Cx) rfl rfl (by kernel_rfl) (by kernel_rfl) (by kernel_rfl) hQ F (by decide) rfl (fun f fe fc wS hSw => ?_) (by assumption) (fun z F => ?_)
  · have e0 : f (.tmp 141) = .slice (some ⟨xb, xo, none⟩) 3 (1 + Cx) := fe 141
    clear fe
    simp only [execOp, oa5]
    go_simp
  refine tk (o := oa6) 6 (.pointer (some ⟨X, 2, none⟩)) rfl rfl (by kernel_rfl) (by kernel_rfl) (by kernel_rfl) hQ F (by decide) rfl (fun f fe fc wS hSw => ?_) (by assumption) (fun z F => ?_)
  · have e0 : f (.tmp 3) = .pointer (some ⟨X, 0, none⟩) := (fe 3).trans s3
    clear fe
    simp only [execOp, oa6]
    go_simp
  refine tk (o := oa7) 7 (.slice (some ⟨ub, uo, none⟩) NP (QP + C1)) rfl rfl (by kernel_rfl) (by kernel_rfl) (by kernel_rfl) hQ F (by decide) rfl (fun f fe fc wS hSw => ?_) (by assumption) (fun z F => ?_)
  · have e0 : f (.tmp 143) = .pointer (some ⟨X, 2, none⟩) := fe 143
    have c0 := cell_still x2 hSw
    clear fe
    simp only [execOp, oa7]
    go_simp
  refine tk (o := oa8) 8 (.int .i64 (q : Int)) rfl rfl (by kernel_rfl) (by kernel_rfl) (by kernel_rfl) hQ F (by decide) rfl (fun f fe fc wS hSw => ?_) (by assumption) (fun z F => ?_)
  · have e0 : f (.tmp 2) = .int .i64 (q : Int) := (fe 2).trans s2
    clear fe
    simp only [execOp, oa8]
    go_simp
  refine tk (o := oa9) 9 (.int .i64 (P : Int)) rfl rfl (by kernel_rfl) (by kernel_rfl) (by kernel_rfl) hQ F (by decide) rfl (fun f fe fc wS hSw => ?_) (by assumption) (fun z F => ?_)
  · have e0 : f (.tmp 10) = .int .i64 (P : Int) := (fe 10).trans s10
    clear fe
    simp only [execOp, oa9]
    go_simp
  refine tk (o := oa10) 10 (.int .i64 (QP : Int)) rfl rfl (by kernel_rfl) (by kernel_rfl) (by kernel_rfl) hQ F (by decide) rfl (fun f fe fc wS hSw => ?_) (by assumption) (fun z F => ?_)
  · have e0 : f (.tmp 145) = .int .i64 (q : Int) := fe 145
    have e1 : f (.tmp 146) = .int .i64 (P : Int) := fe 146
    clear fe
    simp only [execOp, oa10]
    go_simp
    try simp only [wQP.out]
  refine tk (o := oa11) 11 (.int .i64 (q : Int)) rfl rfl (by kernel_rfl) (by kernel_rfl) (by kernel_rfl) hQ F (by decide) rfl (fun f fe fc wS hSw => ?_) (by assumption) (fun z F => ?_)
  · have e0 : f (.tmp 2) = .int .i64 (q : Int) := (fe 2).trans s2
    clear fe
    simp only [execOp, oa11]
    go_simp
  refine tk (o := oa12) 12 (.int .i64 (P : Int)) rfl rfl (by kernel_rfl) (by kernel_rfl) (by kernel_rfl) hQ F (by decide) rfl (fun f fe fc wS hSw => ?_) (by assumption) (fun z F => ?_)
  · have e0 : f (.tmp 10) = .int .i64 (P : Int) := (fe 10).trans s10
    clear fe
    simp only [execOp, oa12]
    go_simp
  refine tk (o := oa13) 13 (.int .i64 (QP : Int)) rfl rfl (by kernel_rfl) (by kernel_rfl) (by kernel_rfl) hQ F (by decide) rfl (fun f fe fc wS hSw => ?_) (by assumption) (fun z F => ?_)
  · have e0 : f (.tmp 148) = .int .i64 (q : Int) := fe 148
    have e1 : f (.tmp 149) = .int .i64 (P : Int) := fe 149
    clear fe
    simp only [execOp, oa13]
    go_simp
    try simp only [wQP.out]
  refine tk (o := oa14) 14 (.int .i64 (P : Int)) rfl rfl (by kernel_rfl) (by kernel_rfl) (by kernel_rfl) hQ F (by decide) rfl (fun f fe fc wS hSw => ?_) (by assumption) (fun z F => ?_)
  · have e0 : f (.tmp 10) = .int .i64 (P : Int) := (fe 10).trans s10
    clear fe
    simp only [execOp, oa14]
    go_simp
  refine tk (o := oa15) 15 (.int .i64 ((QP : Int) + (P : Int))) rfl rfl (by kernel_rfl) (by kernel_rfl) (by kernel_rfl) hQ F (by decide) rfl (fun f fe fc wS hSw => ?_) (by assumption) (fun z F => ?_)
  · have e0 : f (.tmp 150) = .int .i64 (QP : Int) := fe 150
    have e1 : f (.tmp 151) = .int .i64 (P : Int) := fe 151
    clear fe
    simp only [execOp, oa15]
    go_simp
    try simp only [aP.out]
  refine tk (o := oa16) 16 (.slice (some ⟨ub, uo + QP, none⟩) P C1) rfl rfl (by kernel_rfl) (by kernel_rfl) (by kernel_rfl) hQ F (by decide) rfl (fun f fe fc wS hSw => ?_) (by assumption) (fun z F => ?_)
  · have e0 : f (.tmp 144) = .slice (some ⟨ub, uo, none⟩) NP (QP + C1) := fe 144
    have e1 : f (.tmp 147) = .int .i64 (QP : Int) := fe 147
    have e2 : f (.tmp 152) = .int .i64 ((QP : Int) + (P : Int)) := fe 152
    clear fe
    simp only [execOp, oa16]
    go_simp
  refine tk (o := oa17) 17 (.agg #[.int .i64 1, .slice (some ⟨xb, xo + 1, none⟩) 2 Cx, .slice (some ⟨ub, uo + QP, none⟩) P C1]) rfl rfl (by kernel_rfl) (by kernel_rfl) (by kernel_rfl) hQ F (by decide) rfl (fun f fe fc wS hSw => ?_) (by assumption) (fun z F => ?_)
  · have e0 : f (.tmp 139) = .int .i64 1 := fe 139
    have e1 : f (.tmp 142) = .slice (some ⟨xb, xo + 1, none⟩) 2 Cx := fe 142
    have e2 : f (.tmp 153) = .slice (some ⟨ub, uo + QP, none⟩) P C1 := fe 153
    clear fe
    simp only [execOp, oa17]
    go_simp
  refine tk (o := oa18) 18 (.pointer (some ⟨Y, 0, none⟩)) rfl rfl (by kernel_rfl) (by kernel_rfl) (by kernel_rfl) hQ F (by decide) rfl (fun f fe fc wS hSw => ?_) (by assumption) (fun z F => ?_)
  · have e0 : f (.tmp 4) = .pointer (some ⟨Y, 0, none⟩) := (fe 4).trans s4
    clear fe
    simp only [execOp, oa18]
    go_simp
  refine tk (o := oa19) 19 (.int .i64 1) rfl rfl (by kernel_rfl) (by kernel_rfl) (by kernel_rfl) hQ F (by decide) rfl (fun f fe fc wS hSw => ?_) (by assumption) (fun z F => ?_)
  · have e0 : f (.tmp 155) = .pointer (some ⟨Y, 0, none⟩) := fe 155
    have c0 := cell_still y0 hSw
    clear fe
    simp only [execOp, oa19]
    go_simp
  refine tk (o := oa20) 20 (.pointer (some ⟨Y, 1, none⟩)) rfl rfl (by kernel_rfl) (by kernel_rfl) (by kernel_rfl) hQ F (by decide) rfl (fun f fe fc wS hSw => ?_) (by assumption) (fun z F => ?_)
  · have e0 : f (.tmp 4) = .pointer (some ⟨Y, 0, none⟩) := (fe 4).trans s4
    clear fe
    simp only [execOp, oa20]
    go_simp
  refine tk (o := oa21) 21 (.slice (some ⟨yb, yo, none⟩) 3 (1 + Cy)) rfl rfl (by kernel_rfl) (by kernel_rfl) (by kernel_rfl) hQ F (by decide) rfl (fun f fe fc wS hSw => ?_) (by assumption) (fun z F => ?_)
  · have e0 : f (.tmp 157) = .pointer (some ⟨Y, 1, none⟩) := fe 157
    have c0 := cell_still y1 hSw
    clear fe
    simp only [execOp, oa21]
    go_simp
  refine tk (o := oa22) 22 (.slice (some ⟨yb, yo + 1, none⟩) 2 Cy) rfl rfl (by kernel_rfl) (by kernel_rfl) (by kernel_rfl) hQ F (by decide) rfl (fun f fe fc wS hSw => ?_) (by assumption) (fun z F => ?_)
  · have e0 : f (.tmp 158) = .slice (some ⟨yb, yo, none⟩) 3 (1 + Cy) := fe 158
    clear fe
    simp only [execOp, oa22]
    go_simp
  refine tk (o := oa23) 23 (.pointer (some ⟨Y, 2, none⟩)) rfl rfl (by kernel_rfl) (by kernel_rfl) (by kernel_rfl) hQ F (by decide) rfl (fun f fe fc wS hSw => ?_) (by assumption) (fun z F => ?_)
  · have e0 : f (.tmp 4) = .pointer (some ⟨Y, 0, none⟩) := (fe 4).trans s4
    clear fe
    simp only [execOp, oa23]
    go_simp
  refine tk (o := oa24) 24 (.slice (some ⟨vb, vo, none⟩) NQ (QQ + C3)) rfl rfl (by kernel_rfl) (by kernel_rfl) (by kernel_rfl) hQ F (by decide) rfl (fun f fe fc wS hSw => ?_) (by assumption) (fun z F => ?_)
  · have e0 : f (.tmp 160) = .pointer (some ⟨Y, 2, none⟩) := fe 160
    have c0 := cell_still y2 hSw
    clear fe
    simp only [execOp, oa24]
    go_simp
  refine tk (o := oa25) 25 (.int .i64 (q : Int)) rfl rfl (by kernel_rfl) (by kernel_rfl) (by kernel_rfl) hQ F (by decide) rfl (fun f fe fc wS hSw => ?_) (by assumption) (fun z F => ?_)
  · have e0 : f (.tmp 2) = .int .i64 (q : Int) := (fe 2).trans s2
    clear fe
    simp only [execOp, oa25]
    go_simp
  refine tk (o := oa26) 26 (.int .i64 (Q : Int)) rfl rfl (by kernel_rfl) (by kernel_rfl) (by kernel_rfl) hQ F (by decide) rfl (fun f fe fc wS hSw => ?_) (by assumption) (fun z F => ?_)
  · have e0 : f (.tmp 11) = .int .i64 (Q : Int) := (fe 11).trans s11
    clear fe
    simp only [execOp, oa26]
    go_simp
  refine tk (o := oa27) 27 (.int .i64 (QQ : Int)) rfl rfl (by kernel_rfl) (by kernel_rfl) (by kernel_rfl) hQ F (by decide) rfl (fun f fe fc wS hSw => ?_) (by assumption) (fun z F => ?_)
  · have e0 : f (.tmp 162) = .int .i64 (q : Int) := fe 162
    have e1 : f (.tmp 163) = .int .i64 (Q : Int) := fe 163
    clear fe
    simp only [execOp, oa27]
    go_simp
    try simp only [wQQ.out]
  refine tk (o := oa28) 28 (.int .i64 (q : Int)) rfl rfl (by kernel_rfl) (by kernel_rfl) (by kernel_rfl) hQ F (by decide) rfl (fun f fe fc wS hSw => ?_) (by assumption) (fun z F => ?_)
  · have e0 : f (.tmp 2) = .int .i64 (q : Int) := (fe 2).trans s2
    clear fe
    simp only [execOp, oa28]
    go_simp
  refine tk (o := oa29) 29 (.int .i64 (Q : Int)) rfl rfl (by kernel_rfl) (by kernel_rfl) (by kernel_rfl) hQ F (by decide) rfl (fun f fe fc wS hSw => ?_) (by assumption) (fun z F => ?_)
  · have e0 : f (.tmp 11) = .int .i64 (Q : Int) := (fe 11).trans s11
    clear fe
    simp only [execOp, oa29]
    go_simp
  refine tk (o := oa30) 30 (.int .i64 (QQ : Int)) rfl rfl (by kernel_rfl) (by kernel_rfl) (by kernel_rfl) hQ F (by decide) rfl (fun f fe fc wS hSw => ?_) (by assumption) (fun z F => ?_)
  · have e0 : f (.tmp 165) = .int .i64 (q : Int) := fe 165
    have e1 : f (.tmp 166) = .int .i64 (Q : Int) := fe 166
    clear fe
    simp only [execOp, oa30]
    go_simp
    try simp only [wQQ.out]
  refine tk (o := oa31) 31 (.int .i64 (Q : Int)) rfl rfl (by kernel_rfl) (by kernel_rfl) (by kernel_rfl) hQ F (by decide) rfl (fun f fe fc wS hSw => ?_) (by assumption) (fun z F => ?_)
  · have e0 : f (.tmp 11) = .int .i64 (Q : Int) := (fe 11).trans s11
    clear fe
    simp only [execOp, oa31]
    go_simp
  refine tk (o := oa32) 32 (.int .i64 ((QQ : Int) + (Q : Int))) rfl rfl (by kernel_rfl) (by kernel_rfl) (by kernel_rfl) hQ F (by decide) rfl (fun f fe fc wS hSw => ?_) (by assumption) (fun z F => ?_)
  · have e0 : f (.tmp 167) = .int .i64 (QQ : Int) := fe 167
    have e1 : f (.tmp 168) = .int .i64 (Q : Int) := fe 168
    clear fe
    simp only [execOp, oa32]
    go_simp
    try simp only [aQ.out]
  refine tk (o := oa33) 33 (.slice (some ⟨vb, vo + QQ, none⟩) Q C3) rfl rfl (by kernel_rfl) (by kernel_rfl) (by kernel_rfl) hQ F (by decide) rfl (fun f fe fc wS hSw => ?_) (by assumption) (fun z F => ?_)
  · have e0 : f (.tmp 161) = .slice (some ⟨vb, vo, none⟩) NQ (QQ + C3) := fe 161
    have e1 : f (.tmp 164) = .int .i64 (QQ : Int) := fe 164
    have e2 : f (.tmp 169) = .int .i64 ((QQ : Int) + (Q : Int)) := fe 169
    clear fe
    simp only [execOp, oa33]
    go_simp
  refine tk (o := oa34) 34 (.agg #[.int .i64 1, .slice (some ⟨yb, yo + 1, none⟩) 2 Cy, .slice (some ⟨vb, vo + QQ, none⟩) Q C3]) rfl rfl (by kernel_rfl) (by kernel_rfl) (by kernel_rfl) hQ F (by decide) rfl (fun f fe fc wS hSw => ?_) (by assumption) (fun z F => ?_)
  · have e0 : f (.tmp 156) = .int .i64 1 := fe 156
    have e1 : f (.tmp 159) = .slice (some ⟨yb, yo + 1, none⟩) 2 Cy := fe 159
    have e2 : f (.tmp 170) = .slice (some ⟨vb, vo + QQ, none⟩) Q C3 := fe 170
    clear fe
    simp only [execOp, oa34]
    go_simp
  have gw : p2.grownBy W.drew none := grown_drew gW
  generalize W.drew = w at gw hHeld ⊢
  refine wpAnyH_ready (rs := [35, 40]) (by kernel_rfl) (by simp) ?_
  refine AllReadyH.cons (o := oa35) rfl (fun K hK => ?_) ?_
  · skip
    refine ry (d := 172) (v := .slice (some ⟨w.heap.size, 0, none⟩) 2 2) (w' := w.alloc (.cells #[.int .i64 1, .slice (some ⟨xb, xo + 1, none⟩) 2 Cx, .slice (some ⟨ub, uo + QP, none⟩) P C1, .int .i64 1, .slice (some ⟨yb, yo + 1, none⟩) 2 Cy, .slice (some ⟨vb, vo + QQ, none⟩) Q C3] 32)) rfl F (by decide) rfl (fun f fe fc => ?_) hK (grown_trans gw (grown_new _ _)) (fun z F => ?_)
    · have e0 : f (.tmp 154) = .agg #[.int .i64 1, .slice (some ⟨xb, xo + 1, none⟩) 2 Cx, .slice (some ⟨ub, uo + QP, none⟩) P C1] := fe 154
      have e1 : f (.tmp 171) = .agg #[.int .i64 1, .slice (some ⟨yb, yo + 1, none⟩) 2 Cy, .slice (some ⟨vb, vo + QQ, none⟩) Q C3] := fe 171
      clear fe
      simp only [execOp, oa35]
      go_simp
    clear hK K
    have zs1 : (w.alloc (.cells #[.int .i64 1, .slice (some ⟨xb, xo + 1, none⟩) 2 Cx, .slice (some ⟨ub, uo + QP, none⟩) P C1, .int .i64 1, .slice (some ⟨yb, yo + 1, none⟩) 2 Cy, .slice (some ⟨vb, vo + QQ, none⟩) Q C3] 32)).heap[w.heap.size]? = some (.cells #[.int .i64 1, .slice (some ⟨xb, xo + 1, none⟩) 2 Cx, .slice (some ⟨ub, uo + QP, none⟩) P C1, .int .i64 1, .slice (some ⟨yb, yo + 1, none⟩) 2 Cy, .slice (some ⟨vb, vo + QQ, none⟩) Q C3] 32 (0, 0)) := heap_alloc_new w (.cells #[.int .i64 1, .slice (some ⟨xb, xo + 1, none⟩) 2 Cx, .slice (some ⟨ub, uo + QP, none⟩) P C1, .int .i64 1, .slice (some ⟨yb, yo + 1, none⟩) 2 Cy, .slice (some ⟨vb, vo + QQ, none⟩) Q C3] 32)
    have ys1 : w.grownBy (w.alloc (.cells #[.int .i64 1, .slice (some ⟨xb, xo + 1, none⟩) 2 Cx, .slice (some ⟨ub, uo + QP, none⟩) P C1, .int .i64 1, .slice (some ⟨yb, yo + 1, none⟩) 2 Cy, .slice (some ⟨vb, vo + QQ, none⟩) Q C3] 32)) none := grown_new _ _
    have gs1 : p2.grownBy (w.alloc (.cells #[.int .i64 1, .slice (some ⟨xb, xo + 1, none⟩) 2 Cx, .slice (some ⟨ub, uo + QP, none⟩) P C1, .int .i64 1, .slice (some ⟨yb, yo + 1, none⟩) 2 Cy, .slice (some ⟨vb, vo + QQ, none⟩) Q C3] 32)) none := grown_trans gw ys1
    obtain ⟨BT, hBT⟩ : ∃ B, B = w.heap.size := ⟨_, rfl⟩
    rw [← hBT] at zs1 F
    generalize es1 : w.alloc (.cells #[.int .i64 1, .slice (some ⟨xb, xo + 1, none⟩) 2 Cx, .slice (some ⟨ub, uo + QP, none⟩) P C1, .int .i64 1, .slice (some ⟨yb, yo + 1, none⟩) 2 Cy, .slice (some ⟨vb, vo + QQ, none⟩) Q C3] 32) = s1 at zs1 ys1 gs1 F ⊢
    have hTs1 := zs1
    clear zs1 es1 hBT ys1
    refine wpAnyH_ready (rs := [36, 40]) (by kernel_rfl) (by simp) ?_
    refine AllReadyH.cons (o := oa36) rfl (fun K hK => ?_) ?_
    · skip
      have e0 : z.eval (.tmp 137) = .agg #[.string ⟨#[77, 97, 116, 77, 117, 108]⟩, .string ⟨#[]⟩, .slice (some ⟨NS, 0, none⟩) 2 2, .string ⟨#[122]⟩, .slice none 0 0] := F.eval 137
      have e1 : z.eval (.tmp 172) = .slice (some ⟨BT, 0, none⟩) 2 2 := F.eval 172
      rw [if_pos (show Region.wanted oa36 (yielded ops15 z.tmps) = true from rfl)]
      unfold Oper.wp
      obtain ⟨f, hf⟩ : ∃ f, f = z.eval := ⟨_, rfl⟩
      rw [← hf] at e0 e1 ⊢
      have fc : ∀ i, f (.func i) = .func (.func i) #[] #[] := fun i => by rw [hf]; rfl
      clear hf
      simp only [execOp, oa36]
      go_simp
      refine (DO2.out s1 BT gs1 hTs1).mono ?_
      rintro e s2 ⟨⟨da, dn, dc⟩, ⟨ta, tn, tc⟩, rfl, od, ot, ys2⟩
      have gs2 : p2.grownBy s2 none := grown_trans gs1 ys2
      refine hK.out _ _ gs2 (fun hHeld => ?_)
      clear hK K e0 e1 fc f
      have F := F.put (d := 173) (by decide) (.tuple #[.agg #[.int .i64 1, .slice da dn dc, .slice ta tn tc], .int .i64 0])
      change wpAnyH Tryz.prog .any ops15 Qx _ _ _ (z.put (some 173) (.tuple #[.agg #[.int .i64 1, .slice da dn dc, .slice ta tn tc], .int .i64 0])) _
      generalize z.put (some 173) (.tuple #[.agg #[.int .i64 1, .slice da dn dc, .slice ta tn tc], .int .i64 0]) = z at F ⊢
      have hTs2 := box_kept hTs1 ys2
      refine tk (o := oa37) 37 (.tuple #[.agg #[.int .i64 1, .slice da dn dc, .slice ta tn tc], .int .i64 0]) rfl rfl (by kernel_rfl) (by kernel_rfl) (by kernel_rfl) hQ F (by decide) rfl (fun f fe fc wS hSw => ?_) (by assumption) (fun z F => ?_)
      · have e0 : f (.tmp 173) = .tuple #[.agg #[.int .i64 1, .slice da dn dc, .slice ta tn tc], .int .i64 0] := fe 173
        clear fe
        simp only [execOp, oa37]
        go_simp
      refine tk (o := oa38) 38 (.agg #[.int .i64 1, .slice da dn dc, .slice ta tn tc]) rfl rfl (by kernel_rfl) (by kernel_rfl) (by kernel_rfl) hQ F (by decide) rfl (fun f fe fc wS hSw => ?_) (by assumption) (fun z F => ?_)
      · have e0 : f (.tmp 136) = .tuple #[.agg #[.int .i64 1, .slice da dn dc, .slice ta tn tc], .int .i64 0] := fe 136
        clear fe
        simp only [execOp, oa38]
        go_simp
      refine tk (o := oa39) 39 (.int .i64 0) rfl rfl (by kernel_rfl) (by kernel_rfl) (by kernel_rfl) hQ F (by decide) rfl (fun f fe fc wS hSw => ?_) (by assumption) (fun z F => ?_)
      · have e0 : f (.tmp 136) = .tuple #[.agg #[.int .i64 1, .slice da dn dc, .slice ta tn tc], .int .i64 0] := fe 136
        clear fe
        simp only [execOp, oa39]
        go_simp
      refine wpAnyH_ready (rs := [40]) (by kernel_rfl) (by simp) ?_
      refine AllReadyH.cons (o := oa40) rfl (fun K hK => ?_) ?_
      · skip
        refine ry (d := 13) (v := .pointer (some ⟨s2.heap.size, 0, none⟩)) (w' := s2.alloc (.cells #[.int .i64 0, .slice none 0 0, .slice none 0 0] 32)) rfl F (by decide) rfl (fun f fe fc => ?_) hK (grown_trans gs2 (grown_new _ _)) (fun z F => ?_)
        · skip
          clear fe
          simp only [execOp, oa40]
          go_simp
        clear hK K
        have zs3 : (s2.alloc (.cells #[.int .i64 0, .slice none 0 0, .slice none 0 0] 32)).heap[s2.heap.size]? = some (.cells #[.int .i64 0, .slice none 0 0, .slice none 0 0] 32 (0, 0)) := heap_alloc_new s2 (.cells #[.int .i64 0, .slice none 0 0, .slice none 0 0] 32)
        have ys3 : s2.grownBy (s2.alloc (.cells #[.int .i64 0, .slice none 0 0, .slice none 0 0] 32)) none := grown_new _ _
        have gs3 : p2.grownBy (s2.alloc (.cells #[.int .i64 0, .slice none 0 0, .slice none 0 0] 32)) none := grown_trans gs2 ys3
        obtain ⟨BA, hBA⟩ : ∃ B, B = s2.heap.size := ⟨_, rfl⟩
        have lA : p2.heap.size ≤ BA := by rw [hBA]; exact gs2.size
        rw [← hBA] at zs3 F
        generalize es3 : s2.alloc (.cells #[.int .i64 0, .slice none 0 0, .slice none 0 0] 32) = s3 at zs3 ys3 gs3 F ⊢
        have hAs3 := zs3
        have hTs3 := box_kept hTs2 ys3
        have OD0 := od.new ys3
        have OT0 : OwnsE s3 s1.heap.size (Sl.v ⟨ta, tn, tc⟩) ZR := ⟨ot.1.kept ys3 (by cases (Sl.v ⟨ta, tn, tc⟩).ownBlock <;> simp), ot.2⟩
        clear od ot
        have od := OD0
        have ot := OT0
        clear OD0 OT0
        clear zs3 es3 hBA ys3
        obtain ⟨q0, q1, q2⟩ := ten_cells hAs3
        obtain ⟨f0, f1, f2⟩ := ten_frozen hAs3
        obtain ⟨hX, gX⟩ := store3t (.int .i64 1) (.slice da dn dc) (.slice ta tn tc) hAs3
        refine wpAnyH_ready (rs := [41]) (by kernel_rfl) (by simp) ?_
        refine AllReadyH.cons (o := oa41) rfl (fun K hK => ?_) AllReadyH.nil
        refine ry0 rfl F rfl (fun f fe fc => ?_) hK (grown_drop gs3 gX lA) (fun z F => ?_)
        · have e0 : f (.tmp 13) = .pointer (some ⟨BA, 0, none⟩) := fe 13
          have e1 : f (.tmp 174) = .agg #[.int .i64 1, .slice da dn dc, .slice ta tn tc] := fe 174
          clear fe
          simp only [execOp, oa41]
          go_simp
          try rfl
        clear hK K
        have gZ := grown_drop gs3 gX lA
        refine tk (o := oa42) 42 (.int .i64 0) rfl rfl (by kernel_rfl) (by kernel_rfl) (by kernel_rfl) hQ F (by decide) rfl (fun f fe fc wS hSw => ?_) (by assumption) (fun z F => ?_)
        · have e0 : f (.tmp 175) = .int .i64 0 := fe 175
          clear fe
          simp only [execOp, oa42]
          go_simp
        refine wpAnyH_done (by kernel_rfl) ?_ _
        refine fin.out _ _ F.size F.defers (fun j hj => (F.get j).trans ?_) ⟨BA, ⟨da, dn, dc⟩, ⟨ta, tn, tc⟩, F.get 13, F.get 14, hX, (od.more gX (own_apart od.1 hAs3 (by decide))).ints, OwnsE.ints (⟨ot.1.kept gX (own_apart ot.1 hAs3 (by decide)), ot.2⟩ : OwnsE _ _ _ _), gZ⟩
        simp only [frU]
        repeat (rw [if_neg (by omega)])
      exact AllReadyH.nil
    refine AllReadyH.cons (o := oa40) rfl (fun K hK => ?_) ?_
    · skip
      refine ry (d := 13) (v := .pointer (some ⟨s1.heap.size, 0, none⟩)) (w' := s1.alloc (.cells #[.int .i64 0, .slice none 0 0, .slice none 0 0] 32)) rfl F (by decide) rfl (fun f fe fc => ?_) hK (grown_trans gs1 (grown_new _ _)) (fun z F => ?_)
      · skip
        clear fe
        simp only [execOp, oa40]
        go_simp
      clear hK K
      have zs4 : (s1.alloc (.cells #[.int .i64 0, .slice none 0 0, .slice none 0 0] 32)).heap[s1.heap.size]? = some (.cells #[.int .i64 0, .slice none 0 0, .slice none 0 0] 32 (0, 0)) := heap_alloc_new s1 (.cells #[.int .i64 0, .slice none 0 0, .slice none 0 0] 32)
      have ys4 : s1.grownBy (s1.alloc (.cells #[.int .i64 0, .slice none 0 0, .slice none 0 0] 32)) none := grown_new _ _
      have gs4 : p2.grownBy (s1.alloc (.cells #[.int .i64 0, .slice none 0 0, .slice none 0 0] 32)) none := grown_trans gs1 ys4
      obtain ⟨BA, hBA⟩ : ∃ B, B = s1.heap.size := ⟨_, rfl⟩
      have lA : p2.heap.size ≤ BA := by rw [hBA]; exact gs1.size
      rw [← hBA] at zs4 F
      generalize es4 : s1.alloc (.cells #[.int .i64 0, .slice none 0 0, .slice none 0 0] 32) = s4 at zs4 ys4 gs4 F ⊢
      have hAs4 := zs4
      have hTs4 := box_kept hTs1 ys4
      clear zs4 es4 hBA ys4
      refine wpAnyH_ready (rs := [36]) (by kernel_rfl) (by simp) ?_
      refine AllReadyH.cons (o := oa36) rfl (fun K hK => ?_) ?_
      · skip
        have e0 : z.eval (.tmp 137) = .agg #[.string ⟨#[77, 97, 116, 77, 117, 108]⟩, .string ⟨#[]⟩, .slice (some ⟨NS, 0, none⟩) 2 2, .string ⟨#[122]⟩, .slice none 0 0] := F.eval 137
        have e1 : z.eval (.tmp 172) = .slice (some ⟨BT, 0, none⟩) 2 2 := F.eval 172
        rw [if_pos (show Region.wanted oa36 (yielded ops15 z.tmps) = true from rfl)]
        unfold Oper.wp
        obtain ⟨f, hf⟩ : ∃ f, f = z.eval := ⟨_, rfl⟩
        rw [← hf] at e0 e1 ⊢
        have fc : ∀ i, f (.func i) = .func (.func i) #[] #[] := fun i => by rw [hf]; rfl
        clear hf
        simp only [execOp, oa36]
        go_simp
        refine (DO2.out s4 BT gs4 hTs4).mono ?_
        rintro e s5 ⟨⟨da, dn, dc⟩, ⟨ta, tn, tc⟩, rfl, od, ot, ys5⟩
        have gs5 : p2.grownBy s5 none := grown_trans gs4 ys5
        refine hK.out _ _ gs5 (fun hHeld => ?_)
        clear hK K e0 e1 fc f
        have F := F.put (d := 173) (by decide) (.tuple #[.agg #[.int .i64 1, .slice da dn dc, .slice ta tn tc], .int .i64 0])
        change wpAnyH Tryz.prog .any ops15 Qx _ _ _ (z.put (some 173) (.tuple #[.agg #[.int .i64 1, .slice da dn dc, .slice ta tn tc], .int .i64 0])) _
        generalize z.put (some 173) (.tuple #[.agg #[.int .i64 1, .slice da dn dc, .slice ta tn tc], .int .i64 0]) = z at F ⊢
        have hTs5 := box_kept hTs4 ys5
        have hAs5 := box_kept hAs4 ys5
        refine tk (o := oa37) 37 (.tuple #[.agg #[.int .i64 1, .slice da dn dc, .slice ta tn tc], .int .i64 0]) rfl rfl (by kernel_rfl) (by kernel_rfl) (by kernel_rfl) hQ F (by decide) rfl (fun f fe fc wS hSw => ?_) (by assumption) (fun z F => ?_)
        · have e0 : f (.tmp 173) = .tuple #[.agg #[.int .i64 1, .slice da dn dc, .slice ta tn tc], .int .i64 0] := fe 173
          clear fe
          simp only [execOp, oa37]
          go_simp
        refine tk (o := oa38) 38 (.agg #[.int .i64 1, .slice da dn dc, .slice ta tn tc]) rfl rfl (by kernel_rfl) (by kernel_rfl) (by kernel_rfl) hQ F (by decide) rfl (fun f fe fc wS hSw => ?_) (by assumption) (fun z F => ?_)
        · have e0 : f (.tmp 136) = .tuple #[.agg #[.int .i64 1, .slice da dn dc, .slice ta tn tc], .int .i64 0] := fe 136
          clear fe
          simp only [execOp, oa38]
          go_simp
        refine tk (o := oa39) 39 (.int .i64 0) rfl rfl (by kernel_rfl) (by kernel_rfl) (by kernel_rfl) hQ F (by decide) rfl (fun f fe fc wS hSw => ?_) (by assumption) (fun z F => ?_)
        · have e0 : f (.tmp 136) = .tuple #[.agg #[.int .i64 1, .slice da dn dc, .slice ta tn tc], .int .i64 0] := fe 136
          clear fe
          simp only [execOp, oa39]
          go_simp
        obtain ⟨q0, q1, q2⟩ := ten_cells hAs5
        obtain ⟨f0, f1, f2⟩ := ten_frozen hAs5
        obtain ⟨hX, gX⟩ := store3t (.int .i64 1) (.slice da dn dc) (.slice ta tn tc) hAs5
        refine wpAnyH_ready (rs := [41]) (by kernel_rfl) (by simp) ?_
        refine AllReadyH.cons (o := oa41) rfl (fun K hK => ?_) AllReadyH.nil
        refine ry0 rfl F rfl (fun f fe fc => ?_) hK (grown_drop gs5 gX lA) (fun z F => ?_)
        · have e0 : f (.tmp 13) = .pointer (some ⟨BA, 0, none⟩) := fe 13
          have e1 : f (.tmp 174) = .agg #[.int .i64 1, .slice da dn dc, .slice ta tn tc] := fe 174
          clear fe
          simp only [execOp, oa41]
          go_simp
          try rfl
        clear hK K
        have gZ := grown_drop gs5 gX lA
        refine tk (o := oa42) 42 (.int .i64 0) rfl rfl (by kernel_rfl) (by kernel_rfl) (by kernel_rfl) hQ F (by decide) rfl (fun f fe fc wS hSw => ?_) (by assumption) (fun z F => ?_)
        · have e0 : f (.tmp 175) = .int .i64 0 := fe 175
          clear fe
          simp only [execOp, oa42]
          go_simp
        refine wpAnyH_done (by kernel_rfl) ?_ _
        refine fin.out _ _ F.size F.defers (fun j hj => (F.get j).trans ?_) ⟨BA, ⟨da, dn, dc⟩, ⟨ta, tn, tc⟩, F.get 13, F.get 14, hX, (od.more gX (own_apart od.1 hAs5 (by decide))).ints, OwnsE.ints (⟨ot.1.kept gX (own_apart ot.1 hAs5 (by decide)), ot.2⟩ : OwnsE _ _ _ _), gZ⟩
        simp only [frU]
        repeat (rw [if_neg (by omega)])
      exact AllReadyH.nil
    exact AllReadyH.nil
  refine AllReadyH.cons (o := oa40) rfl (fun K hK => ?_) ?_
  · skip
    refine ry (d := 13) (v := .pointer (some ⟨w.heap.size, 0, none⟩)) (w' := w.alloc (.cells #[.int .i64 0, .slice none 0 0, .slice none 0 0] 32)) rfl F (by decide) rfl (fun f fe fc => ?_) hK (grown_trans gw (grown_new _ _)) (fun z F => ?_)
    · skip
      clear fe
      simp only [execOp, oa40]
      go_simp
    clear hK K
    have zs6 : (w.alloc (.cells #[.int .i64 0, .slice none 0 0, .slice none 0 0] 32)).heap[w.heap.size]? = some (.cells #[.int .i64 0, .slice none 0 0, .slice none 0 0] 32 (0, 0)) := heap_alloc_new w (.cells #[.int .i64 0, .slice none 0 0, .slice none 0 0] 32)
    have ys6 : w.grownBy (w.alloc (.cells #[.int .i64 0, .slice none 0 0, .slice none 0 0] 32)) none := grown_new _ _
    have gs6 : p2.grownBy (w.alloc (.cells #[.int .i64 0, .slice none 0 0, .slice none 0 0] 32)) none := grown_trans gw ys6
    obtain ⟨BA, hBA⟩ : ∃ B, B = w.heap.size := ⟨_, rfl⟩
    have lA : p2.heap.size ≤ BA := by rw [hBA]; exact gw.size
    rw [← hBA] at zs6 F
    generalize es6 : w.alloc (.cells #[.int .i64 0, .slice none 0 0, .slice none 0 0] 32) = s6 at zs6 ys6 gs6 F ⊢
    have hAs6 := zs6
    clear zs6 es6 hBA ys6
    refine wpAnyH_ready (rs := [35]) (by kernel_rfl) (by simp) ?_
    refine AllReadyH.cons (o := oa35) rfl (fun K hK => ?_) ?_
    · skip
      refine ry (d := 172) (v := .slice (some ⟨s6.heap.size, 0, none⟩) 2 2) (w' := s6.alloc (.cells #[.int .i64 1, .slice (some ⟨xb, xo + 1, none⟩) 2 Cx, .slice (some ⟨ub, uo + QP, none⟩) P C1, .int .i64 1, .slice (some ⟨yb, yo + 1, none⟩) 2 Cy, .slice (some ⟨vb, vo + QQ, none⟩) Q C3] 32)) rfl F (by decide) rfl (fun f fe fc => ?_) hK (grown_trans gs6 (grown_new _ _)) (fun z F => ?_)
      · have e0 : f (.tmp 154) = .agg #[.int .i64 1, .slice (some ⟨xb, xo + 1, none⟩) 2 Cx, .slice (some ⟨ub, uo + QP, none⟩) P C1] := fe 154
        have e1 : f (.tmp 171) = .agg #[.int .i64 1, .slice (some ⟨yb, yo + 1, none⟩) 2 Cy, .slice (some ⟨vb, vo + QQ, none⟩) Q C3] := fe 171
        clear fe
        simp only [execOp, oa35]
        go_simp
      clear hK K
      have zs7 : (s6.alloc (.cells #[.int .i64 1, .slice (some ⟨xb, xo + 1, none⟩) 2 Cx, .slice (some ⟨ub, uo + QP, none⟩) P C1, .int .i64 1, .slice (some ⟨yb, yo + 1, none⟩) 2 Cy, .slice (some ⟨vb, vo + QQ, none⟩) Q C3] 32)).heap[s6.heap.size]? = some (.cells #[.int .i64 1, .slice (some ⟨xb, xo + 1, none⟩) 2 Cx, .slice (some ⟨ub, uo + QP, none⟩) P C1, .int .i64 1, .slice (some ⟨yb, yo + 1, none⟩) 2 Cy, .slice (some ⟨vb, vo + QQ, none⟩) Q C3] 32 (0, 0)) := heap_alloc_new s6 (.cells #[.int .i64 1, .slice (some ⟨xb, xo + 1, none⟩) 2 Cx, .slice (some ⟨ub, uo + QP, none⟩) P C1, .int .i64 1, .slice (some ⟨yb, yo + 1, none⟩) 2 Cy, .slice (some ⟨vb, vo + QQ, none⟩) Q C3] 32)
      have ys7 : s6.grownBy (s6.alloc (.cells #[.int .i64 1, .slice (some ⟨xb, xo + 1, none⟩) 2 Cx, .slice (some ⟨ub, uo + QP, none⟩) P C1, .int .i64 1, .slice (some ⟨yb, yo + 1, none⟩) 2 Cy, .slice (some ⟨vb, vo + QQ, none⟩) Q C3] 32)) none := grown_new _ _
      have gs7 : p2.grownBy (s6.alloc (.cells #[.int .i64 1, .slice (some ⟨xb, xo + 1, none⟩) 2 Cx, .slice (some ⟨ub, uo + QP, none⟩) P C1, .int .i64 1, .slice (some ⟨yb, yo + 1, none⟩) 2 Cy, .slice (some ⟨vb, vo + QQ, none⟩) Q C3] 32)) none := grown_trans gs6 ys7
      obtain ⟨BT, hBT⟩ : ∃ B, B = s6.heap.size := ⟨_, rfl⟩
      rw [← hBT] at zs7 F
      generalize es7 : s6.alloc (.cells #[.int .i64 1, .slice (some ⟨xb, xo + 1, none⟩) 2 Cx, .slice (some ⟨ub, uo + QP, none⟩) P C1, .int .i64 1, .slice (some ⟨yb, yo + 1, none⟩) 2 Cy, .slice (some ⟨vb, vo + QQ, none⟩) Q C3] 32) = s7 at zs7 ys7 gs7 F ⊢
      have hTs7 := zs7
      have hAs7 := box_kept hAs6 ys7
      clear zs7 es7 hBT ys7
      refine wpAnyH_ready (rs := [36]) (by kernel_rfl) (by simp) ?_
      refine AllReadyH.cons (o := oa36) rfl (fun K hK => ?_) ?_
      · skip
        have e0 : z.eval (.tmp 137) = .agg #[.string ⟨#[77, 97, 116, 77, 117, 108]⟩, .string ⟨#[]⟩, .slice (some ⟨NS, 0, none⟩) 2 2, .string ⟨#[122]⟩, .slice none 0 0] := F.eval 137
        have e1 : z.eval (.tmp 172) = .slice (some ⟨BT, 0, none⟩) 2 2 := F.eval 172
        rw [if_pos (show Region.wanted oa36 (yielded ops15 z.tmps) = true from rfl)]
        unfold Oper.wp
        obtain ⟨f, hf⟩ : ∃ f, f = z.eval := ⟨_, rfl⟩
        rw [← hf] at e0 e1 ⊢
        have fc : ∀ i, f (.func i) = .func (.func i) #[] #[] := fun i => by rw [hf]; rfl
        clear hf
        simp only [execOp, oa36]
        go_simp
        refine (DO2.out s7 BT gs7 hTs7).mono ?_
        rintro e s8 ⟨⟨da, dn, dc⟩, ⟨ta, tn, tc⟩, rfl, od, ot, ys8⟩
        have gs8 : p2.grownBy s8 none := grown_trans gs7 ys8
        refine hK.out _ _ gs8 (fun hHeld => ?_)
        clear hK K e0 e1 fc f
        have F := F.put (d := 173) (by decide) (.tuple #[.agg #[.int .i64 1, .slice da dn dc, .slice ta tn tc], .int .i64 0])
        change wpAnyH Tryz.prog .any ops15 Qx _ _ _ (z.put (some 173) (.tuple #[.agg #[.int .i64 1, .slice da dn dc, .slice ta tn tc], .int .i64 0])) _
        generalize z.put (some 173) (.tuple #[.agg #[.int .i64 1, .slice da dn dc, .slice ta tn tc], .int .i64 0]) = z at F ⊢
        have hTs8 := box_kept hTs7 ys8
        have hAs8 := box_kept hAs7 ys8
        refine tk (o := oa37) 37 (.tuple #[.agg #[.int .i64 1, .slice da dn dc, .slice ta tn tc], .int .i64 0]) rfl rfl (by kernel_rfl) (by kernel_rfl) (by kernel_rfl) hQ F (by decide) rfl (fun f fe fc wS hSw => ?_) (by assumption) (fun z F => ?_)
        · have e0 : f (.tmp 173) = .tuple #[.agg #[.int .i64 1, .slice da dn dc, .slice ta tn tc], .int .i64 0] := fe 173
          clear fe
          simp only [execOp, oa37]
          go_simp
        refine tk (o := oa38) 38 (.agg #[.int .i64 1, .slice da dn dc, .slice ta tn tc]) rfl rfl (by kernel_rfl) (by kernel_rfl) (by kernel_rfl) hQ F (by decide) rfl (fun f fe fc wS hSw => ?_) (by assumption) (fun z F => ?_)
        · have e0 : f (.tmp 136) = .tuple #[.agg #[.int .i64 1, .slice da dn dc, .slice ta tn tc], .int .i64 0] := fe 136
          clear fe
          simp only [execOp, oa38]
          go_simp
        refine tk (o := oa39) 39 (.int .i64 0) rfl rfl (by kernel_rfl) (by kernel_rfl) (by kernel_rfl) hQ F (by decide) rfl (fun f fe fc wS hSw => ?_) (by assumption) (fun z F => ?_)
        · have e0 : f (.tmp 136) = .tuple #[.agg #[.int .i64 1, .slice da dn dc, .slice ta tn tc], .int .i64 0] := fe 136
          clear fe
          simp only [execOp, oa39]
          go_simp
        obtain ⟨q0, q1, q2⟩ := ten_cells hAs8
        obtain ⟨f0, f1, f2⟩ := ten_frozen hAs8
        obtain ⟨hX, gX⟩ := store3t (.int .i64 1) (.slice da dn dc) (.slice ta tn tc) hAs8
        refine wpAnyH_ready (rs := [41]) (by kernel_rfl) (by simp) ?_
        refine AllReadyH.cons (o := oa41) rfl (fun K hK => ?_) AllReadyH.nil
        refine ry0 rfl F rfl (fun f fe fc => ?_) hK (grown_drop gs8 gX lA) (fun z F => ?_)
        · have e0 : f (.tmp 13) = .pointer (some ⟨BA, 0, none⟩) := fe 13
          have e1 : f (.tmp 174) = .agg #[.int .i64 1, .slice da dn dc, .slice ta tn tc] := fe 174
          clear fe
          simp only [execOp, oa41]
          go_simp
          try rfl
        clear hK K
        have gZ := grown_drop gs8 gX lA
        refine tk (o := oa42) 42 (.int .i64 0) rfl rfl (by kernel_rfl) (by kernel_rfl) (by kernel_rfl) hQ F (by decide) rfl (fun f fe fc wS hSw => ?_) (by assumption) (fun z F => ?_)
        · have e0 : f (.tmp 175) = .int .i64 0 := fe 175
          clear fe
          simp only [execOp, oa42]
          go_simp
        refine wpAnyH_done (by kernel_rfl) ?_ _
        refine fin.out _ _ F.size F.defers (fun j hj => (F.get j).trans ?_) ⟨BA, ⟨da, dn, dc⟩, ⟨ta, tn, tc⟩, F.get 13, F.get 14, hX, (od.more gX (own_apart od.1 hAs8 (by decide))).ints, OwnsE.ints (⟨ot.1.kept gX (own_apart ot.1 hAs8 (by decide)), ot.2⟩ : OwnsE _ _ _ _), gZ⟩
        simp only [frU]
        repeat (rw [if_neg (by omega)])
      exact AllReadyH.nil
    exact AllReadyH.nil
  exact AllReadyH.nil

set_option maxRecDepth 100000 in
set_option maxHeartbeats 16000000 in
theorem lb16 {Qx : Exit → Act → World → Prop} (hQ : ∀ c a a' w, a.defers = a'.defers → Qx (.panic c) a w → Qx (.panic c) a' w) (X Y Ab Bb : Nat) (xb xo Cx yb yo Cy zb zo NO QO C5 O q a b : Nat) (da ta : Option Addr) (dn dc tn tc : Nat) (b0 : Act) (g0 : Nat → Value) (F0 : Fr b0 206 g0) (wc : World)
    (s2 : g0 2 = .int .i64 (q : Int)) (s3 : g0 3 = .pointer (some ⟨X, 0, none⟩)) (s4 : g0 4 = .pointer (some ⟨Y, 0, none⟩)) (s8 : g0 8 = .pointer (some ⟨Ab, 0, none⟩)) (s12 : g0 12 = .int .i64 (O : Int)) (s13 : g0 13 = .pointer (some ⟨Bb, 0, none⟩)) (s14 : g0 14 = .int .i64 0)
    (x1 : wc.cell? ⟨X, 1, none⟩ = some (.slice (some ⟨xb, xo, none⟩) 3 (1 + Cx))) (y1 : wc.cell? ⟨Y, 1, none⟩ = some (.slice (some ⟨yb, yo, none⟩) 3 (1 + Cy))) (d1 : wc.cell? ⟨xb, xo + 1, none⟩ = some (.int .i64 a)) (e2 : wc.cell? ⟨yb, yo + 2, none⟩ = some (.int .i64 b)) (m2 : wc.cell? ⟨Ab, 2, none⟩ = some (.slice (some ⟨zb, zo, none⟩) NO (QO + C5)))
    (b0c : wc.cell? ⟨Bb, 0, none⟩ = some (.int .i64 1)) (b1c : wc.cell? ⟨Bb, 1, none⟩ = some (.slice da dn dc)) (b2c : wc.cell? ⟨Bb, 2, none⟩ = some (.slice ta tn tc))
    (wQO : Hid (IntKind.i64.wrap ((q : Int) * (O : Int)) = (QO : Int))) (aO : Hid (IntKind.i64.wrap ((QO : Int) + (O : Int)) = (QO : Int) + (O : Int)))
    (vl1 : (QO : Int) ≤ (QO : Int) + (O : Int)) (vl3 : ((QO : Int) + (O : Int)).toNat = QO + O) (vl4 : (O : Int) ≤ (C5 : Int)) (vl5 : ¬ C5 = 0)
    (SA : Hid (∀ (wx : World) (DB : Nat), wc.grownBy wx none → wx.heap[DB]? = some (.cells #[.int .i64 a, .int .i64 b] 3 (0, 0)) → Calls Tryz.prog 12 #[.agg #[.int .i64 1, .slice da dn dc, .slice ta tn tc], .agg #[.int .i64 1, .slice (some ⟨DB, 0, none⟩) 2 2, .slice (some ⟨zb, zo + QO, none⟩) O C5]] wx fun e w' => e = .returned (.bool true) ∧ wx.grownBy w' none))
    (LI : Hid (∀ wx, wc.grownBy wx none → Calls Tryz.prog 15 #[] wx fun e w' => e = .returned (.bool true) ∧ wx.grownBy w' none))
    (fin : Hid (∀ b' w', b'.defers = [] → b'.tmps.getD 6 undef = .bool true → wc.grownBy w' none → Qx .normal b' w')) :
    (Code.region 16 ops16 true).wp Tryz.prog Qx b0 wc := by
  refine wp_region_held_drew (S := fun w' => wc.grownBy w' none) (by kernel_rfl) (grown_drew (grown_refl _)) (fun hHeld => ?_)
  have F := F0
  refine tk (o := ob0) 0 (.int .i64 0) rfl rfl (by kernel_rfl) (by kernel_rfl) (by kernel_rfl) hQ F (by decide) rfl (fun f fe fc wS hSw => ?_) (by assumption) (fun z F => ?_)
  · have e0 : f (.tmp 14) = .int .i64 0 := (fe 14).trans s14
    clear fe
    simp only [execOp, ob0]
    go_simp
  refine tk (o := ob1) 1 (.bool true) rfl rfl (by kernel_rfl) (by kernel_rfl) (by kernel_rfl) hQ F (by decide) rfl (fun f fe fc wS hSw => ?_) (by assumption) (fun z F => ?_)
  · have e0 : f (.tmp 176) = .int .i64 0 := fe 176
    clear fe
    simp only [execOp, ob1]
    go_simp
  refine tk (o := ob2) 2 (.bool true) rfl rfl (by kernel_rfl) (by kernel_rfl) (by kernel_rfl) hQ F (by decide) rfl (fun f fe fc wS hSw => ?_) (by assumption) (fun z F => ?_)
  · have e0 : f (.tmp 177) = .bool true := fe 177
    clear fe
    simp only [execOp, ob2]
    go_simp
  refine tk (o := ob3) 3 (.agg #[.int .i64 1, .slice da dn dc, .slice ta tn tc]) rfl rfl (by kernel_rfl) (by kernel_rfl) (by kernel_rfl) hQ F (by decide) (F.wanted (j := 2) (d := 178) rfl rfl (by decide) rfl) (fun f fe fc wS hSw => ?_) (by assumption) (fun z F => ?_)
  · have e0 : f (.tmp 13) = .pointer (some ⟨Bb, 0, none⟩) := (fe 13).trans s13
    have c0 := cell_still b0c hSw
    have c1 := cell_still b1c hSw
    have c2 := cell_still b2c hSw
    clear fe
    simp only [execOp, ob3]
    go_simp
  refine tk (o := ob4) 4 (.pointer (some ⟨X, 1, none⟩)) rfl rfl (by kernel_rfl) (by kernel_rfl) (by kernel_rfl) hQ F (by decide) (F.wanted (j := 2) (d := 178) rfl rfl (by decide) rfl) (fun f fe fc wS hSw => ?_) (by assumption) (fun z F => ?_)
  · have e0 : f (.tmp 3) = .pointer (some ⟨X, 0, none⟩) := (fe 3).trans s3
    clear fe
    simp only [execOp, ob4]
    go_simp
  refine tk (o := ob5) 5 (.slice (some ⟨xb, xo, none⟩) 3 (1 + Cx)) rfl rfl (by kernel_rfl) (by kernel_rfl) (by kernel_rfl) hQ F (by decide) (F.wanted (j := 2) (d := 178) rfl rfl (by decide) rfl) (fun f fe fc wS hSw => ?_) (by assumption) (fun z F => ?_)
  · have e0 : f (.tmp 180) = .pointer (some ⟨X, 1, none⟩) := fe 180
    have c0 := cell_still x1 hSw
    clear fe
    simp only [execOp, ob5]
    go_simp
  refine tk (o := ob6) 6 (.pointer (some ⟨xb, xo + 1, none⟩)) rfl rfl (by kernel_rfl) (by kernel_rfl) (by kernel_rfl) hQ F (by decide) (F.wanted (j := 2) (d := 178) rfl rfl (by decide) rfl) (fun f fe fc wS hSw => ?_) (by assumption) (fun z F => ?_)
  · have e0 : f (.tmp 181) = .slice (some ⟨xb, xo, none⟩) 3 (1 + Cx) := fe 181
    clear fe
    simp only [execOp, ob6]
    go_simp
  refine tk (o := ob7) 7 (.int .i64 (a : Int)) rfl rfl (by kernel_rfl) (by kernel_rfl) (by kernel_rfl) hQ F (by decide) (F.wanted (j := 2) (d := 178) rfl rfl (by decide) rfl) (fun f fe fc wS hSw => ?_) (by assumption) (fun z F => ?_)
  · have e0 : f (.tmp 182) = .pointer (some ⟨xb, xo + 1, none⟩) := fe 182
    have c0 := cell_still d1 hSw
    clear fe
    simp only [execOp, ob7]
    go_simp
  refine tk (o := ob8) 8 (.pointer (some ⟨Y, 1, none⟩)) rfl rfl (by kernel_rfl) (by kernel_rfl) (by kernel_rfl) hQ F (by decide) (F.wanted (j := 2) (d := 178) rfl rfl (by decide) rfl) (fun f fe fc wS hSw => ?_) (by assumption) (fun z F => ?_)
  · have e0 : f (.tmp 4) = .pointer (some ⟨Y, 0, none⟩) := (fe 4).trans s4
    clear fe
    simp only [execOp, ob8]
    go_simp
  refine tk (o := ob9) 9 (.slice (some ⟨yb, yo, none⟩) 3 (1 + Cy)) rfl rfl (by kernel_rfl) (by kernel_rfl) (by kernel_rfl) hQ F (by decide) (F.wanted (j := 2) (d := 178) rfl rfl (by decide) rfl) (fun f fe fc wS hSw => ?_) (by assumption) (fun z F => ?_)
  · have e0 : f (.tmp 184) = .pointer (some ⟨Y, 1, none⟩) := fe 184
    have c0 := cell_still y1 hSw
    clear fe
    simp only [execOp, ob9]
    go_simp
  refine tk (o := ob10) 10 (.pointer (some ⟨yb, yo + 2, none⟩)) rfl rfl (by kernel_rfl) (by kernel_rfl) (by kernel_rfl) hQ F (by decide) (F.wanted (j := 2) (d := 178) rfl rfl (by decide) rfl) (fun f fe fc wS hSw => ?_) (by assumption) (fun z F => ?_)
  · have e0 : f (.tmp 185) = .slice (some ⟨yb, yo, none⟩) 3 (1 + Cy) := fe 185
    clear fe
    simp only [execOp, ob10]
    go_simp
  refine tk (o := ob11) 11 (.int .i64 (b : Int)) rfl rfl (by kernel_rfl) (by kernel_rfl) (by kernel_rfl) hQ F (by decide) (F.wanted (j := 2) (d := 178) rfl rfl (by decide) rfl) (fun f fe fc wS hSw => ?_) (by assumption) (fun z F => ?_)
  · have e0 : f (.tmp 186) = .pointer (some ⟨yb, yo + 2, none⟩) := fe 186
    have c0 := cell_still e2 hSw
    clear fe
    simp only [execOp, ob11]
    go_simp
  refine tk (o := ob13) 13 (.pointer (some ⟨Ab, 2, none⟩)) rfl rfl (by kernel_rfl) (by kernel_rfl) (by kernel_rfl) hQ F (by decide) (F.wanted (j := 2) (d := 178) rfl rfl (by decide) rfl) (fun f fe fc wS hSw => ?_) (by assumption) (fun z F => ?_)
  · have e0 : f (.tmp 8) = .pointer (some ⟨Ab, 0, none⟩) := (fe 8).trans s8
    clear fe
    simp only [execOp, ob13]
    go_simp
  refine tk (o := ob14) 14 (.slice (some ⟨zb, zo, none⟩) NO (QO + C5)) rfl rfl (by kernel_rfl) (by kernel_rfl) (by kernel_rfl) hQ F (by decide) (F.wanted (j := 2) (d := 178) rfl rfl (by decide) rfl) (fun f fe fc wS hSw => ?_) (by assumption) (fun z F => ?_)
  · have e0 : f (.tmp 189) = .pointer (some ⟨Ab, 2, none⟩) := fe 189
    have c0 := cell_still m2 hSw
    clear fe
    simp only [execOp, ob14]
    go_simp
  refine tk (o := ob15) 15 (.int .i64 (q : Int)) rfl rfl (by kernel_rfl) (by kernel_rfl) (by kernel_rfl) hQ F (by decide) (F.wanted (j := 2) (d := 178) rfl rfl (by decide) rfl) (fun f fe fc wS hSw => ?_) (by assumption) (fun z F => ?_)
  · have e0 : f (.tmp 2) = .int .i64 (q : Int) := (fe 2).trans s2
    clear fe
    simp only [execOp, ob15]
    go_simp
  refine tk (o := ob16) 16 (.int .i64 (O : Int)) rfl rfl (by kernel_rfl) (by kernel_rfl) (by kernel_rfl) hQ F (by decide) (F.wanted (j := 2) (d := 178) rfl rfl (by decide) rfl) (fun f fe fc wS hSw => ?_) (by assumption) (fun z F => ?_)
  · have e0 : f (.tmp 12) = .int .i64 (O : Int) := (fe 12).trans s12
    clear fe
    simp only [execOp, ob16]
    go_simp
  refine tk (o := ob17) 17 (.int .i64 (QO : Int)) rfl rfl (by kernel_rfl) (by kernel_rfl) (by kernel_rfl) hQ F (by decide) (F.wanted (j := 2) (d := 178) rfl rfl (by decide) rfl) (fun f fe fc wS hSw => ?_) (by assumption) (fun z F => ?_)
  · have e0 : f (.tmp 191) = .int .i64 (q : Int) := fe 191
    have e1 : f (.tmp 192) = .int .i64 (O : Int) := fe 192
    clear fe
    simp only [execOp, ob17]
    go_simp
    try simp only [wQO.out]
  refine tk (o := ob18) 18 (.int .i64 (q : Int)) rfl rfl (by kernel_rfl) (by kernel_rfl) (by kernel_rfl) hQ F (by decide) (F.wanted (j := 2) (d := 178) rfl rfl (by decide) rfl) (fun f fe fc wS hSw => ?_) (by assumption) (fun z F => ?_)
  · have e0 : f (.tmp 2) = .int .i64 (q : Int) := (fe 2).trans s2
    clear fe
    simp only [execOp, ob18]
    go_simp
  refine tk (o := ob19) 19 (.int .i64 (O : Int)) rfl rfl (by kernel_rfl) (by kernel_rfl) (by kernel_rfl) hQ F (by decide) (F.wanted (j := 2) (d := 178) rfl rfl (by decide) rfl) (fun f fe fc wS hSw => ?_) (by assumption) (fun z F => ?_)
  · have e0 : f (.tmp 12) = .int .i64 (O : Int) := (fe 12).trans s12
    clear fe
    simp only [execOp, ob19]
    go_simp
  refine tk (o := ob20) 20 (.int .i64 (QO : Int)) rfl rfl (by kernel_rfl) (by kernel_rfl) (by kernel_rfl) hQ F (by decide) (F.wanted (j := 2) (d := 178) rfl rfl (by decide) rfl) (fun f fe fc wS hSw => ?_) (by assumption) (fun z F => ?_)
  · have e0 : f (.tmp 194) = .int .i64 (q : Int) := fe 194
    have e1 : f (.tmp 195) = .int .i64 (O : Int) := fe 195
    clear fe
    simp only [execOp, ob20]
    go_simp
    try simp only [wQO.out]
  refine tk (o := ob21) 21 (.int .i64 (O : Int)) rfl rfl (by kernel_rfl) (by kernel_rfl) (by kernel_rfl) hQ F (by decide) (F.wanted (j := 2) (d := 178) rfl rfl (by decide) rfl) (fun f fe fc wS hSw => ?_) (by assumption) (fun z F => ?_)
  · have e0 : f (.tmp 12) = .int .i64 (O : Int) := (fe 12).trans s12
    clear fe
    simp only [execOp, ob21]
    go_simp
  refine tk (o := ob22) 22 (.int .i64 ((QO : Int) + (O : Int))) rfl rfl (by kernel_rfl) (by kernel_rfl) (by kernel_rfl) hQ F (by decide) (F.wanted (j := 2) (d := 178) rfl rfl (by decide) rfl) (fun f fe fc wS hSw => ?_) (by assumption) (fun z F => ?_)
  · have e0 : f (.tmp 196) = .int .i64 (QO : Int) := fe 196
    have e1 : f (.tmp 197) = .int .i64 (O : Int) := fe 197
    clear fe
    simp only [execOp, ob22]
    go_simp
    try simp only [aO.out]
  refine tk (o := ob23) 23 (.slice (some ⟨zb, zo + QO, none⟩) O C5) rfl rfl (by kernel_rfl) (by kernel_rfl) (by kernel_rfl) hQ F (by decide) (F.wanted (j := 2) (d := 178) rfl rfl (by decide) rfl) (fun f fe fc wS hSw => ?_) (by assumption) (fun z F => ?_)
  · have e0 : f (.tmp 190) = .slice (some ⟨zb, zo, none⟩) NO (QO + C5) := fe 190
    have e1 : f (.tmp 193) = .int .i64 (QO : Int) := fe 193
    have e2 : f (.tmp 198) = .int .i64 ((QO : Int) + (O : Int)) := fe 198
    clear fe
    simp only [execOp, ob23]
    go_simp
  have gw : wc.grownBy wc.drew none := grown_drew (grown_refl _)
  generalize wc.drew = w at gw hHeld ⊢
  refine wpAnyH_ready (rs := [12]) (by kernel_rfl) (by simp) ?_
  refine AllReadyH.cons (o := ob12) rfl (fun K hK => ?_) AllReadyH.nil
  refine ry (d := 188) (v := .slice (some ⟨w.heap.size, 0, none⟩) 2 2) (w' := w.alloc (.cells #[.int .i64 a, .int .i64 b] 3)) rfl F (by decide) (F.wanted (j := 2) (d := 178) rfl rfl (by decide) rfl) (fun f fe fc => ?_) hK (grown_trans gw (grown_new _ _)) (fun z F => ?_)
  · have e0 : f (.tmp 183) = .int .i64 (a : Int) := fe 183
    have e1 : f (.tmp 187) = .int .i64 (b : Int) := fe 187
    clear fe
    simp only [execOp, ob12]
    go_simp
  clear hK K
  have hD := heap_alloc_new w (.cells #[.int .i64 a, .int .i64 b] 3)
  have g1 : wc.grownBy (w.alloc (.cells #[.int .i64 a, .int .i64 b] 3)) none := grown_trans gw (grown_new _ _)
  obtain ⟨DB, hDB⟩ : ∃ B, B = w.heap.size := ⟨_, rfl⟩
  rw [← hDB] at hD F
  generalize w.alloc (.cells #[.int .i64 a, .int .i64 b] 3) = w1 at hD g1 ⊢
  clear hDB gw hHeld
  refine tk (o := ob24) 24 (.agg #[.int .i64 1, .slice (some ⟨DB, 0, none⟩) 2 2, .slice (some ⟨zb, zo + QO, none⟩) O C5]) rfl rfl (by kernel_rfl) (by kernel_rfl) (by kernel_rfl) hQ F (by decide) (F.wanted (j := 2) (d := 178) rfl rfl (by decide) rfl) (fun f fe fc wS hSw => ?_) (by assumption) (fun z F => ?_)
  · have e0 : f (.tmp 188) = .slice (some ⟨DB, 0, none⟩) 2 2 := fe 188
    have e1 : f (.tmp 199) = .slice (some ⟨zb, zo + QO, none⟩) O C5 := fe 199
    clear fe
    simp only [execOp, ob24]
    go_simp
  refine wpAnyH_ready (rs := [25]) (by kernel_rfl) (by simp) ?_
  refine AllReadyH.cons (o := ob25) rfl (fun K hK => ?_) AllReadyH.nil
  have e0 : z.eval (.tmp 179) = .agg #[.int .i64 1, .slice da dn dc, .slice ta tn tc] := F.eval 179
  have e1 : z.eval (.tmp 200) = .agg #[.int .i64 1, .slice (some ⟨DB, 0, none⟩) 2 2, .slice (some ⟨zb, zo + QO, none⟩) O C5] := F.eval 200
  rw [if_pos (F.wanted (o := ob25) (ops := ops16) (j := 2) (d := 178) rfl rfl (by decide) rfl)]
  unfold Oper.wp
  obtain ⟨f, hf⟩ : ∃ f, f = z.eval := ⟨_, rfl⟩
  rw [← hf] at e0 e1 ⊢
  have fc : ∀ i, f (.func i) = .func (.func i) #[] #[] := fun i => by rw [hf]; rfl
  clear hf
  simp only [execOp, ob25]
  go_simp
  refine (SA.out w1 DB g1 hD).mono ?_
  rintro e w2 ⟨rfl, yw2⟩
  have g2 : wc.grownBy w2 none := grown_trans g1 yw2
  refine hK.out _ _ g2 (fun hHeld => ?_)
  clear hK K fc e0 e1 f
  have F := F.put (d := 201) (by decide) (.bool true)
  change wpAnyH Tryz.prog .any ops16 Qx _ _ _ (z.put (some 201) (.bool true)) _
  generalize z.put (some 201) (.bool true) = z at F ⊢
  refine tk (o := ob26) 26 (.bool true) rfl rfl (by kernel_rfl) (by kernel_rfl) (by kernel_rfl) hQ F (by decide) rfl (fun f fe fc wS hSw => ?_) (by assumption) (fun z F => ?_)
  · have e0 : f (.tmp 178) = .bool true := fe 178
    have e1 : f (.tmp 201) = .bool true := fe 201
    clear fe
    simp only [execOp, ob26]
    go_simp
  refine tk (o := ob27) 27 (.bool true) rfl rfl (by kernel_rfl) (by kernel_rfl) (by kernel_rfl) hQ F (by decide) rfl (fun f fe fc wS hSw => ?_) (by assumption) (fun z F => ?_)
  · have e0 : f (.tmp 202) = .bool true := fe 202
    clear fe
    simp only [execOp, ob27]
    go_simp
  refine wpAnyH_ready (rs := [28]) (by kernel_rfl) (by simp) ?_
  refine AllReadyH.cons (o := ob28) rfl (fun K hK => ?_) AllReadyH.nil
  rw [if_pos (F.wanted (o := ob28) (ops := ops16) (j := 27) (d := 203) rfl rfl (by decide) rfl)]
  unfold Oper.wp
  obtain ⟨f, hf⟩ : ∃ f, f = z.eval := ⟨_, rfl⟩
  rw [← hf]
  have fc : ∀ i, f (.func i) = .func (.func i) #[] #[] := fun i => by rw [hf]; rfl
  clear hf
  simp only [execOp, ob28]
  go_simp
  refine (LI.out w2 g2).mono ?_
  rintro e w3 ⟨rfl, yw3⟩
  have g3 : wc.grownBy w3 none := grown_trans g2 yw3
  refine hK.out _ _ g3 (fun hHeld => ?_)
  clear hK K fc  f
  have F := F.put (d := 204) (by decide) (.bool true)
  change wpAnyH Tryz.prog .any ops16 Qx _ _ _ (z.put (some 204) (.bool true)) _
  generalize z.put (some 204) (.bool true) = z at F ⊢
  refine tk (o := ob29) 29 (.bool true) rfl rfl (by kernel_rfl) (by kernel_rfl) (by kernel_rfl) hQ F (by decide) rfl (fun f fe fc wS hSw => ?_) (by assumption) (fun z F => ?_)
  · have e0 : f (.tmp 203) = .bool true := fe 203
    have e1 : f (.tmp 204) = .bool true := fe 204
    clear fe
    simp only [execOp, ob29]
    go_simp
  refine tk (o := ob30) 30 (.bool true) rfl rfl (by kernel_rfl) (by kernel_rfl) (by kernel_rfl) hQ F (by decide) rfl (fun f fe fc wS hSw => ?_) (by assumption) (fun z F => ?_)
  · have e0 : f (.tmp 205) = .bool true := fe 205
    clear fe
    simp only [execOp, ob30]
    go_simp
  refine wpAnyH_done (by kernel_rfl) ?_ _
  exact fin.out _ _ F.defers (F.get 6) g3

end Go.Proofs.YtaoplfpigjkgpaaGreatDoor
