/- A part. -/
import Derived.Test.YtkefdkboejimeaaGreatDoorPartAX
import Derived.Test.YtkefdkboejimeaaGreatDoorPartAS
import Derived.Test.YtkefdkboejimeaaGreatDoorPartAT
import Derived.Laws.EntriesVeiled
import Derived.Deep.RegionHeld3
set_option maxHeartbeats 1000000
set_option maxRecDepth 100000
namespace Go.Proofs.YtkefdkboejimeaaGreatDoor
open Go.RowKit
def jhW (op : ByteArray) (ty : Int) (w : World) (p1 p2 : Nat) : Prop := w.heap[p1]? = some (.cells #[.string op] 9 (0, 0)) ∧ w.heap[p2]? = some (.cells #[.int .i64 ty] 3 (0, 0))
theorem jhW.more {op : ByteArray} {ty : Int} {w w' : World} {p1 p2 : Nat} (h : jhW op ty w p1 p2) (hg : w.grownBy w' none) : jhW op ty w' p1 p2 := ⟨jad h.1 hg, jad h.2 hg⟩
def jeb (p1 p2 : Nat) : Value := .func (.func 104) #[] #[.pointer (some ⟨p1, 0, none⟩), .pointer (some ⟨p2, 0, none⟩)]
def jle (g : Int → Int → Int) (w : World) (p1 p2 : Nat) : Prop := ∀ (x y : Int) (wx : World), w.grownBy wx none → Calls Tryz.prog 104 #[.int .i64 x, .int .i64 y, .pointer (some ⟨p1, 0, none⟩), .pointer (some ⟨p2, 0, none⟩)] wx fun e w' => e = .returned (.int .i64 (g x y)) ∧ wx.grownBy w' none
theorem jle.more {g : Int → Int → Int} {w w' : World} {p1 p2 : Nat} (h : jle g w p1 p2) (hg : w.grownBy w' none) : jle g w' p1 p2 := fun x y wx hx => h x y wx (jaa hg hx)
theorem jnn {ty : Int} {p1 p2 : Nat} {w : World} (h : jhW ⟨#[77, 97, 120]⟩ ty w p1 p2) : jle (fun x y => (Nu.bin 4 ty x y).1) w p1 p2 := fun x y wx hx => by
 have c1 := jaA (h.more hx).1
 have c2 := jaA (h.more hx).2
 have BB := jae (fun (wx : World) => Nu.binary4 ty x y wx)
 clear h
 go_enter Tryz.func104, Tryz.ntmps104
 go_wp2_with (first | (go_at_call 13; refine (BB.out _).mono ?_; rintro e w' ⟨rfl, q, rfl⟩) | fail)
 go_ret
 exact ⟨rfl, ⟨rfl, rfl, rfl, Nat.le_refl _, fun k hk hn => rfl⟩⟩
def OneB (g : Int → Int → Int) (w : World) (b : Nat) : Prop := ∃ p1 p2 : Nat, w.heap[b]? = some (.cells #[jeb p1 p2] 101 (0, 0)) ∧ jle g w p1 p2
theorem OneB.more {g : Int → Int → Int} {w w' : World} {b : Nat} (h : OneB g w b) (hg : w.grownBy w' none) : OneB g w' b := by
 obtain ⟨p1, p2, h1, h2⟩ := h
 exact ⟨p1, p2, jad h1 hg, h2.more hg⟩
end Go.Proofs.YtkefdkboejimeaaGreatDoor
namespace Go.Proofs.YtkefdkboejimeaaGreatDoor
open Go.RowKit
def maxL (g : Int → Int → Int) (xs : List Int) : Int := xs.tail.foldl g (xs.getD 0 0)
end Go.Proofs.YtkefdkboejimeaaGreatDoor
namespace Go.Proofs.YtkefdkboejimeaaGreatDoor
open Go.RowKit
def argS (g : Int → Int → Int) (s : Int × Int × Int) (x : Int) : Int × Int × Int := (s.1 + 1, if g x s.2.2 = 1 then (s.1 + 1, x) else s.2)
def argL (g : Int → Int → Int) (xs : List Int) : Int := (xs.tail.foldl (argS g) (0, 0, xs.getD 0 0)).2.1
end Go.Proofs.YtkefdkboejimeaaGreatDoor
namespace Go.Proofs.YtkefdkboejimeaaGreatDoor
open Go.RowKit
theorem jbD {w : World} {base b' : Nat} {e : TypeId} {size : Nat} {v : Value} {n : Nat} {xs : List Value} (h : w.ownsRow base e size v n xs) (hb : b' ≤ base) : w.ownsRow b' e size v n xs := by
 refine ⟨h.1, ?_⟩
 rcases h.2 with h0 | ⟨g, cap, cur, e, hg, r⟩
 ·exact .inl h0
 ·exact .inr ⟨g, cap, cur, e, by omega, r⟩
def Rng (z : Int) : Prop := -9223372036854775808 ≤ z ∧ z ≤ 9223372036854775807
end Go.Proofs.YtkefdkboejimeaaGreatDoor
