/- Joined texts: NFresh, NCopyT, NCopyN. -/
import Derived.Test.YtkefdkboejimeaaGreatDoorRartAI
import Derived.Test.YtkefdkboejimeaaGreatDoorRartAJ
import Derived.Test.YtkefdkboejimeaaGreatDoorRartAC
import Derived.Test.YtkefdkboejimeaaGreatDoorRartAF
namespace Go.Proofs.YtkefdkboejimeaaGreatDoor

open Go.RowKit

def icell (z : Int) : List Value := [.int .i64 z]

theorem icell_len (z : Int) : (icell z).length = 1 := rfl

theorem icells (zs : List Int) : zs.flatMap icell = zs.map (Value.int .i64) := by
  induction zs with
  | nil => rfl
  | cons z l ih => rw [List.flatMap_cons, ih]; rfl

def New (n m : Nat) (v : Value) : Prop := ∀ k, v.ownBlock = some k → n ≤ k ∧ k < m

theorem New.mono {n m n' m' : Nat} {v : Value} (h : New n m v) (hn : n' ≤ n) (hm : m ≤ m') : New n' m' v := fun k hk => by have := h k hk; omega

theorem isL_ints {w : World} {v : Value} {zs : List Int} (h : IsInts w v zs) : IsL 8 1 icell w v zs := by
  obtain ⟨ao, cap, rfl, h1, h2, h3, h4, h5, h6⟩ := h
  refine ⟨ao, cap, rfl, h1, h2, h3, h4, fun hl => ?_⟩
  obtain ⟨b, off, rfl, hc⟩ := h5 hl
  refine ⟨b, off, rfl, fun k hk j hj => ?_⟩
  obtain rfl : j = 0 := by omega
  rw [Nat.mul_one, Nat.add_zero, hc k hk]
  exact ⟨by simp [icell, List.getD, hk], by simp [icell]⟩

theorem ints_isL {w : World} {v : Value} {zs : List Int} (h : IsL 8 1 icell w v zs) (hwf : ∀ z ∈ zs, -9223372036854775808 ≤ z ∧ z ≤ 9223372036854775807) : IsInts w v zs := by
  obtain ⟨ao, cap, rfl, h1, h2, h3, h4, h5⟩ := h
  refine ⟨ao, cap, rfl, h1, h2, h3, h4, fun hl => ?_, hwf⟩
  obtain ⟨b, off, rfl, hc⟩ := h5 hl
  refine ⟨b, off, rfl, fun k hk => ?_⟩
  obtain ⟨e, -⟩ := hc k hk 0 (by omega)
  rw [Nat.mul_one, Nat.add_zero] at e
  rw [e]
  simp [icell, List.getD, hk]

theorem infoI64 : (Tryz.prog.info? 2).map (fun i => (i.zero, i.size, i.bytes)) = some (some (.int .i64 0), 1, 8) := by kernel_rfl

end Go.Proofs.YtkefdkboejimeaaGreatDoor

namespace Go.Proofs.YtkefdkboejimeaaGreatDoor

open Go.RowKit

theorem tenInfo : (Tryz.prog.info? 25).map (·.size) = some 3 := by kernel_rfl

theorem store3t {w3 : World} {B : Nat} {z0 z1 z2 : Value} {t : TypeId} (a b c : Value) (hb : w3.heap[B]? = some (.cells #[z0, z1, z2] t (0, 0))) :
    (((w3.setCell ⟨B, 0, none⟩ a).setCell ⟨B, 1, none⟩ b).setCell ⟨B, 2, none⟩ c).heap[B]? = some (.cells #[a, b, c] t (0, 0)) ∧ w3.grownBy (((w3.setCell ⟨B, 0, none⟩ a).setCell ⟨B, 1, none⟩ b).setCell ⟨B, 2, none⟩ c) (some B) := by
  have h1 := heap_setCell_same w3 B 0 _ _ a hb
  have h2 := heap_setCell_same _ B 1 _ _ b h1
  have h3 := heap_setCell_same _ B 2 _ _ c h2
  have g : ∀ (x : World) (j : Nat) (v : Value), x.grownBy (x.setCell ⟨B, j, none⟩ v) (some B) := fun x j v =>
    ⟨rfl, rfl, rfl, by simp [World.setCell], fun k _ hk => Below.heap_setCell _ _ _ _ (fun e => hk (by rw [e]))⟩
  exact ⟨by simpa using h3, grown_same (grown_same (g w3 0 a) (g _ 1 b)) (g _ 2 c)⟩

theorem ten_frozen {w : World} {B : Nat} {z0 z1 z2 : Value} {t : TypeId} (hb : w.heap[B]? = some (.cells #[z0, z1, z2] t (0, 0))) :
    w.frozen? ⟨B, 0, none⟩ = false ∧ w.frozen? ⟨B, 1, none⟩ = false ∧ w.frozen? ⟨B, 2, none⟩ = false :=
  ⟨frozen_of_row w B 0 _ _ hb, frozen_of_row w B 1 _ _ hb, frozen_of_row w B 2 _ _ hb⟩

end Go.Proofs.YtkefdkboejimeaaGreatDoor

namespace Go.Proofs.YtkefdkboejimeaaGreatDoor

open Go.RowKit

structure Cont where
  d : List Int
  t : List Int
  i : List Int

def strip (a : Atr) : Atr := ⟨a.name, a.kind, a.f, a.i, a.s, a.ty, ⟨none, 0, 0⟩, ⟨none, 0, 0⟩, ⟨none, 0, 0⟩⟩

structure Has (w : World) (a : Atr) (c : Cont) : Prop where
  d : IsInts w a.dv.v c.d
  t : IsInts w a.tv.v c.t
  i : IsInts w a.iv.v c.i

def Apt (u v : Value) : Prop := ∀ k, u.ownBlock = some k → v.ownBlock ≠ some k

structure NewA (n m : Nat) (a : Atr) : Prop where
  d : New n m a.dv.v
  t : New n m a.tv.v
  i : New n m a.iv.v

structure ApA (a : Atr) (v : Value) : Prop where
  d : Apt a.dv.v v
  t : Apt a.tv.v v
  i : Apt a.iv.v v

theorem Has.kept {w w' : World} {a : Atr} {c : Cont} (h : Has w a c) (hk : ∀ b, b < w.heap.size → (a.dv.v.ownBlock = some b ∨ a.tv.v.ownBlock = some b ∨ a.iv.v.ownBlock = some b) → w'.heap[b]? = w.heap[b]?) : Has w' a c :=
  ⟨h.d.kept fun b hb e => hk b hb (Or.inl e), h.t.kept fun b hb e => hk b hb (Or.inr (Or.inl e)), h.i.kept fun b hb e => hk b hb (Or.inr (Or.inr e))⟩

theorem Has.more {w w' : World} {a : Atr} {c : Cont} (h : Has w a c) (hg : w.grownBy w' none) : Has w' a c := ⟨h.d.more hg, h.t.more hg, h.i.more hg⟩

theorem NewA.mono {n m n' m' : Nat} {a : Atr} (h : NewA n m a) (hn : n' ≤ n) (hm : m ≤ m') : NewA n' m' a := ⟨h.d.mono hn hm, h.t.mono hn hm, h.i.mono hn hm⟩

theorem NewA.any {n m : Nat} {a : Atr} (h : NewA n m a) {b : Nat} (e : a.dv.v.ownBlock = some b ∨ a.tv.v.ownBlock = some b ∨ a.iv.v.ownBlock = some b) : n ≤ b ∧ b < m := by
  rcases e with e | e | e
  · exact h.d b e
  · exact h.t b e
  · exact h.i b e

theorem ApA.any {a : Atr} {v : Value} (h : ApA a v) {b : Nat} (e : a.dv.v.ownBlock = some b ∨ a.tv.v.ownBlock = some b ∨ a.iv.v.ownBlock = some b) : v.ownBlock ≠ some b := by
  rcases e with e | e | e
  · exact h.d b e
  · exact h.t b e
  · exact h.i b e

theorem ApA.of {a : Atr} {v : Value} (h : ∀ b, (a.dv.v.ownBlock = some b ∨ a.tv.v.ownBlock = some b ∨ a.iv.v.ownBlock = some b) → v.ownBlock ≠ some b) : ApA a v :=
  ⟨fun b e => h b (Or.inl e), fun b e => h b (Or.inr (Or.inl e)), fun b e => h b (Or.inr (Or.inr e))⟩

theorem acells_len (a : Atr) : (acells a).length = 9 := rfl

structure Copied (w w' : World) (n : Nod) (ins : List ByteArray) (xs : List Atr) (cs : List Cont) (iv av : Sl) (ys : List Atr) : Prop where
  ins : OwnsL 9 1 scell w' w.heap.size iv.v ins
  own : OwnsL 38 9 acells w' w.heap.size av.v ys
  eq : ys.map strip = xs.map strip
  has : ∀ (j : Nat) (a : Atr) (c : Cont), ys[j]? = some a → cs[j]? = some c → Has w' a c
  new : ∀ a ∈ ys, NewA w.heap.size w'.heap.size a ∧ ApA a av.v ∧ ApA a iv.v
  apt : Apt iv.v av.v
  grown : w.grownBy w' none

end Go.Proofs.YtkefdkboejimeaaGreatDoor
