/- A part. -/
import Derived.Test.YtbgbpfbjeleooaaGreatQartAM
namespace Go.Proofs.YtbgbpfbjeleooaaGreat.Wr
open Go.RowKit
theorem wpList_push {α : Type} {ops : Array Oper} {rest : List Oper} {o : Oper} {a : Act} {w : World} {Q : Exit → Act → World → Prop} (hgd : o.guard = none) (s x : Operand) (t te : TypeId) (size bytes : Nat) (z : Value) (i0 : TypeInfo) (f : α → List Value)
    (ho : o.op = .call { callee := .builtin .append, args := #[s, x], argTypes := #[t, t] }) (ht : Tryz.prog.underlying t = some (.slice te)) (hi : Tryz.prog.info? te = some i0) (hz : i0.zero = some z)
    (hsize : i0.size = size) (hby : i0.bytes = bytes) (hzs : z.cells.size = size) (hsz : 0 < size) (base : Nat) (v : Value) (xs : List α) (hs : a.eval s = v) (hown : OwnsL te size f w base v xs)
    (B c : Nat) (y : α) (cs : Array Value) (hx : a.eval x = .slice (some ⟨B, 0, none⟩) 1 c) (hB : w.heap[B]? = some (.cells cs te (0, 0))) (hcs : cs.toList = f y) (hl : (f y).length = size) (h1 : ∀ u ∈ f y, u.oneCell' = true)
    (hbytes : (xs.length + 1) * bytes ≤ 140737488355328) (h63 : xs.length + 1 ≤ maxLen) (hbase : base ≤ w.heap.size)
    (h : ∀ v' w', OwnsL te size f w' base v' (xs ++ [y]) → w.grownBy w' v.ownBlock → wpList Tryz.prog ops Q rest (a.put o.dst v') w') : wpList Tryz.prog ops Q (o :: rest) a w :=
     wpList_plain hgd fun _ hK => jdo s x t te size bytes z i0 f ho ht hi hz hsize hby hzs hsz base v xs hs hown B c y cs hx hB hcs hl h1 hbytes h63 hbase fun v' w' h2 h3 => hK _ _ (h v' w' h2 h3)
theorem fcells_one (x : Fld) : ∀ u ∈ fcells x, u.oneCell' = true := by
 intro u hu; simp [fcells] at hu; rcases hu with rfl | rfl | rfl | rfl <;> rfl
theorem jml (x : Nat) : ∀ u ∈ ncells x, u.oneCell' = true := by
 intro u hu; simp [ncells] at hu; rcases hu with rfl; rfl
def FieldsT (s : ByteArray) (w : World) (e : Ending) (w' : World) : Prop :=
 ∃ v E, e = .returned (.tuple #[v, .int .i64 E]) ∧ w.grownBy w' none ∧ ((s.size ≤ 16777216 ∧ ∃ xs, all (fd s) s.size = some xs ∧ E = 0 ∧ OwnsL 49 4 fcells w' w.heap.size v xs) ∨ (s.size ≤ 16777216 ∧ all (fd s) s.size = none ∧ E = 3 ∧ v = .slice none 0 0) ∨ (16777216 < s.size ∧ E = 6 ∧ v = .slice none 0 0))
theorem fields_any (s : ByteArray) (w : World) (hs : s.size ≤ 9223372036854775807) :
    Calls Tryz.prog 78 #[.string s] w fun e w' => FieldsT s w e w' := by
     by_cases hlt : 16777216 < s.size
     ·go_enter Tryz.func78, Tryz.ntmps78
      go_wp2
      go_ret2
      exact ⟨_, _, rfl, jae _, .inr (.inr ⟨hlt, rfl, rfl⟩)⟩
     ·have C := jac (jhv s w hs (by omega) (by omega))
      go_enter Tryz.func78, Tryz.ntmps78
      go_wp2_with fail
      refine C.out.mono ?_
      rintro e w1 ⟨v, E, rfl, hg, hr⟩
      go_wp2
      go_ret2
      refine ⟨_, _, rfl, hg, ?_⟩
      rcases hr with ⟨xs, h1, h2, h3⟩ | ⟨h1, h2, h3⟩
      ·exact .inl ⟨by omega, xs, h1, h2, h3⟩
      ·exact .inr (.inl ⟨by omega, h1, h2, h3⟩)
theorem packed_any (s : ByteArray) (w : World) (hs : s.size ≤ 9223372036854775807) (hb : s.size * 8 ≤ 140737488351232) :
    Calls Tryz.prog 137 #[.string s] w fun e w' => jh0 s w e w' := by
     have C := jac (jhw s w hs hb)
     go_enter Tryz.func137, Tryz.ntmps137
     go_wp2_with fail
     refine C.out.mono ?_
     rintro e w1 ⟨v, E, rfl, hg, hr⟩
     go_wp2
     go_ret2
     exact ⟨_, _, rfl, hg, hr⟩
end Go.Proofs.YtbgbpfbjeleooaaGreat.Wr
