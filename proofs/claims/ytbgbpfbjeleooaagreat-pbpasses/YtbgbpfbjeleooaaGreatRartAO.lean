/- A part. -/
import Derived.Test.YtbgbpfbjeleooaaGreatRartAM
import Derived.Test.YtbgbpfbjeleooaaGreatRartAN
set_option maxHeartbeats 3200000
set_option maxRecDepth 100000
namespace Go.Proofs.YtbgbpfbjeleooaaGreat.Wr
open Go.RowKit
theorem wpList_push {α : Type} {ops : Array Oper} {rest : List Oper} {o : Oper} {a : Act} {w : World} {Q : Exit → Act → World → Prop} (hgd : o.guard = none) (s x : Operand) (t te : TypeId) (size bytes : Nat) (z : Value) (i0 : TypeInfo) (f : α → List Value)
    (ho : o.op = .call { callee := .builtin .append, args := #[s, x], argTypes := #[t, t] }) (ht : Tryz.prog.underlying t = some (.slice te)) (hi : Tryz.prog.info? te = some i0) (hz : i0.zero = some z)
    (hsize : i0.size = size) (hby : i0.bytes = bytes) (hzs : z.cells.size = size) (hsz : 0 < size) (base : Nat) (v : Value) (xs : List α) (hs : a.eval s = v) (hown : OwnsL te size f w base v xs)
    (B c : Nat) (y : α) (cs : Array Value) (hx : a.eval x = .slice (some ⟨B, 0, none⟩) 1 c) (hB : w.heap[B]? = some (.cells cs te (0, 0))) (hcs : cs.toList = f y) (hl : (f y).length = size) (h1 : ∀ u ∈ f y, u.oneCell' = true)
    (hbytes : (xs.length + 1) * bytes ≤ 140737488355328) (h63 : xs.length + 1 ≤ maxLen) (hbase : base ≤ w.heap.size)
    (h : ∀ v' w', OwnsL te size f w' base v' (xs ++ [y]) → w.grownBy w' v.ownBlock → wpList Tryz.prog ops Q rest (a.put o.dst v') w') : wpList Tryz.prog ops Q (o :: rest) a w :=
     wpList_plain hgd fun _ hK => jc5 s x t te size bytes z i0 f ho ht hi hz hsize hby hzs hsz base v xs hs hown B c y cs hx hB hcs hl h1 hbytes h63 hbase fun v' w' h2 h3 => hK _ _ (h v' w' h2 h3)
theorem fcells_one (x : Fld) : ∀ u ∈ fcells x, u.oneCell' = true := by
 intro u hu; simp [fcells] at hu; rcases hu with rfl | rfl | rfl | rfl <;> rfl
theorem jlI (x : Nat) : ∀ u ∈ ncells x, u.oneCell' = true := by
 intro u hu; simp [ncells] at hu; rcases hu with rfl; rfl
def FieldsT (s : ByteArray) (w : World) (e : Ending) (w' : World) : Prop :=
 ∃ v E, e = .returned (.tuple #[v, .int .i64 E]) ∧ w.grownBy w' none ∧ ((s.size ≤ 16777216 ∧ ∃ xs, all (fd s) s.size = some xs ∧ E = 0 ∧ OwnsL 49 4 fcells w' w.heap.size v xs) ∨ (s.size ≤ 16777216 ∧ all (fd s) s.size = none ∧ E = 3 ∧ v = .slice none 0 0) ∨ (16777216 < s.size ∧ E = 6 ∧ v = .slice none 0 0))
theorem fields_any (s : ByteArray) (w : World) (hs : s.size ≤ 9223372036854775807) :
    Calls Tryz.prog 78 #[.string s] w fun e w' => FieldsT s w e w' := by
     by_cases hlt : 16777216 < s.size
     ·go_enter Tryz.func78, Tryz.ntmps78
      go_wp2
      go_ret2
      exact ⟨_, _, rfl, jae _, .inr (.inr ⟨hlt, rfl, rfl⟩)⟩
     ·have C := jac (jhb s w hs (by omega) (by omega))
      go_enter Tryz.func78, Tryz.ntmps78
      go_wp2_with fail
      refine C.out.mono ?_
      rintro e w1 ⟨v, E, rfl, hg, hr⟩
      go_wp2
      go_ret2
      refine ⟨_, _, rfl, hg, ?_⟩
      rcases hr with ⟨xs, h1, h2, h3⟩ | ⟨h1, h2, h3⟩
      ·exact .inl ⟨by omega, xs, h1, h2, h3⟩
      ·exact .inr (.inl ⟨by omega, h1, h2, h3⟩)
theorem packed_any (s : ByteArray) (w : World) (hs : s.size ≤ 9223372036854775807) (hb : s.size * 8 ≤ 140737488351232) :
    Calls Tryz.prog 137 #[.string s] w fun e w' => jhC s w e w' := by
     have C := jac (jhc s w hs hb)
     go_enter Tryz.func137, Tryz.ntmps137
     go_wp2_with fail
     refine C.out.mono ?_
     rintro e w1 ⟨v, E, rfl, hg, hr⟩
     go_wp2
     go_ret2
     exact ⟨_, _, rfl, hg, hr⟩
theorem reffields_any (s : ByteArray) (w : World) (hs : s.size ≤ 140737488355328) :
    Calls Tryz.prog 19 #[.string s] w fun e w' => FieldsT s w e w' := by
     have hnot : ∀ (x : Bool) (w : World), (Op.unary .not (.bool x)).run Tryz.prog w = .ok (.bool (!x)) w := fun _ _ => rfl
     obtain ⟨i0, hi, hz0, hz1, hz2⟩ := info_parts info_fld
     by_cases hbig : 16777216 < s.size
     ·go_enter Tryz.func19, Tryz.ntmps19
      go_wp2
      go_ret2
      exact ⟨_, _, rfl, jae _, .inr (.inr ⟨hbig, rfl, rfl⟩)⟩
     ·go_enter Tryz.func19, Tryz.ntmps19
      go_wp2
      go_loopg [4, 5] s.size (fun k o i wr => ∃ p v xs, k = s.size - p ∧ o = v ∧ i = .int .i64 (p : Nat) ∧ p ≤ s.size ∧ xs.length ≤ p ∧ w.grownBy wr none ∧ OwnsL 49 4 fcells wr w.heap.size v xs ∧ all (fd s) s.size = (allF (fd s) s.size (s.size - p) p).map (xs ++ ·))
      case atStart => exact ⟨0, _, [], rfl, rfl, rfl, Nat.zero_le _, Nat.zero_le _, jae _, OwnsL.nil _ _ _ _ _, by simp [all]⟩
      case round =>
       obtain ⟨p, v, xs, rfl, rfl, rfl, hp, hle, hg, hown, hall⟩ := hrel
       obtain ⟨ao, cap, rfl⟩ := hown.form
       have HA := jac hall
       have HO := jac hown
       clear hall hown
       by_cases hlt : p < s.size
       ·have RF := jac (jgw s p wr hs hp)
        go_wp2_with fail
        refine RF.out.mono ?_
        rintro e w1 ⟨⟨x, q, hx, rfl⟩ | ⟨hx, x, N, rfl⟩, hg1⟩
        ·have HX := jac hx
         have hsp := fd_spec hx
         clear hx
         dsimp only [jbq]
         go_wp2_with (at_builtin; refine wpList_push rfl (.tmp 25) (.tmp 27) 51 49 4 40 _ i0 fcells rfl Tryz.underlying51 hi hz0 hz1 hz2 rfl (by decide) w.heap.size _ xs rfl (by exact HO.out.more (jaa hg1 (jci w1 _ _))) (w1.heap.size + 1) 1 x _ rfl (by exact jbV _ _ _ (by simp)) rfl rfl (fcells_one x) (by omega) (by simp only [maxLen]; omega) (by simp; have := hg.size; have := hg1.size; omega) ?_; intro v' w5 hown5 hg5)
         go_roundg (s.size - q)
         case measure => omega
         case rel =>
          refine ⟨q, v', xs ++ [x], rfl, rfl, rfl, by omega, by simp; omega, jdg (HO.out.more (jaa hg1 (jci w1 _ _))) (jaa hg (jaa hg1 (jci w1 _ _))) (Nat.le_refl _) hg5, hown5, ?_⟩
          rw [HA.out, jd3 hlt (by omega) HX.out, jfT, je8 (item := fd s) (fun h => by have := fd_spec h; omega) (f' := s.size - q) (by omega) (by omega)]
        ·dsimp only [jbq]
         go_wp2
         go_ret2
         refine ⟨_, _, rfl, jaa (jaa hg hg1) (jab _ _), .inr (.inl ⟨by omega, ?_, rfl, rfl⟩)⟩
         rw [HA.out, jcC hlt (by omega) hx]; rfl
       ·go_wp2
        go_ret2
        refine ⟨_, _, rfl, hg, .inl ⟨by omega, xs, ?_, rfl, HO.out⟩⟩
        rw [HA.out, jbO (by omega)]; simp
end Go.Proofs.YtbgbpfbjeleooaaGreat.Wr
