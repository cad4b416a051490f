/- The document's Fields and Packed, by the walk. -/
import Derived.Test.YtoadpjegdhlphaaWRField
import Derived.Test.YtoadpjegdhlphaaWAll
namespace Go.Proofs.Ytoadpjegdhlphaa
open Go.RowKit

/-- append(l, x), in a plain region. -/
theorem wpList_push {α : Type} {ops : Array Oper} {rest : List Oper} {o : Oper} {a : Act} {w : World} {Q : Exit → Act → World → Prop} (hgd : o.guard = none) (s x : Operand) (t te : TypeId) (size bytes : Nat) (z : Value) (i0 : TypeInfo) (f : α → List Value)
    (ho : o.op = .call { callee := .builtin .append, args := #[s, x], argTypes := #[t, t] }) (ht : Try.prog.underlying t = some (.slice te)) (hi : Try.prog.info? te = some i0) (hz : i0.zero = some z)
    (hsize : i0.size = size) (hby : i0.bytes = bytes) (hzs : z.cells.size = size) (hsz : 0 < size) (base : Nat) (v : Value) (xs : List α) (hs : a.eval s = v) (hown : OwnsL te size f w base v xs)
    (B c : Nat) (y : α) (cs : Array Value) (hx : a.eval x = .slice (some ⟨B, 0, none⟩) 1 c) (hB : w.heap[B]? = some (.cells cs te (0, 0))) (hcs : cs.toList = f y) (hl : (f y).length = size) (h1 : ∀ u ∈ f y, u.oneCell' = true)
    (hbytes : (xs.length + 1) * bytes ≤ 140737488355328) (h63 : xs.length + 1 ≤ maxLen) (hbase : base ≤ w.heap.size)
    (h : ∀ v' w', OwnsL te size f w' base v' (xs ++ [y]) → w.grownBy w' v.ownBlock → wpList Try.prog ops Q rest (a.put o.dst v') w') : wpList Try.prog ops Q (o :: rest) a w :=
  wpList_plain hgd fun _ hK => wp_push s x t te size bytes z i0 f ho ht hi hz hsize hby hzs hsz base v xs hs hown B c y cs hx hB hcs hl h1 hbytes h63 hbase fun v' w' h2 h3 => hK _ _ (h v' w' h2 h3)

theorem fcells_one (x : Fld) : ∀ u ∈ fcells x, u.oneCell' = true := by
  intro u hu; simp [fcells] at hu; rcases hu with rfl | rfl | rfl | rfl <;> rfl
theorem ncells_one (x : Nat) : ∀ u ∈ ncells x, u.oneCell' = true := by
  intro u hu; simp [ncells] at hu; rcases hu with rfl; rfl

/-- What the document's Fields answers, of a text that is not too long. -/
def FieldsT (s : ByteArray) (w : World) (e : Ending) (w' : World) : Prop :=
  ∃ v E, e = .returned (.tuple #[v, .int .i64 E]) ∧ w.grownBy w' none ∧ ((s.size ≤ 16777216 ∧ ∃ xs, all (fd s) s.size = some xs ∧ E = 0 ∧ OwnsL 34 4 fcells w' w.heap.size v xs) ∨ (s.size ≤ 16777216 ∧ all (fd s) s.size = none ∧ E = 3 ∧ v = .slice none 0 0) ∨ (16777216 < s.size ∧ E = 6 ∧ v = .slice none 0 0))

theorem fields_any (s : ByteArray) (w : World) (hs : s.size ≤ 9223372036854775807) :
    Calls Try.prog 14 #[.string s] w fun e w' => FieldsT s w e w' := by
  by_cases hlt : 16777216 < s.size
  · go_enter Try.func14, Try.ntmps14
    go_wp2
    go_ret2
    exact ⟨_, _, rfl, grown_refl _, .inr (.inr ⟨hlt, rfl, rfl⟩)⟩
  · have C := hide (takeAll_fld s w hs (by omega) (by omega))
    go_enter Try.func14, Try.ntmps14
    go_wp2_with fail
    refine C.out.mono ?_
    rintro e w1 ⟨v, E, rfl, hg, hr⟩
    go_wp2
    go_ret2
    refine ⟨_, _, rfl, hg, ?_⟩
    rcases hr with ⟨xs, h1, h2, h3⟩ | ⟨h1, h2, h3⟩
    · exact .inl ⟨by omega, xs, h1, h2, h3⟩
    · exact .inr (.inl ⟨by omega, h1, h2, h3⟩)

theorem packed_any (s : ByteArray) (w : World) (hs : s.size ≤ 9223372036854775807) (hb : s.size * 8 ≤ 140737488351232) :
    Calls Try.prog 17 #[.string s] w fun e w' => AllT_num s w e w' := by
  have C := hide (takeAll_num s w hs hb)
  go_enter Try.func17, Try.ntmps17
  go_wp2_with fail
  refine C.out.mono ?_
  rintro e w1 ⟨v, E, rfl, hg, hr⟩
  go_wp2
  go_ret2
  exact ⟨_, _, rfl, hg, hr⟩

set_option maxRecDepth 100000 in
set_option maxHeartbeats 3200000 in
theorem reffields_any (s : ByteArray) (w : World) (hs : s.size ≤ 140737488355328) :
    Calls Try.prog 15 #[.string s] w fun e w' => FieldsT s w e w' := by
  have hnot : ∀ (x : Bool) (w : World), (Op.unary .not (.bool x)).run Try.prog w = .ok (.bool (!x)) w := fun _ _ => rfl
  obtain ⟨i0, hi, hz0, hz1, hz2⟩ := info_parts info_fld
  by_cases hbig : 16777216 < s.size
  · go_enter Try.func15, Try.ntmps15
    go_wp2
    go_ret2
    exact ⟨_, _, rfl, grown_refl _, .inr (.inr ⟨hbig, rfl, rfl⟩)⟩
  · go_enter Try.func15, Try.ntmps15
    go_wp2
    go_loopg [4, 5] s.size (fun k o i wr => ∃ p v xs, k = s.size - p ∧ o = v ∧ i = .int .i64 (p : Nat) ∧ p ≤ s.size ∧ xs.length ≤ p ∧ w.grownBy wr none ∧ OwnsL 34 4 fcells wr w.heap.size v xs ∧ all (fd s) s.size = (allF (fd s) s.size (s.size - p) p).map (xs ++ ·))
    case atStart => exact ⟨0, _, [], rfl, rfl, rfl, Nat.zero_le _, Nat.zero_le _, grown_refl _, OwnsL.nil _ _ _ _ _, by simp [all]⟩
    case round =>
      obtain ⟨p, v, xs, rfl, rfl, rfl, hp, hle, hg, hown, hall⟩ := hrel
      obtain ⟨ao, cap, rfl⟩ := hown.form
      have HA := hide hall
      have HO := hide hown
      clear hall hown
      by_cases hlt : p < s.size
      · have RF := hide (reffield_any s p wr hs hp)
        go_wp2_with fail
        refine RF.out.mono ?_
        rintro e w1 ⟨⟨x, q, hx, rfl⟩ | ⟨hx, x, N, rfl⟩, hg1⟩
        · have HX := hide hx
          have hsp := fd_spec hx
          clear hx
          dsimp only [fval]
          go_wp2_with (at_builtin; refine wpList_push rfl (.tmp 25) (.tmp 27) 29 34 4 40 _ i0 fcells rfl Try.underlying29 hi hz0 hz1 hz2 rfl (by decide) w.heap.size _ xs rfl (by exact HO.out.more (grown_trans hg1 (two_new w1 _ _))) (w1.heap.size + 1) 1 x _ rfl (by exact heap_at _ _ _ (by simp)) rfl rfl (fcells_one x) (by omega) (by simp only [maxLen]; omega) (by simp; have := hg.size; have := hg1.size; omega) ?_; intro v' w5 hown5 hg5)
          go_roundg (s.size - q)
          case measure => omega
          case rel =>
            refine ⟨q, v', xs ++ [x], rfl, rfl, rfl, by omega, by simp; omega, own_row (HO.out.more (grown_trans hg1 (two_new w1 _ _))) (grown_trans hg (grown_trans hg1 (two_new w1 _ _))) (Nat.le_refl _) hg5, hown5, ?_⟩
            rw [HA.out, allF_some hlt (by omega) HX.out, app_cons, allF_fuel (item := fd s) (fun h => by have := fd_spec h; omega) (f' := s.size - q) (by omega) (by omega)]
        · dsimp only [fval]
          go_wp2
          go_ret2
          refine ⟨_, _, rfl, grown_trans (grown_trans hg hg1) (grown_new _ _), .inr (.inl ⟨by omega, ?_, rfl, rfl⟩)⟩
          rw [HA.out, allF_none hlt (by omega) hx]; rfl
      · go_wp2
        go_ret2
        refine ⟨_, _, rfl, hg, .inl ⟨by omega, xs, ?_, rfl, HO.out⟩⟩
        rw [HA.out, allF_end (by omega)]; simp

set_option maxRecDepth 100000 in
set_option maxHeartbeats 3200000 in
theorem refpacked_any (s : ByteArray) (w : World) (hs : s.size ≤ 140737488355328) (hb : s.size * 8 ≤ 140737488351232) :
    Calls Try.prog 18 #[.string s] w fun e w' => AllT_num s w e w' := by
  have hnot : ∀ (x : Bool) (w : World), (Op.unary .not (.bool x)).run Try.prog w = .ok (.bool (!x)) w := fun _ _ => rfl
  obtain ⟨i0, hi, hz0, hz1, hz2⟩ := info_parts info_num
  go_enter Try.func18, Try.ntmps18
  go_wp2
  go_loopg [4, 5] s.size (fun k o i wr => ∃ p v xs, k = s.size - p ∧ o = v ∧ i = .int .i64 (p : Nat) ∧ p ≤ s.size ∧ xs.length ≤ p ∧ w.grownBy wr none ∧ OwnsL 22 1 ncells wr w.heap.size v xs ∧ all (tk s) s.size = (allF (tk s) s.size (s.size - p) p).map (xs ++ ·))
  case atStart => exact ⟨0, _, [], rfl, rfl, rfl, Nat.zero_le _, Nat.zero_le _, grown_refl _, OwnsL.nil _ _ _ _ _, by simp [all]⟩
  case round =>
    obtain ⟨p, v, xs, rfl, rfl, rfl, hp, hle, hg, hown, hall⟩ := hrel
    obtain ⟨ao, cap, rfl⟩ := hown.form
    have HA := hide hall
    have HO := hide hown
    clear hall hown
    by_cases hlt : p < s.size
    · have RF := hide (reftake_any s p wr hs hp)
      go_wp2_with fail
      refine RF.out.mono ?_
      rintro e w1 ⟨rfl, rfl⟩
      cases hx : tk s p with
      | none =>
        obtain ⟨e1, e2, e3⟩ := tk_none hx
        rw [e1, e2, e3]
        go_wp2
        go_ret2
        refine ⟨_, _, rfl, hg, .inr ⟨?_, rfl, rfl⟩⟩
        rw [HA.out, allF_none hlt (by omega) hx]; rfl
      | some xq =>
        obtain ⟨x, q⟩ := xq
        obtain ⟨e1, e2, e3⟩ := tk_some hx
        rw [e1, e2, e3]
        have HX := hide hx
        have hsp := tk_spec hx
        clear hx e1 e2 e3
        go_wp2_with (at_builtin; refine wpList_push rfl (.tmp 22) (.tmp 24) 35 22 1 8 _ i0 ncells rfl Try.underlying35 hi hz0 hz1 hz2 rfl (by decide) w.heap.size _ xs rfl (by exact HO.out.more (grown_new w1 _)) w1.heap.size 1 x _ rfl (by exact heap_at _ _ _ rfl) rfl rfl (ncells_one x) (by omega) (by simp only [maxLen]; omega) (by simp; have := hg.size; omega) ?_; intro v' w5 hown5 hg5)
        go_roundg (s.size - q)
        case measure => omega
        case rel =>
          refine ⟨q, v', xs ++ [x], rfl, rfl, rfl, by omega, by simp; omega, own_row (HO.out.more (grown_new w1 _)) (grown_trans hg (grown_new w1 _)) (Nat.le_refl _) hg5, hown5, ?_⟩
          rw [HA.out, allF_some hlt (by omega) HX.out, app_cons, allF_fuel (item := tk s) (fun h => by have := tk_spec h; omega) (f' := s.size - q) (by omega) (by omega)]
    · go_wp2
      go_ret2
      refine ⟨_, _, rfl, hg, .inl ⟨xs, ?_, rfl, HO.out⟩⟩
      rw [HA.out, allF_end (by omega)]; simp

theorem reftakeV_any (s : ByteArray) (p : Int) (w : World) (hs : s.size ≤ 140737488355328) :
    Calls Try.prog 10 #[.string s, .int .i64 p] w fun e w' => e = .returned (.tuple #[.int .u64 (TV s p).1, .int .i64 (TV s p).2.1, .int .i64 (TV s p).2.2]) ∧ w' = w := by
  have hnot : ∀ (x : Bool) (w : World), (Op.unary .not (.bool x)).run Try.prog w = .ok (.bool (!x)) w := fun _ _ => rfl
  by_cases h0 : p < 0
  · go_enter Try.func10, Try.ntmps10
    go_wp2
    go_ret3
    exact ⟨by simp [TV, h0], rfl⟩
  · by_cases h1 : (s.size : Int) < p
    · go_enter Try.func10, Try.ntmps10
      go_wp2
      go_ret3
      exact ⟨by simp [TV, h1], rfl⟩
    · obtain ⟨q, rfl⟩ : ∃ q : Nat, p = q := ⟨p.toNat, by omega⟩
      have C := hide (reftake_any s q w hs (by omega))
      have E : Hid (TV s (q : Int) = (tkU s q, tkN s q, tkE s q)) := by unfold TV; rw [if_neg (by omega)]; rfl
      go_enter Try.func10, Try.ntmps10
      go_wp2_with fail
      refine C.out.mono ?_
      rintro e w1 ⟨rfl, rfl⟩
      cases hx : tk s q with
      | none =>
        obtain ⟨e1, e2, e3⟩ := tk_none hx
        have EE := hide (show tkE s q = 3 by simp [tkE, hx])
        have E1 := hide e1
        have E2 := hide e2
        rw [e1, e2, e3]
        clear e1 e2 e3 hx
        go_wp2
        go_ret3
        exact ⟨by simp [E.out, E1.out, E2.out, EE.out], rfl⟩
      | some xq =>
        obtain ⟨x, r⟩ := xq
        obtain ⟨e1, e2, e3⟩ := tk_some hx
        have EE := hide (show tkE s q = 0 by simp [tkE, hx])
        rw [e3]
        clear e1 e2 e3 hx
        go_wp2
        go_ret3
        exact ⟨by simp [E.out, EE.out], rfl⟩
end Go.Proofs.Ytoadpjegdhlphaa
