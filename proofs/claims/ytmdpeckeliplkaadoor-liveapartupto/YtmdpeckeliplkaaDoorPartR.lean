/- Joined texts: GAll, GRef. -/
import Derived.Test.YtmdpeckeliplkaaDoorGNamesJ
import Derived.Test.YtmdpeckeliplkaaDoorPartE
import Derived.Test.YtmdpeckeliplkaaDoorPartJ
/- All names that stand in a graph, by the walk (mkGAll.py). -/
namespace Go.Proofs.YtmdpeckeliplkaaDoor
open Go.RowKit

/-- append(s, x...), as one operation: to a list of the call's own, of any list. -/
theorem wp_app {α : Type} {o : Oper} {a : Act} {w : World} {K : Act → World → Prop} {Q : Exit → Act → World → Prop} (s x : Operand) (t te : TypeId) (size bytes : Nat) (z : Value) (i0 : TypeInfo) (f : α → List Value)
    (ho : o.op = .call { callee := .builtin .append, args := #[s, x], argTypes := #[t, t] }) (ht : Tryd.prog.underlying t = some (.slice te)) (hi : Tryd.prog.info? te = some i0) (hz : i0.zero = some z)
    (hsize : i0.size = size) (hby : i0.bytes = bytes) (hzs : z.cells.size = size) (hsz : 0 < size) (base : Nat) (v : Value) (xs : List α) (hs : a.eval s = v) (hown : OwnsL te size f w base v xs) (hb : base ≤ w.heap.size)
    (xv : Value) (ys : List α) (hx : a.eval x = xv) (hys : IsL bytes size f w xv ys) (hl : ∀ y, (f y).length = size) (h1 : ∀ y, ∀ u ∈ f y, u.oneCell' = true) (hm : xs.length + ys.length ≤ 9223372036854775807) (hmb : (xs.length + ys.length) * bytes ≤ 140737488355328)
    (h : ∀ v' w', OwnsL te size f w' base v' (xs ++ ys) → w.grownBy w' v.ownBlock → K (a.put o.dst v') w') : o.wp Tryd.prog a w K Q := by
  obtain ⟨ao, cap, rfl, k1, k2, k3, k4, k5⟩ := hys
  cases ao with
  | none =>
    obtain ⟨hn, rfl⟩ := k4 rfl
    obtain rfl : ys = [] := List.length_eq_zero_iff.1 (by omega)
    have hrun := run_append_owned_none (P := Tryd.prog) (w := w) base t o.type te i0 size ht hi v xs.length (xs.flatMap f) hown
    unfold Oper.wp
    simp only [List.length_nil] at hx
    simp [execOp, ho, resolve, invoke, builtin, hs, hx, hrun, Result.andThen]
    exact h _ _ (by rw [List.append_nil]; exact hown) (grown_any (grown_refl _) _)
  | some ad =>
    refine wp_append_own w s x t ho base te i0 z size bytes ht hi hz hsize hby hzs hsz v xs.length (xs.flatMap f) hs hown ad ys.length cap (ys.flatMap f) hx (flat_len hl ys) ?_ ?_ hm hmb hb ?_
    · intro j u hu
      by_cases hy : 0 < ys.length
      · obtain ⟨b, off, hao, hc⟩ := k5 hy
        obtain rfl := Option.some.inj hao
        have hj : j < ys.length * size := by
          have := (List.getElem?_eq_some_iff.1 hu).1
          rwa [flat_len hl] at this
        have hjs : j % size < size := Nat.mod_lt _ hsz
        have hjd : j / size < ys.length := (Nat.div_lt_iff_lt_mul hsz).2 hj
        have e1 : j = j / size * size + j % size := by rw [Nat.mul_comm]; exact (Nat.div_add_mod j size).symm
        rw [e1, flat_at hl ys _ _ hjd hjs] at hu
        rw [Addr.add_lit]
        have := (hc (j / size) hjd (j % size) hjs).1
        rw [Nat.add_assoc, ← e1] at this
        rw [this, hu]
      · obtain rfl : ys = [] := List.length_eq_zero_iff.1 (by omega)
        simp at hu
    · intro u hu
      obtain ⟨y, -, hy⟩ := List.mem_flatMap.1 hu
      exact h1 y u hy
    · intro v' w' ho' hg _
      refine h v' w' ?_ hg
      unfold OwnsL
      rw [List.length_append, List.flatMap_append]
      exact ho'

theorem wpl_app {α : Type} {ops : Array Oper} {rest : List Oper} {o : Oper} {a : Act} {w : World} {Q : Exit → Act → World → Prop} (hgd : o.guard = none) (s x : Operand) (t te : TypeId) (size bytes : Nat) (z : Value) (i0 : TypeInfo) (f : α → List Value)
    (ho : o.op = .call { callee := .builtin .append, args := #[s, x], argTypes := #[t, t] }) (ht : Tryd.prog.underlying t = some (.slice te)) (hi : Tryd.prog.info? te = some i0) (hz : i0.zero = some z)
    (hsize : i0.size = size) (hby : i0.bytes = bytes) (hzs : z.cells.size = size) (hsz : 0 < size) (base : Nat) (v : Value) (xs : List α) (hs : a.eval s = v) (hown : OwnsL te size f w base v xs) (hb : base ≤ w.heap.size)
    (xv : Value) (ys : List α) (hx : a.eval x = xv) (hys : IsL bytes size f w xv ys) (hl : ∀ y, (f y).length = size) (h1 : ∀ y, ∀ u ∈ f y, u.oneCell' = true) (hm : xs.length + ys.length ≤ 9223372036854775807) (hmb : (xs.length + ys.length) * bytes ≤ 140737488355328)
    (h : ∀ v' w', OwnsL te size f w' base v' (xs ++ ys) → w.grownBy w' v.ownBlock → wpList Tryd.prog ops Q rest (a.put o.dst v') w') : wpList Tryd.prog ops Q (o :: rest) a w :=
  wpList_plain hgd fun _ hK => wp_app s x t te size bytes z i0 f ho ht hi hz hsize hby hzs hsz base v xs hs hown hb xv ys hx hys hl h1 hm hmb fun v' w' h2 h3 => hK _ _ (h v' w' h2 h3)

theorem scell_one (y : ByteArray) : ∀ u ∈ scell y, u.oneCell' = true := by intro u hu; rw [scell, List.mem_singleton] at hu; subst hu; rfl

/-- All names that stand in a graph. -/
def allN (cs : List Nc) (vin vout : List (Val × List Int)) (its : List (Nam × List Int × List Int)) : List ByteArray := (vin.map (·.1)).map (·.name) ++ (vout.map (·.1)).map (·.name) ++ (its.map (·.1)).map (·.name) ++ cs.flatMap (fun c => c.n.out :: c.ins)

theorem flat_le {cs : List Nc} (h : ∀ c ∈ cs, c.ins.length ≤ 1048576) : (cs.flatMap (fun c => c.n.out :: c.ins)).length ≤ cs.length * 1048577 := by
  induction cs with
  | nil => simp
  | cons c l ih =>
    have h1 := h c (by simp)
    have h2 := ih (fun c hc => h c (by simp [hc]))
    rw [List.flatMap_cons, List.length_append, List.length_cons, List.length_cons]
    omega

theorem take_flat {cs : List Nc} {k : Nat} {A : Nc} (hk : cs[k]? = some A) : (cs.take (k + 1)).flatMap (fun c => c.n.out :: c.ins) = (cs.take k).flatMap (fun c => c.n.out :: c.ins) ++ [A.n.out] ++ A.ins := by
  rw [List.take_add_one, List.flatMap_append, hk]
  simp

end Go.Proofs.YtmdpeckeliplkaaDoor

/- The document's readers, by the walk. -/
namespace Go.Proofs.YtmdpeckeliplkaaDoor
open Go.RowKit

set_option maxRecDepth 100000 in
set_option maxHeartbeats 1600000 in
theorem gamong_any (x : ByteArray) (v : Value) (xs : List ByteArray) (w : World) (hv : IsStrs w v xs) :
    Calls Tryd.prog 50 #[.string x, v] w fun e w' => e = .returned (.bool (xs.any (isS x))) ∧ w.grownBy w' none := by
  have HV := hide hv
  obtain ⟨va, vc, rfl, h1, h2, h3⟩ := hv.form
  clear hv
  go_enter Tryd.func50, Tryd.ntmps50
  go_wp2_with fail
  go_loopw [5] (fun i wr => w.grownBy wr none ∧ ∃ k : Nat, k ≤ xs.length ∧ i = .int .i64 k ∧ (xs.take k).any (isS x) = false) (fun i _ => xs.length - (intOf i).toNat)
  case atStart => exact ⟨grown_refl _, 0, Nat.zero_le _, rfl, rfl⟩
  case round =>
    obtain ⟨hg, k, hk, rfl, hno⟩ := hrel
    have HNO := hide hno
    clear hno
    by_cases hlt : k < xs.length
    · have HVk := HV.out.more hg
      obtain ⟨vb, vo, rfl⟩ := HVk.addr hlt
      have a0 := str_at HVk k hlt
      have HK : Hid (xs[k]? = some xs[k]) := List.getElem?_eq_getElem hlt
      obtain ⟨Y, hY⟩ : ∃ Y, Y = xs[k] := ⟨_, rfl⟩
      rw [← hY] at a0 HK
      clear HVk hY
      by_cases h : (Y.toList == x.toList) = true
      · have E : Hid (xs.any (isS x) = true) := List.any_eq_true.2 ⟨Y, List.mem_of_getElem? HK.out, by unfold isS; rw [BEq.comm]; exact h⟩
        go_wp2
        go_ret
        exact ⟨by rw [E.out]; rfl, hg⟩
      · have h' : (Y.toList == x.toList) = false := by simpa using h
        have HN : Hid ((xs.take (k + 1)).any (isS x) = false) := by
          show _ = _
          rw [List.take_add_one, List.any_append, HNO.out, HK.out]
          have h2 : (x.toList == Y.toList) = false := by rw [BEq.comm]; exact h'
          simp [isS, h2]
        clear h
        go_wp2
        go_roundw
        case rel => exact ⟨hg, k + 1, by omega, by go_num, HN.out⟩
        case measure => simp [intOf]; omega
    · obtain rfl : k = xs.length := by omega
      have E : Hid (xs.any (isS x) = false) := by have := HNO.out; rwa [List.take_of_length_le (Nat.le_refl _)] at this
      go_wp2
      go_ret
      exact ⟨by rw [E.out]; rfl, hg⟩

end Go.Proofs.YtmdpeckeliplkaaDoor
