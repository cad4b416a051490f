/- Lists of fields that can be read; two that are the same are told so, by the walk. -/
import Derived.Test.YtoadpjegdhlphaaWLive
import Derived.Laws.StructEq
namespace Go.Proofs.Ytoadpjegdhlphaa
open Go.RowKit

/-- The value v is the list xs of fields, in the world w. -/
def IsFlds (w : World) (v : Value) (xs : List Fld) : Prop :=
  ∃ ao cap, v = .slice ao xs.length cap ∧ xs.length ≤ cap ∧ cap ≤ 9223372036854775807 ∧ xs.length * 40 ≤ 140737488351232 ∧ (ao = none → xs = [] ∧ cap = 0) ∧
    (0 < xs.length → ∃ b off, ao = some ⟨b, off, none⟩ ∧ ∀ j, j < xs.length * 4 → w.cell? ⟨b, off + j, none⟩ = (xs.flatMap fcells)[j]?)

theorem IsFlds.kept {w w' : World} {v : Value} {xs : List Fld} (h : IsFlds w v xs) (hk : ∀ b, b < w.heap.size → v.ownBlock = some b → w'.heap[b]? = w.heap[b]?) : IsFlds w' v xs := by
  obtain ⟨ao, cap, rfl, h1, h2, h3, h4, h5⟩ := h
  refine ⟨ao, cap, rfl, h1, h2, h3, h4, fun hl => ?_⟩
  obtain ⟨b, off, rfl, hc⟩ := h5 hl
  refine ⟨b, off, rfl, fun j hj => ?_⟩
  have h0 : w.cell? ⟨b, off + 0, none⟩ = some ((xs.flatMap fcells)[0]'(by cases xs <;> simp_all [fcells])) := by rw [hc 0 (by omega)]; simp
  have hb : b < w.heap.size := World.block_lt_of_cell? w _ h0
  rw [← hc j hj]
  exact World.cell?_of_block (hk b hb rfl)

theorem IsFlds.more {w w' : World} {v : Value} {xs : List Fld} (h : IsFlds w v xs) (hg : w.grownBy w' none) : IsFlds w' v xs := h.kept fun b hb _ => hg.block b hb (by simp)

theorem flat_len (xs : List Fld) : (xs.flatMap fcells).length = xs.length * 4 := by
  induction xs with
  | nil => rfl
  | cons a l ih => rw [List.flatMap_cons, List.length_append, ih]; simp [fcells]; omega

theorem flat_at (xs : List Fld) (k j : Nat) (hk : k < xs.length) (hj : j < 4) : (xs.flatMap fcells)[k * 4 + j]? = (fcells xs[k])[j]? := by
  induction xs generalizing k with
  | nil => simp at hk
  | cons a l ih =>
    rw [List.flatMap_cons]
    cases k with
    | zero => rw [List.getElem?_append_left (by simp [fcells]; omega)]; simp
    | succ k =>
      rw [List.getElem?_append_right (by simp [fcells]; omega)]
      have e : (k + 1) * 4 + j - (fcells a).length = k * 4 + j := by simp [fcells]; omega
      rw [e, ih k (by simpa using hk)]
      simp

theorem OwnsL.flds {w : World} {base : Nat} {v : Value} {xs : List Fld} (h : OwnsL 34 4 fcells w base v xs) (hl : xs.length * 40 ≤ 140737488351232) : IsFlds w v xs := by
  have h0 := h
  rcases h.2 with ⟨rfl, hn⟩ | ⟨g, cap, cur, rfl, _, _, hnc, hcm, _, _⟩
  · obtain rfl : xs = [] := List.length_eq_zero_iff.1 hn
    exact ⟨none, 0, rfl, by simp, by simp, by simp, fun _ => ⟨rfl, rfl⟩, fun h => by simp at h⟩
  · refine ⟨_, cap, rfl, hnc, by simpa [maxLen] using hcm, hl, (fun h => by cases h), fun _ => ⟨g, 0, rfl, fun j hj => ?_⟩⟩
    rw [Nat.zero_add, World.ownsRow.cellAt h0 j (by omega)]

/-- One element's cells. -/
theorem IsFlds.at {w : World} {b off cap : Nat} {xs : List Fld} (h : IsFlds w (.slice (some ⟨b, off, none⟩) xs.length cap) xs) (k : Nat) (hk : k < xs.length) :
    w.cell? ⟨b, off + k * 4, none⟩ = some (.int .i64 xs[k].num) ∧ w.cell? ⟨b, off + k * 4 + 1, none⟩ = some (.int .i64 xs[k].kind) ∧ w.cell? ⟨b, off + k * 4 + 2, none⟩ = some (.int .u64 xs[k].u) ∧ w.cell? ⟨b, off + k * 4 + 3, none⟩ = some (.string xs[k].b) := by
  obtain ⟨ao, cap', e, _, _, _, _, h5⟩ := h
  obtain ⟨b', off', e', hc⟩ := h5 (by omega)
  subst e'
  simp only [Value.slice.injEq, Option.some.injEq, Addr.mk.injEq] at e
  obtain ⟨⟨rfl, rfl, -⟩, -, -⟩ := e
  have f : ∀ j, j < 4 → w.cell? ⟨b, off + (k * 4 + j), none⟩ = (fcells xs[k])[j]? := fun j hj => by rw [hc _ (by omega), flat_at xs k j hk hj]
  exact ⟨f 0 (by omega), f 1 (by omega), f 2 (by omega), f 3 (by omega)⟩

set_option maxRecDepth 100000 in
set_option maxHeartbeats 1600000 in
theorem same_any (u v : Value) (xs : List Fld) (w : World) (hu : IsFlds w u xs) (hv : IsFlds w v xs) :
    Calls Try.prog 16 #[u, v] w fun e w' => e = .returned (.bool true) ∧ w.grownBy w' none := by
  have HU := hide hu
  have HV := hide hv
  obtain ⟨ua, uc, rfl, h1, h2, h3, -, h5⟩ := hu
  obtain ⟨va, vc, rfl, k1, k2, -, -, k5⟩ := hv
  go_enter Try.func16, Try.ntmps16
  go_wp2
  go_loopw [5] (fun i wr => w.grownBy wr none ∧ ∃ k : Nat, k ≤ xs.length ∧ i = .int .i64 k) (fun i _ => xs.length - (intOf i).toNat)
  case atStart => exact ⟨grown_refl _, 0, Nat.zero_le _, rfl⟩
  case round =>
    obtain ⟨hg, k, hk, rfl⟩ := hrel
    by_cases hlt : k < xs.length
    · obtain ⟨ub, uo, rfl, -⟩ := h5 (by omega)
      obtain ⟨vb', vo, rfl, -⟩ := k5 (by omega)
      obtain ⟨a0, a1, a2, a3⟩ := (HU.out.more hg).at k hlt
      obtain ⟨b0, b1, b2, b3⟩ := (HV.out.more hg).at k hlt
      clear h5 k5
      go_wp2
      go_region
      all_goals
        go_wp2
        go_roundw
        case rel => exact ⟨grown_drew hg, k + 1, by omega, by go_num⟩
        case measure => simp [intOf]; omega
    · go_wp2
      go_ret
      exact ⟨rfl, hg⟩

/-- append(s, x...): s a list of fields of the call's own, x any. -/
theorem wpList_appF {w : World} {ops : Array Oper} {rest : List Oper} {o : Oper} {a : Act} {Q : Exit → Act → World → Prop} (hgd : o.guard = none) (s x : Operand)
    (ho : o.op = .call { callee := .builtin .append, args := #[s, x], argTypes := #[29, 29] })
    (base : Nat) (v : Value) (xs : List Fld) (hs : a.eval s = v) (hown : OwnsL 34 4 fcells w base v xs) (xv : Value) (ys : List Fld) (hx : a.eval x = xv) (hys : IsFlds w xv ys)
    (hbytes : (xs.length + ys.length) * 40 ≤ 140737488351232) (hbase : base ≤ w.heap.size)
    (h : ∀ v' w', OwnsL 34 4 fcells w' base v' (xs ++ ys) → w.grownBy w' v.ownBlock → wpList Try.prog ops Q rest (a.put o.dst v') w') : wpList Try.prog ops Q (o :: rest) a w := by
  obtain ⟨i0, hi, hz0, hz1, hz2⟩ := info_parts info_fld
  obtain ⟨ao, cap, rfl, h1, h2, h3, h4, h5⟩ := hys
  cases ao with
  | none =>
    obtain ⟨rfl, rfl⟩ := h4 rfl
    refine wpList_append_own_none hgd s x 29 ho base 34 i0 4 Try.underlying29 hi v _ _ hs hown hx ?_
    exact h v w (by simpa using hown) (World.grownBy.refl _ _)
  | some ad =>
    refine wpList_append_own w hgd s x 29 ho base 34 i0 _ 4 40 Try.underlying29 hi hz0 hz1 hz2 rfl (by decide) v _ _ hs hown ad ys.length cap (ys.flatMap fcells) hx (flat_len ys) ?_ ?_ (by simp only [maxLen]; omega) (by omega) hbase ?_
    · by_cases hl : 0 < ys.length
      · obtain ⟨b, off, hao, hc⟩ := h5 hl
        obtain rfl := Option.some.inj hao
        intro j u hu
        obtain ⟨hj, -⟩ := List.getElem?_eq_some_iff.1 hu
        rw [flat_len] at hj
        rw [Addr.add_lit, hc j hj, hu]
      · obtain rfl : ys = [] := List.length_eq_zero_iff.1 (by omega)
        intro j u hu
        simp at hu
    · intro u hu
      obtain ⟨y, -, hy⟩ := List.mem_flatMap.1 hu
      exact fcells_one y u hy
    · intro v' w' ho' hg _
      refine h v' w' ?_ hg
      unfold OwnsL
      simpa [List.flatMap_append] using ho'
end Go.Proofs.Ytoadpjegdhlphaa
