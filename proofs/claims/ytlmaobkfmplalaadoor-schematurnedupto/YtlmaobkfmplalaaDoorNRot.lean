/- append(l[k:], l[:k]...): a list turned, as one operation. -/
import Derived.Test.YtlmaobkfmplalaaDoorNNode
import Derived.Deep.RegionLawGrows
namespace Go.Proofs.YtlmaobkfmplalaaDoor
open Go.RowKit

theorem grown_weak {a b : World} (h : a.grownBy b none) (r : Option Nat) : a.grownBy b r := ⟨h.os, h.tape, h.output, h.size, fun k hk _ => h.block k hk (by simp)⟩

theorem grown_setCells (g : Nat) : ∀ (vs : List Value) (o : Nat) (w : World), w.grownBy (w.setCells g o vs) (some g)
  | [], _, w => World.grownBy.refl _ _
  | v :: r, o, w => by
    have g1 : w.grownBy (w.setCell ⟨g, o, none⟩ v) (some g) := ⟨rfl, rfl, rfl, by simp [World.setCell], fun k _ hk => Below.heap_setCell _ _ _ _ (fun e => hk (by rw [e]))⟩
    exact grown_same g1 (grown_setCells g r (o + 1) _)

theorem rot_at {xs : List Atr} {k i : Nat} (hk : k ≤ xs.length) (hi : i < (xs.drop k ++ xs.take k).length) : (i < xs.length - k ∧ ∃ h : k + i < xs.length, (xs.drop k ++ xs.take k)[i] = xs[k + i]) ∨ (xs.length - k ≤ i ∧ ∃ h : i - (xs.length - k) < xs.length, i - (xs.length - k) < k ∧ (xs.drop k ++ xs.take k)[i] = xs[i - (xs.length - k)]) := by
  rw [List.length_append, List.length_drop, List.length_take] at hi
  by_cases h : i < xs.length - k
  · refine Or.inl ⟨h, by omega, ?_⟩
    rw [List.getElem_append_left (by rw [List.length_drop]; exact h), List.getElem_drop]
  · refine Or.inr ⟨by omega, by omega, by omega, ?_⟩
    rw [List.getElem_append_right (by rw [List.length_drop]; omega), List.getElem_take]
    simp only [List.length_drop]

theorem flat_take {xs : List Atr} {k : Nat} (hk : k ≤ xs.length) : ((xs.take k).flatMap acells).length = k * 9 := by
  rw [flat_len acells_len, List.length_take]
  congr 1
  omega

theorem flat_take_at {xs : List Atr} {k j q : Nat} (hk : k ≤ xs.length) (hj : j < k) (hq : q < 9) : ((xs.take k).flatMap acells)[j * 9 + q]? = (acells (xs[j]'(by omega)))[q]? := by
  rw [flat_at acells_len _ j q (by rw [List.length_take]; omega) hq, List.getElem_take]

theorem step_rot {ops : Array Oper} {o : Oper} {a : Act} {w : World} {K : Act → World → Prop} {Q : Exit → Act → World → Prop} {E : Prop} (hgd : o.guard = none) (s x : Operand)
    (ho : o.op = .call { callee := .builtin .append, args := #[s, x], argTypes := #[23, 23] }) (base g cap k : Nat) (ys : List Atr) (hk : k ≤ ys.length)
    (hown : OwnsL 45 9 acells w base (.slice (some ⟨g, 0, none⟩) ys.length cap) ys) (hs : a.eval s = .slice (some ⟨g, k * 9, none⟩) (ys.length - k) (cap - k)) (hx : a.eval x = .slice (some ⟨g, 0, none⟩) k cap) (hb : ys.length ≤ 2097152)
    (h : ∀ (v' : Sl) w', IsAttrs w' v'.v (ys.drop k ++ ys.take k) → w.grownBy w' (some g) → (∀ b, v'.v.ownBlock = some b → b = g ∨ w.heap.size ≤ b) → K (a.put o.dst (.slice v'.a v'.n v'.c)) w') :
    if Region.wanted o (yielded ops a.tmps) = true then Oper.wp Tryd.prog o a w K Q else E := by
  obtain ⟨i1, hj, jz0, jz1, jz2⟩ := info_parts infoAttr
  have hlen : (ys.drop k ++ ys.take k).length = ys.length := by rw [List.length_append, List.length_drop, List.length_take]; omega
  have hcell : ∀ j, j < ys.length * 9 → w.cell? ⟨g, j, none⟩ = (ys.flatMap acells)[j]? := fun j hj => World.ownsRow.cellAt hown j hj
  have hcat : ∀ i q (hi : i < ys.length), q < 9 → w.cell? ⟨g, i * 9 + q, none⟩ = (acells ys[i])[q]? := by
    intro i q hi hq
    rw [hcell _ (by omega), flat_at acells_len ys i q hi hq]
  have hne : ∀ (y : Atr) q, q < 9 → (acells y)[q]? ≠ none := fun y q hq => by rw [List.getElem?_eq_getElem (by rw [acells_len]; exact hq)]; simp
  have hnews : ∀ j u, ((ys.take k).flatMap acells)[j]? = some u → w.cell? ((⟨g, 0, none⟩ : Addr).add j) = some u := by
    intro j u hu
    have hj9 : j < k * 9 := by have := (List.getElem?_eq_some_iff.1 hu).1; rwa [flat_take hk] at this
    have e : j = j / 9 * 9 + j % 9 := by omega
    rw [e, flat_take_at hk (by omega) (by omega)] at hu
    rw [Addr.add_lit, Nat.zero_add, e, hcat _ _ (by omega) (by omega), hu]
  have h1c : ∀ u ∈ (ys.take k).flatMap acells, u.oneCell' = true := by
    intro u hu
    obtain ⟨y, -, hy⟩ := List.mem_flatMap.1 hu
    exact acell_one y u hy
  rcases hown.2 with ⟨h', _⟩ | ⟨g', cap', cur, h', hbb, hg, hnc, hcm, hcs, htake⟩
  · simp at h'
  · simp only [Value.slice.injEq, Option.some.injEq, Addr.mk.injEq, and_true, true_and] at h'
    obtain ⟨rfl, rfl⟩ := h'
    by_cases hroom : ys.length + k ≤ cap
    · have hspare : ∀ j, j < ((ys.take k).flatMap acells).length → (w.cell? ⟨g, k * 9 + (ys.length - k) * 9 + j, none⟩).isSome = true ∧ w.frozen? ⟨g, k * 9 + (ys.length - k) * 9 + j, none⟩ = false := by
        intro j hj9
        rw [flat_take hk] at hj9
        refine ⟨?_, frozen_of_row w g _ _ _ hg⟩
        rw [cell_of_row w g _ _ _ (0, 0) hg, Array.getElem?_eq_getElem (by rw [hcs]; omega)]
        rfl
      refine step_append_room hgd s x 23 ho 45 i1 9 Tryd.underlying23 hj jz1 g (k * 9) (ys.length - k) (cap - k) hs ⟨g, 0, none⟩ k cap ((ys.take k).flatMap acells) hx (flat_take hk) hnews h1c (by omega) hspare ?_
      refine h ⟨some ⟨g, k * 9, none⟩, ys.length - k + k, cap - k⟩ _ ?_ (grown_setCells g _ _ w) (fun b e => Or.inl (Option.some.inj e).symm)
      refine ⟨some ⟨g, k * 9, none⟩, cap - k, by rw [hlen, Nat.sub_add_cancel hk], by rw [hlen]; omega, by simp only [maxLen] at hcm; omega, by rw [hlen]; omega, (fun e => by cases e), fun _ => ⟨g, k * 9, rfl, fun i hi q hq => ?_⟩⟩
      refine ⟨?_, hne _ q hq⟩
      rcases rot_at hk hi with ⟨h1, h2, e⟩ | ⟨h1, h2, h3, e⟩
      · rw [World.cell?_setCells_out g _ _ _ _ (fun _ _ => Or.inl (by show k * 9 + i * 9 + q < k * 9 + (ys.length - k) * 9; omega)), e, ← hcat (k + i) q h2 hq, show k * 9 + i * 9 + q = (k + i) * 9 + q by omega]
      · have hb1 : (i - (ys.length - k)) * 9 + q < ((ys.take k).flatMap acells).length := by rw [flat_take hk]; omega
        have e2 : k * 9 + i * 9 + q = k * 9 + (ys.length - k) * 9 + ((i - (ys.length - k)) * 9 + q) := by omega
        rw [e2, World.cell?_setCells_in g _ _ _ (fun j hj => (hspare j hj).1) _ hb1, e, ← flat_take_at hk h3 hq, List.getElem?_eq_getElem hb1]
    · have holds : ∀ b, some (⟨g, k * 9, none⟩ : Addr) = some b → ∀ j u, ((ys.drop k).flatMap acells)[j]? = some u → w.cell? (b.add j) = some u := by
        intro b eb j u hu
        obtain rfl := Option.some.inj eb
        have hj9 : j < (ys.length - k) * 9 := by have := (List.getElem?_eq_some_iff.1 hu).1; rwa [flat_len acells_len, List.length_drop] at this
        have e : j = j / 9 * 9 + j % 9 := by omega
        rw [e, flat_at acells_len _ _ _ (by rw [List.length_drop]; omega) (by omega), List.getElem_drop] at hu
        rw [Addr.add_lit, show k * 9 + j = (k + j / 9) * 9 + j % 9 by omega, hcat _ _ (by omega) (by omega), hu]
      refine step_append_grows hgd s x 23 ho 45 i1 (.agg #[.string ⟨#[]⟩, .int .i64 0, .int .i64 0, .int .i64 0, .string ⟨#[]⟩, .int .i64 0, .slice none 0 0, .slice none 0 0, .slice none 0 0]) 9 136 Tryd.underlying23 hj jz0 jz1 jz2 rfl (by decide) (some ⟨g, k * 9, none⟩) (ys.length - k) (cap - k) ((ys.drop k).flatMap acells) hs (fun e => by cases e) (by rw [flat_len acells_len, List.length_drop]) holds ⟨g, 0, none⟩ k cap ((ys.take k).flatMap acells) hx (flat_take hk) hnews h1c (by omega) (by simp only [maxLen]; omega) (by omega) ?_
      intro v' w' hown' hgrow
      have o2 : OwnsL 45 9 acells w' w.heap.size v' (ys.drop k ++ ys.take k) := by
        unfold OwnsL
        rw [hlen, List.flatMap_append]
        rwa [Nat.sub_add_cancel hk] at hown'
      obtain ⟨va, vc, rfl⟩ := OwnsL.form o2
      exact h ⟨va, _, vc⟩ w' (o2.isL (bytes := 136) acells_len (by rw [hlen]; omega)) (grown_weak hgrow _) (fun b e => Or.inr (World.ownsRow.lt o2 b e).1)
end Go.Proofs.YtlmaobkfmplalaaDoor
