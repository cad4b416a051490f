/- A graph out of lists of the call's own. -/
import Derived.Test.YtflalpchhojenaaDoorGCopyIJ
namespace Go.Proofs.YtflalpchhojenaaDoor
open Go.RowKit

theorem graphIn_parts {W : World} {h : Gra} {ms : List (Nod × Ni)} {vi vo : List (Val × List Int)} {ts : List (Nam × List Int × List Int)} (hn : IsNods W h.nv.v (ms.map (·.1))) (hnn : ∀ p ∈ ms, nodH W p.1 p.2) (ho : IsVals W h.ov.v (vo.map (·.1))) (hod : ∀ p ∈ vo, valH W p.1 p.2) (ht : IsNams W h.tv.v (ts.map (·.1))) (htd : ∀ p ∈ ts, namH W p.1 p.2) (hi : IsVals W h.iv.v (vi.map (·.1))) (hd : ∀ p ∈ vi, valH W p.1 p.2)
    (hs : ∀ p ∈ vi, p.1.name.size ≤ 1048576) (hf : ms.length ≤ 1048576 ∧ vi.length ≤ 1048576 ∧ vo.length ≤ 1048576 ∧ ts.length ≤ 1048576) : GraphIn W h (ms.map toNc) vi vo ts := by
  refine ⟨by rw [map_toNc]; exact hn, hi, ho, ht, fun c hc => ?_, hd, hod, htd, hs, by rw [List.length_map]; exact hf⟩
  obtain ⟨p, hp, rfl⟩ := List.mem_map.1 hc
  exact hnn p hp

theorem OwnD.isL {α β : Type} {te : TypeId} {size bytes : Nat} {f : α → List Value} {H : World → α → β → Prop} {foot : α → β → Nat → Prop} {w : World} {lo hi : Nat} {v : Value} {ps : List (α × β)} (h : OwnD te size f H foot w lo hi v ps) (hf : ∀ a, (f a).length = size) (hl : ps.length * bytes ≤ 140737488351232) : IsL bytes size f w v (ps.map (·.1)) :=
  h.own.isL hf (by rw [List.length_map]; exact hl)
end Go.Proofs.YtflalpchhojenaaDoor
