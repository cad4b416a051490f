/- A graph that comes in has room for one more input. -/
import Derived.Test.YtflalpchhojenaaDoorPartE
namespace Go.Proofs.YtflalpchhojenaaDoor
open Go.RowKit Go.ChangeShapes

section
variable {H : Type} {enc : TypeId × Value → H} {W : World}

set_option maxRecDepth 100000 in
theorem graph_few {n : Nat} {cs : List Value} {c0 c1 c3 c4 : Value} {a : Option Addr} {m c : Nat} {x : DataW H × List MemPlace} (hf : DataW.trod enc Tryd.prog W 0 (fun _ => true) true n 26 cs = some x) (hcs : cs = [c0, c1, .slice a m c, c3, c4]) (hb : Rows.uptoBulk x.1 ≤ 1048576) : m ≤ 1048575 := by
  subst hcs
  obtain ⟨xs, n', -, hx, hl, hlen, hfs⟩ := DataW.trod_struct Tryd.underlying26 hf
  match xs, hlen with
  | [y0, y1, y2, y3, y4], _ =>
    have h0 := hfs 0 _ rfl
    have h1 := hfs 1 _ rfl
    have h2 := hfs 2 _ rfl
    have h3 := hfs 3 _ rfl
    simp [cellsStr] at h0
    simp [cellsSN] at h1
    simp [cellsSV] at h2
    rw [hx] at hb
    simp only [List.map_cons, List.map_nil, Rows.uptoBulk, Rows.uptoBulkAll] at hb
    rcases Go.Deep.open_slice Tryd.underlying23 h2 with ⟨hcs, -⟩ | ⟨ad, len, cap, m', n2, D, Pl, hcs, -, hl2, hm, hmm, hx2, -⟩
    · simp at hcs
      omega
    · simp only [if_true] at hmm
      subst hmm
      simp at hcs
      rw [hx2] at hb
      simp only [Rows.uptoBulk] at hb
      have hln := bulk_len ((List.range len).map D)
      simp only [List.length_map, List.length_range] at hln
      omega
end
end Go.Proofs.YtflalpchhojenaaDoor
