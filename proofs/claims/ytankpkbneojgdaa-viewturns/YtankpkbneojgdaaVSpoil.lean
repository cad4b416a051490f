/- A view that is spoilt, by the walk. -/
import Derived.Test.YtankpkbneojgdaaVRow
import Derived.Test.YtankpkbneojgdaaSCopy
import Derived.Deep.LoopGhost
namespace Go.Proofs.Ytankpkbneojgdaa
open Go.RowKit

/-- All is as it was, but the lists of a view. -/
def SpoiltV (dv sv : Value) (w w' : World) : Prop :=
  (w'.os = w.os ∧ w'.tape = w.tape ∧ w'.output = w.output ∧ w.heap.size ≤ w'.heap.size) ∧ ∀ k, k < w.heap.size → dv.ownBlock ≠ some k → sv.ownBlock ≠ some k → w'.heap[k]? = w.heap[k]?

theorem SpoiltV.row {dv sv : Value} {g : Nat} {w wr w' : World} (h : SpoiltV dv sv w wr) (hg : wr.grownBy w' (some g)) (hb : dv.ownBlock = some g ∨ sv.ownBlock = some g) : SpoiltV dv sv w w' :=
  ⟨⟨hg.os.trans h.1.1, hg.tape.trans h.1.2.1, hg.output.trans h.1.2.2.1, Nat.le_trans h.1.2.2.2 hg.size⟩, fun k hk h1 h2 => (hg.block k (Nat.lt_of_lt_of_le hk h.1.2.2.2) (fun e => by
    cases e
    rcases hb with h3 | h3
    · exact h1 h3
    · exact h2 h3)).trans (h.2 k hk h1 h2)⟩

theorem SpoiltV.below {dv sv : Value} {W w w' : World} (h : SpoiltV dv sv w w') (hg : W.grownBy w none) (hd : ∀ k, dv.ownBlock = some k → W.heap.size ≤ k) (hs : ∀ k, sv.ownBlock = some k → W.heap.size ≤ k) : W.grownBy w' none :=
  ⟨h.1.1.trans hg.os, h.1.2.1.trans hg.tape, h.1.2.2.1.trans hg.output, Nat.le_trans hg.size h.1.2.2.2, fun k hk _ => (h.2 k (Nat.lt_of_lt_of_le hk hg.size) (fun e => by have := hd k e; omega) (fun e => by have := hs k e; omega)).trans (hg.block k hk (by simp))⟩

theorem Owns.stays {w w' : World} {base : Nat} {v : Value} {zs : List Int} (h : Owns w base v zs) (hk : ∀ k, v.ownBlock = some k → w'.heap[k]? = w.heap[k]?) : Owns w' base v zs := by
  obtain ⟨⟨h1, h2⟩, h3⟩ := h
  refine ⟨⟨h1, ?_⟩, h3⟩
  rcases h2 with h2 | ⟨g, cap, cur, e, hb, hg, h4⟩
  · exact .inl h2
  · exact .inr ⟨g, cap, cur, e, hb, (hk g (by rw [e]; rfl)).trans hg, h4⟩

set_option maxRecDepth 100000 in
set_option maxHeartbeats 1600000 in
theorem vspoil_all (dv sv : Value) (base : Nat) (off : Int) (ds ss : List Int) (w : World) (od : Owns w base dv ds) (os : Owns w base sv ss) (hap : dv.ownBlock = none ∨ dv.ownBlock ≠ sv.ownBlock) :
    Calls Try.prog 12 #[.agg #[.int .i64 off, dv, sv]] w fun e w' => e = .returned (.tuple #[]) ∧ SpoiltV dv sv w w' := by
  have HAP := hide hap
  have g0 := grown_new w (.cells #[.int .i64 off, dv, sv] 24)
  have b0 := hide (heap_alloc_new w (.cells #[.int .i64 off, dv, sv] 24))
  have OD := hide (od.new g0)
  have OS := hide (os.new g0)
  have LD := hide od.lt
  have LS := hide os.lt
  obtain ⟨da, dc, rfl, hd1, hd2, hd3, -, -, -⟩ := od.ints
  obtain ⟨sa, sc, rfl, hs1, hs2, hs3, -, -, -⟩ := os.ints
  obtain ⟨w0, hw0⟩ : ∃ w0, w0 = w.alloc (.cells #[.int .i64 off, .slice da ds.length dc, .slice sa ss.length sc] 24) := ⟨_, rfl⟩
  rw [← hw0] at OD OS b0 g0
  have hz0 : w0.heap.size = w.heap.size + 1 := by rw [hw0]; simp
  have SP : Hid (SpoiltV (.slice da ds.length dc) (.slice sa ss.length sc) w w0) := ⟨⟨g0.os, g0.tape, g0.output, g0.size⟩, fun k hk _ _ => g0.block k hk (by simp)⟩
  clear od os hap g0
  go_enter Try.func12, Try.ntmps12
  go_wp2
  rw [← hw0]
  clear hw0
  go_loopg [2] ds.length (fun f i wr => ∃ (k : Nat) (zs : List Value), f = ds.length - k ∧ k ≤ ds.length ∧ i = .int .i64 k ∧ wr.ownsRow base 3 1 (.slice da ds.length dc) ds.length zs ∧ wr.ownsRow base 3 1 (.slice sa ss.length sc) ss.length (ss.map (Value.int .i64)) ∧ wr.heap[w.heap.size]? = some (.cells #[.int .i64 off, .slice da ds.length dc, .slice sa ss.length sc] 24 (0, 0)) ∧ SpoiltV (.slice da ds.length dc) (.slice sa ss.length sc) w wr)
  case atStart => exact ⟨0, _, rfl, Nat.zero_le _, rfl, OD.out.1, OS.out.1, b0.out, SP.out⟩
  case round =>
    obtain ⟨k, zs, rfl, hk, rfl, hown, hows, hbx, hsp⟩ := hrel
    have HO := hide hown
    have HS := hide hows
    have HB := hide hbx
    have HSP := hide hsp
    obtain ⟨x0, x1, x2, -, -, -⟩ := box_cells hbx
    have hlt := (Array.getElem?_eq_some_iff.1 hbx).1
    clear hows hbx hsp
    by_cases hkl : k < ds.length
    · rcases hown.2 with ⟨e, h0⟩ | ⟨g, cap, cur, e, hgb, -, hnc, hcm, -, -⟩
      · omega
      · simp only [Value.slice.injEq, true_and] at e
        obtain ⟨rfl, rfl⟩ := e
        have hgw := (LD.out g rfl).2
        obtain ⟨c, hc⟩ : ∃ c, wr.cell? ⟨g, k, none⟩ = some c := ⟨zs[k]'(by have := hown.1; omega), by rw [hown.cellAt k (by omega), List.getElem?_eq_getElem]⟩
        have hf := hown.frozenAt k
        clear hown
        go_wp2
        go_roundg (ds.length - (k + 1))
        case measure => omega
        case rel =>
          obtain ⟨k1, k2⟩ := HO.out.stored k (.int .i64 (-1))
          exact ⟨k + 1, _, rfl, by omega, by go_num, k1, HS.out.kept k2 (Or.inr (fun e => by rcases HAP.out with h | h; cases h; exact h e.symm)), (k2.block _ hlt (fun e => by cases e; omega)).trans HB.out, HSP.out.row k2 (Or.inl rfl)⟩
    · clear hown
      go_wp2
      go_loopg [3] ss.length (fun f i wr => ∃ (k : Nat) (zs : List Value), f = ss.length - k ∧ k ≤ ss.length ∧ i = .int .i64 k ∧ wr.ownsRow base 3 1 (.slice sa ss.length sc) ss.length zs ∧ wr.heap[w.heap.size]? = some (.cells #[.int .i64 off, .slice da ds.length dc, .slice sa ss.length sc] 24 (0, 0)) ∧ SpoiltV (.slice da ds.length dc) (.slice sa ss.length sc) w wr)
      case atStart => exact ⟨0, _, rfl, Nat.zero_le _, rfl, HS.out, HB.out, HSP.out⟩
      case round =>
        clear x0 x1 x2 hlt HO HS HB HSP hk hkl
        obtain ⟨k, zs, rfl, hk, rfl, hown, hbx, hsp⟩ := hrel
        have HO := hide hown
        have HB := hide hbx
        have HSP := hide hsp
        obtain ⟨x0, x1, x2, -, -, -⟩ := box_cells hbx
        have hlt := (Array.getElem?_eq_some_iff.1 hbx).1
        clear hbx hsp
        by_cases hkl : k < ss.length
        · rcases hown.2 with ⟨e, h0⟩ | ⟨g, cap, cur, e, hgb, -, hnc, hcm, -, -⟩
          · omega
          · simp only [Value.slice.injEq, true_and] at e
            obtain ⟨rfl, rfl⟩ := e
            have hgw := (LS.out g rfl).2
            obtain ⟨c, hc⟩ : ∃ c, wr.cell? ⟨g, k, none⟩ = some c := ⟨zs[k]'(by have := hown.1; omega), by rw [hown.cellAt k (by omega), List.getElem?_eq_getElem]⟩
            have hf := hown.frozenAt k
            clear hown
            go_wp2
            go_roundg (ss.length - (k + 1))
            case measure => omega
            case rel =>
              obtain ⟨k1, k2⟩ := HO.out.stored k (.int .i64 (-2))
              exact ⟨k + 1, _, rfl, by omega, by go_num, k1, (k2.block _ hlt (fun e => by cases e; omega)).trans HB.out, HSP.out.row k2 (Or.inr rfl)⟩
        · clear hown
          go_wp2
          refine bodyPost_end (results_none rfl _ _ _) rfl ?_
          exact ⟨rfl, HSP.out⟩
end Go.Proofs.Ytankpkbneojgdaa
