/- Joined texts: EAs. -/
import Derived.Test.YtaoplfpigjkgpaaGreatDoorPartBB
import Derived.Test.YtaoplfpigjkgpaaGreatDoorPartBG
namespace Go.Proofs.YtaoplfpigjkgpaaGreatDoor

open Go.RowKit

theorem owns64_sl {w : World} {base : Nat} {v : Value} {zs : List Int} (h : Vw.Owns64 w base v zs) : ∃ a n c, v = .slice a n c := by
  obtain ⟨a, c, e, -⟩ := (OwnsE.ints (w := w) (base := base) h).sl
  exact ⟨_, _, _, e⟩

theorem ownsRow_base {w : World} {base base' te sz n : Nat} {v : Value} {cs : List Value} (h : w.ownsRow base te sz v n cs) (hb : base' ≤ base) : w.ownsRow base' te sz v n cs := by
  obtain ⟨h1, h2 | ⟨g, cap, cur, e1, e2, e3⟩⟩ := h
  · exact ⟨h1, .inl h2⟩
  · exact ⟨h1, .inr ⟨g, cap, cur, e1, Nat.le_trans hb e2, e3⟩⟩

theorem owns64_base {w : World} {base base' : Nat} {v : Value} {zs : List Int} (h : Vw.Owns64 w base v zs) (hb : base' ≤ base) : Vw.Owns64 w base' v zs := ⟨ownsRow_base h.1 hb, h.2⟩

end Go.Proofs.YtaoplfpigjkgpaaGreatDoor
