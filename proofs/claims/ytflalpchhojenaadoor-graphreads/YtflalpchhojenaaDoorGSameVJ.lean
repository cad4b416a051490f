/- The same values, by the walk. -/
import Derived.Test.YtflalpchhojenaaDoorGKeyJ
import Derived.Test.YtflalpchhojenaaDoorNSameNJ
namespace Go.Proofs.YtflalpchhojenaaDoor
open Go.RowKit

theorem key_at {α κ : Type} {f : α → κ} {xs ys : List α} (h : xs.map f = ys.map f) {k : Nat} (h1 : k < xs.length) (h2 : k < ys.length) : f xs[k] = f ys[k] := by
  have e := congrArg (fun l : List κ => l[k]?) h
  simp only [List.getElem?_map, List.getElem?_eq_getElem h1, List.getElem?_eq_getElem h2, Option.map_some, Option.some.injEq] at e
  exact e

set_option maxRecDepth 100000 in
set_option maxHeartbeats 3200000 in
theorem samevals_eq (u v : Value) (ps qs : List (Val × List Int)) (w : World) (hu : IsVals w u (ps.map (·.1))) (hv : IsVals w v (qs.map (·.1))) (hd : ∀ p ∈ ps, IsInts w p.1.dv.v p.2) (he : ∀ p ∈ qs, IsInts w p.1.dv.v p.2) (hk : ps.map vkey = qs.map vkey) :
    Calls Tryd.prog 40 #[u, v] w fun e w' => e = .returned (.bool true) ∧ w.grownBy w' none := by
  have H1 := hide hu
  have H2 := hide hv
  have HD := hide hd
  have HE := hide he
  have HK := hide hk
  have hln := key_len hk
  have HN := hide hln
  obtain ⟨xa, xc, e1, p1, p2, p3⟩ := hu.form
  obtain ⟨ya, yc, e2, q1, q2, q3⟩ := hv.form
  rw [List.length_map] at e1 p1 p3 e2 q1 q3
  rw [hln] at e1 p1 p3
  subst e1 e2
  clear hu hv hd he hk hln
  go_enter Tryd.func40, Tryd.ntmps40
  go_wp2_with fail
  go_loopw [5] (fun i wr => w.grownBy wr none ∧ ∃ k : Nat, k ≤ qs.length ∧ i = .int .i64 k) (fun i _ => qs.length - (intOf i).toNat)
  case atStart => exact ⟨grown_refl _, 0, Nat.zero_le _, rfl⟩
  case round =>
    obtain ⟨hg, k, hk, rfl⟩ := hrel
    by_cases hlt : k < qs.length
    · have hlp : k < ps.length := by have := HN.out; omega
      have I1 := H1.out.more hg
      have I2 := H2.out.more hg
      have hl1 : k < (ps.map (·.1)).length := by rw [List.length_map]; exact hlp
      have hl2 : k < (qs.map (·.1)).length := by rw [List.length_map]; exact hlt
      obtain ⟨ub, uo, rfl⟩ := I1.addr hl1
      obtain ⟨vb, vo, rfl⟩ := I2.addr hl2
      obtain ⟨a0, a1, a2⟩ := I1.val k hl1
      obtain ⟨b0, b1, b2⟩ := I2.val k hl2
      have hkk := key_at HK.out hlp hlt
      have hda := HD.out ps[k] (List.getElem_mem hlp)
      have heb := HE.out qs[k] (List.getElem_mem hlt)
      rw [List.getElem_map] at a0 a1 a2 b0 b1 b2
      obtain ⟨A, ds, hA⟩ : ∃ A ds, ps[k] = (A, ds) := ⟨_, _, rfl⟩
      obtain ⟨B, es, hB⟩ : ∃ B es, qs[k] = (B, es) := ⟨_, _, rfl⟩
      rw [hA] at a0 a1 a2 hkk hda
      rw [hB] at b0 b1 b2 hkk heb
      simp only [vkey, Prod.mk.injEq] at hkk
      obtain ⟨k1, k2, rfl⟩ := hkk
      simp only at a0 a1 a2 b0 b1 b2 hda heb
      rw [← k1] at b0
      rw [← k2] at b1
      have SM := hide (sameints_eq A.dv.v B.dv.v ds wr.drew (hda.more (grown_drew hg)) (heb.more (grown_drew hg)))
      have CX := hide (fun (wx : World) (hx : wr.grownBy wx none) => And.intro (And.intro (cell_still a0 hx) (And.intro (cell_still a1 hx) (cell_still a2 hx))) (And.intro (cell_still b0 hx) (And.intro (cell_still b1 hx) (cell_still b2 hx))))
      have gd := grown_drew (grown_refl wr)
      clear I1 I2 hA hB k1 k2 hda heb
      go_wp2_with fail
      go_region_held3 (fun w' => w'.cell? ⟨ub, uo + k * 3, none⟩ = some (.string A.name) ∧ w'.cell? ⟨ub, uo + k * 3 + 1, none⟩ = some (.int .i64 A.ty) ∧ w'.cell? ⟨ub, uo + k * 3 + 2, none⟩ = some (.slice A.dv.a A.dv.n A.dv.c) ∧ w'.cell? ⟨vb, vo + k * 3, none⟩ = some (.string A.name) ∧ w'.cell? ⟨vb, vo + k * 3 + 1, none⟩ = some (.int .i64 A.ty) ∧ w'.cell? ⟨vb, vo + k * 3 + 2, none⟩ = some (.slice B.dv.a B.dv.n B.dv.c)) (go_keep) (first | (go_at_call 14; refine SM.out.mono ?_; rintro e w3 ⟨rfl, hg3⟩; have g3 : wr.grownBy w3 none := grown_trans gd hg3; obtain ⟨⟨a0, a1, a2⟩, b0, b1, b2⟩ := CX.out w3 g3) | fail)
      all_goals
        go_wp2
        go_roundw
        case rel => exact ⟨grown_trans hg g3, k + 1, by omega, by go_num⟩
        case measure => simp [intOf]; omega
    · go_wp2
      go_ret
      exact ⟨rfl, hg⟩
end Go.Proofs.YtflalpchhojenaaDoor
