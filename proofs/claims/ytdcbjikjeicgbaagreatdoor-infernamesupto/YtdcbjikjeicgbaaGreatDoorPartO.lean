/- Joined texts: IResh, IWin, IPool. -/
import Derived.Test.YtdcbjikjeicgbaaGreatDoorPartJ
import Derived.Deep.RegionHeld3
/- What infer makes of dims: reshaped, by the walk (mkIResh.py). -/
namespace Go.Proofs.YtdcbjikjeicgbaaGreatDoor
open Go.RowKit

def leftI : Option Nat → Int
  | none => -1
  | some j => j

/-- One number of a shape: where the open one is, and what stands for it. -/
def oneS (x : List Int) (d : Int) (i : Nat) (left : Option Nat) : R (Option Nat × Int) := if d = -1 then (if left = none then .ok (some i, 1) else .error 4) else if d = 0 then (if i < x.length then .ok (left, x.getD i 0) else .error 4) else .ok (left, d)

theorem shapeP_step {x l : List Int} {count : Int} {k : Nat} (hk : k < l.length) (left : Option Nat) (known : Int) (acc : List Int) : shapeP x count (l.drop k) k left known acc = (oneS x (l.getD k 0) k left).bind (fun q => (mustP (decide (1 ≤ q.2 ∧ q.2 ≤ count))).bind (fun _ => (mustP (decide (known * q.2 ≤ count))).bind (fun _ => shapeP x count (l.drop (k + 1)) (k + 1) q.1 (known * q.2) (acc ++ [q.2])))) := by
  rw [drop_step l k hk]
  rfl

def putL (left : Option Nat) (acc : List Int) (q : Int) : List Int := match left with
  | some j => acc.set j q
  | none => acc

/-- What comes out of what is known of a shape. -/
def endS (count : Int) (q : Option Nat × Int × List Int) : R (List Int) := (mustP (decide (count % q.2.1 = 0 ∧ (q.1 ≠ none ∨ q.2.1 = count)))).bind (fun _ => .ok (putL q.1 q.2.2 (count / q.2.1)))

theorem leftI_neg (left : Option Nat) : (leftI left < 0) ↔ left = none := by
  cases left <;> simp [leftI] <;> omega

set_option maxRecDepth 100000 in
set_option maxHeartbeats 2000000 in
theorem reshaped_any (u v : Sl) (x l : List Int) (w : World) (hx : IsInts w u.v x) (hv : IsInts w v.v l) (hf : Fine x) (hll : l.length ≤ 100000000) : Calls Tryz.prog 100 #[.slice u.a u.n u.c, .slice v.a v.n v.c] w (Ended w (reshapedP x l) DimsQ) := by
  obtain ⟨ux, uc, eu, c1, c2, c3⟩ := hx.sl
  obtain ⟨ua, un, uu⟩ := u
  simp only [Sl.v, Value.slice.injEq] at eu
  obtain ⟨rfl, rfl, rfl⟩ := eu
  obtain ⟨vx, vc, ev, d1, d2, d3⟩ := hv.sl
  obtain ⟨va, vn, vv⟩ := v
  simp only [Sl.v, Value.slice.injEq] at ev
  obtain ⟨rfl, rfl, rfl⟩ := ev
  have HX := hide hx
  have HV := hide hv
  have FEW := hf.few
  have CO := hide (countof_any _ x w hx)
  have P1 : countP x = .ok (prod x) := by unfold countP; rw [if_pos hf.ok]
  rw [P1] at CO
  have E0 : Hid (reshapedP x l = (shapeP x (prod x) l 0 none 1 []).bind (endS (prod x))) := by show _ = _; unfold reshapedP; rw [P1]; rfl
  have B1 := hf.le
  have B2 := hf.prod_pos
  obtain ⟨count, hcnt⟩ : ∃ c, c = prod x := ⟨_, rfl⟩
  rw [← hcnt] at CO E0 B1 B2
  clear hx hf hv P1 hcnt
  simp only at CO ⊢
  go_enter Tryz.func100, Tryz.ntmps100
  go_wp2_with (first | (go_at_call 47; refine CO.out.mono ?_; rintro e w' ⟨-, v, rfl, rfl, rfl⟩) | fail)
  clear CO
  go_loopw [6, 7, 8, 15] (fun lf kn s i wr => ∃ (k : Nat) (left : Option Nat) (known : Int) (acc : List Int) (u : Sl), k ≤ l.length ∧ i = .int .i64 k ∧ lf = .int .i64 (leftI left) ∧ kn = .int .i64 known ∧ s = .slice u.a u.n u.c ∧ Owns wr w.heap.size u.v acc ∧ acc.length = k ∧ (∀ j, left = some j → j < k) ∧ (1 ≤ known ∧ known ≤ count) ∧ shapeP x count (l.drop k) k left known acc = shapeP x count l 0 none 1 [] ∧ w.grownBy wr none) (fun _ _ _ i _ => l.length - (intOf i).toNat)
  case atStart => exact ⟨0, none, 1, [], ⟨none, 0, 0⟩, Nat.zero_le _, rfl, rfl, rfl, rfl, owns_nil _ _, rfl, (fun j h => by cases h), by omega, by rw [List.drop_zero], grown_refl _⟩
  case round =>
    obtain ⟨k, left, known, acc, ⟨qa, qn, qc⟩, hk, rfl, rfl, rfl, rfl, ho, hal, hlf, ⟨hk1, hk2⟩, hst, hg⟩ := hrel
    simp only
    have HO1 := hide ho
    have HG := hide hg
    have HLF := hide hlf
    have HAL := hide hal
    have hsz := hg.size
    clear hlf hal ho
    by_cases hkl : k < l.length
    · obtain ⟨b, off, rfl, hc⟩ := HV.out.get hkl
      have hcell : wr.cell? ⟨b, off + k, none⟩ = some (.int .i64 (l.getD k 0)) := cell_still (hc k hkl) hg
      have hwf := HV.out.wf (l.getD k 0) (by simp [List.getD, hkl])
      rw [shapeP_step hkl] at hst
      obtain ⟨d, hd0⟩ : ∃ d, d = l.getD k 0 := ⟨_, rfl⟩
      rw [← hd0] at hcell hst hwf
      clear hc hd0
      have hab : ((acc.length : Int) + 1) * 8 ≤ 140737488351232 := by have := HAL.out; omega
      by_cases hm : d = -1
      · subst hm
        by_cases hlf : left = none
        · subst hlf
          simp only [leftI]
          have hst2 : (mustP (decide (1 ≤ (1 : Int) ∧ 1 ≤ count))).bind (fun _ => (mustP (decide (known * 1 ≤ count))).bind (fun _ => shapeP x count (l.drop (k + 1)) (k + 1) (some k) (known * 1) (acc ++ [1]))) = shapeP x count l 0 none 1 [] := by rw [← hst]; rfl
          clear hst hg
          by_cases h1 : 1 ≤ (1 : Int)
          · by_cases h2 : (1 : Int) ≤ count
            · obtain ⟨P, hP⟩ : ∃ P, P = known * (1 : Int) := ⟨_, rfl⟩
              have hP1 : 1 ≤ P := by rw [hP]; have := Int.mul_le_mul hk1 h1 (by omega) (by omega); omega
              have hPm : P ≤ 65536 * 65536 := by rw [hP]; exact Int.mul_le_mul (by omega) (by omega) (by omega) (by omega)
              rw [← hP] at hst2
              have hPx : known * (1 : Int) = P := hP.symm
              clear hP
              by_cases h3 : P ≤ count
              · have HST : Hid (shapeP x count (l.drop (k + 1)) (k + 1) (some k) P (acc ++ [(1 : Int)]) = shapeP x count l 0 none 1 []) := by show _ = _; rw [← hst2]; simp [mustP, h2, h3]; rfl
                clear hst2
                go_wp2_with (first | (go_at_call 45; refine (must_yes _).mono ?_; rintro e w' ⟨rfl, rfl⟩) | (at_builtin; refine wpList_push rfl (.tmp 53) (.tmp 55) rfl w.heap.size _ _ rfl HO1.out (1 : Int) rfl (by omega) (by omega) (by omega) ?_; intro v' w4 hown hgrow) | fail)
                obtain ⟨⟨xa, xn, xc⟩, rfl⟩ := hown.sl
                have HO2 := hide hown
                have HG2 := hide (hgrow w (Nat.le_refl _) HG.out)
                clear hown hgrow
                go_roundw
                case rel => exact ⟨k + 1, (some k), P, _, ⟨xa, xn, xc⟩, by omega, by go_num, by first | rfl | simp [leftI], rfl, rfl, HO2.out, by have := HAL.out; simp; omega, (fun j h => by cases h; omega), ⟨hP1, h3⟩, HST.out, HG2.out⟩
                case measure => simp [intOf]; omega
              · have E3 : Hid (reshapedP x l = .error 4) := by show _ = _; rw [E0.out, ← hst2]; simp [mustP, h2, h3]; rfl
                have b3 : decide (P ≤ count) = false := by simpa using h3
                clear hst2
                go_wp2_with (first | (go_at_call 45; refine (must_yes _).mono ?_; rintro e w' ⟨rfl, rfl⟩; have done1 : True := trivial) | (go_at_call 45; refine (must_no _).mono ?_; rintro e w' ⟨rfl, rfl⟩) | fail)
                exact ⟨rfl, ended_err E3.out HG.out⟩
            · exact absurd (by omega) h2
          · exact absurd (by omega) h1
        · have E3 : Hid (reshapedP x l = .error 4) := by show _ = _; rw [E0.out, ← hst]; simp [oneS, hlf]; rfl
          have hnn : ¬ leftI left < 0 := fun h => hlf ((leftI_neg left).1 h)
          have bnn : decide (leftI left < 0) = false := by simpa using hnn
          clear hst
          go_wp2_with (first | (go_at_call 45; refine (must_no _).mono ?_; rintro e w' ⟨rfl, rfl⟩) | fail)
          exact ⟨rfl, ended_err E3.out HG.out⟩
      · have bm : (d == -1) = false := by simpa using hm
        by_cases hz : d = 0
        · subst hz
          by_cases hkx : k < x.length
          · obtain ⟨b', off', rfl, hcx⟩ := HX.out.get hkx
            have hcx2 : wr.cell? ⟨b', off' + k, none⟩ = some (.int .i64 (x.getD k 0)) := cell_still (hcx k hkx) hg
            have hkx' : (k : Int) < (x.length : Int) := by omega
            have hwfx := HX.out.wf (x.getD k 0) (by simp [List.getD, hkx])
            obtain ⟨y, hy⟩ : ∃ y, y = x.getD k 0 := ⟨_, rfl⟩
            have hst2 : (mustP (decide (1 ≤ y ∧ y ≤ count))).bind (fun _ => (mustP (decide (known * y ≤ count))).bind (fun _ => shapeP x count (l.drop (k + 1)) (k + 1) left (known * y) (acc ++ [y]))) = shapeP x count l 0 none 1 [] := by rw [← hst]; simp only [oneS, if_neg hm, if_pos, if_pos hkx]; rw [← hy]; rfl
            rw [← hy] at hcx2 hwfx
            clear hcx hy
            clear hst hg
            by_cases h1 : 1 ≤ y
            · by_cases h2 : y ≤ count
              · obtain ⟨P, hP⟩ : ∃ P, P = known * y := ⟨_, rfl⟩
                have hP1 : 1 ≤ P := by rw [hP]; have := Int.mul_le_mul hk1 h1 (by omega) (by omega); omega
                have hPm : P ≤ 65536 * 65536 := by rw [hP]; exact Int.mul_le_mul (by omega) (by omega) (by omega) (by omega)
                rw [← hP] at hst2
                have hPx : known * y = P := hP.symm
                clear hP
                by_cases h3 : P ≤ count
                · have HST : Hid (shapeP x count (l.drop (k + 1)) (k + 1) left P (acc ++ [y]) = shapeP x count l 0 none 1 []) := by show _ = _; rw [← hst2]; simp [mustP, h1, h2, h3]; rfl
                  clear hst2
                  go_wp2_with (first | (go_at_call 45; refine (must_yes _).mono ?_; rintro e w' ⟨rfl, rfl⟩) | (at_builtin; refine wpList_push rfl (.tmp 53) (.tmp 55) rfl w.heap.size _ _ rfl HO1.out y rfl (by omega) (by omega) (by omega) ?_; intro v' w4 hown hgrow) | fail)
                  obtain ⟨⟨xa, xn, xc⟩, rfl⟩ := hown.sl
                  have HO2 := hide hown
                  have HG2 := hide (hgrow w (Nat.le_refl _) HG.out)
                  clear hown hgrow
                  go_roundw
                  case rel => exact ⟨k + 1, left, P, _, ⟨xa, xn, xc⟩, by omega, by go_num, by first | rfl | simp [leftI], rfl, rfl, HO2.out, by have := HAL.out; simp; omega, (fun j h => by have := HLF.out j h; omega), ⟨hP1, h3⟩, HST.out, HG2.out⟩
                  case measure => simp [intOf]; omega
                · have E3 : Hid (reshapedP x l = .error 4) := by show _ = _; rw [E0.out, ← hst2]; simp [mustP, h1, h2, h3]; rfl
                  have b3 : decide (P ≤ count) = false := by simpa using h3
                  clear hst2
                  go_wp2_with (first | (go_at_call 45; refine (must_yes _).mono ?_; rintro e w' ⟨rfl, rfl⟩; have done1 : True := trivial) | (go_at_call 45; refine (must_no _).mono ?_; rintro e w' ⟨rfl, rfl⟩) | fail)
                  exact ⟨rfl, ended_err E3.out HG.out⟩
              · have E3 : Hid (reshapedP x l = .error 4) := by show _ = _; rw [E0.out, ← hst2]; simp [mustP, h2]; rfl
                have b3 : decide (y ≤ count) = false := by simpa using h2
                clear hst2
                go_wp2_with (first | (go_at_call 45; refine (must_yes _).mono ?_; rintro e w' ⟨rfl, rfl⟩) | (go_at_call 45; refine (must_no _).mono ?_; rintro e w' ⟨rfl, rfl⟩) | fail)
                exact ⟨rfl, ended_err E3.out HG.out⟩
            · have E3 : Hid (reshapedP x l = .error 4) := by show _ = _; rw [E0.out, ← hst2]; simp [mustP, h1]; rfl
              have b3 : decide (1 ≤ y) = false := by simpa using h1
              clear hst2
              go_wp2_with (first | (go_at_call 45; refine (must_yes _).mono ?_; rintro e w' ⟨rfl, rfl⟩) | (go_at_call 45; refine (must_no _).mono ?_; rintro e w' ⟨rfl, rfl⟩) | fail)
              exact ⟨rfl, ended_err E3.out HG.out⟩
          · have E3 : Hid (reshapedP x l = .error 4) := by show _ = _; rw [E0.out, ← hst]; simp [oneS, hkx]; rfl
            have bnn : decide ((k : Int) < (x.length : Int)) = false := by simpa using hkx
            clear hst
            go_wp2_with (first | (go_at_call 45; refine (must_no _).mono ?_; rintro e w' ⟨rfl, rfl⟩) | fail)
            exact ⟨rfl, ended_err E3.out HG.out⟩
        · have bz : (d == 0) = false := by simpa using hz
          have hst2 : (mustP (decide (1 ≤ d ∧ d ≤ count))).bind (fun _ => (mustP (decide (known * d ≤ count))).bind (fun _ => shapeP x count (l.drop (k + 1)) (k + 1) left (known * d) (acc ++ [d]))) = shapeP x count l 0 none 1 [] := by rw [← hst]; simp only [oneS, if_neg hm, if_neg hz]; rfl
          clear hst hg
          by_cases h1 : 1 ≤ d
          · by_cases h2 : d ≤ count
            · obtain ⟨P, hP⟩ : ∃ P, P = known * d := ⟨_, rfl⟩
              have hP1 : 1 ≤ P := by rw [hP]; have := Int.mul_le_mul hk1 h1 (by omega) (by omega); omega
              have hPm : P ≤ 65536 * 65536 := by rw [hP]; exact Int.mul_le_mul (by omega) (by omega) (by omega) (by omega)
              rw [← hP] at hst2
              have hPx : known * d = P := hP.symm
              clear hP
              by_cases h3 : P ≤ count
              · have HST : Hid (shapeP x count (l.drop (k + 1)) (k + 1) left P (acc ++ [d]) = shapeP x count l 0 none 1 []) := by show _ = _; rw [← hst2]; simp [mustP, h1, h2, h3]; rfl
                clear hst2
                go_wp2_with (first | (go_at_call 45; refine (must_yes _).mono ?_; rintro e w' ⟨rfl, rfl⟩) | (at_builtin; refine wpList_push rfl (.tmp 53) (.tmp 55) rfl w.heap.size _ _ rfl HO1.out d rfl (by omega) (by omega) (by omega) ?_; intro v' w4 hown hgrow) | fail)
                obtain ⟨⟨xa, xn, xc⟩, rfl⟩ := hown.sl
                have HO2 := hide hown
                have HG2 := hide (hgrow w (Nat.le_refl _) HG.out)
                clear hown hgrow
                go_roundw
                case rel => exact ⟨k + 1, left, P, _, ⟨xa, xn, xc⟩, by omega, by go_num, by first | rfl | simp [leftI], rfl, rfl, HO2.out, by have := HAL.out; simp; omega, (fun j h => by have := HLF.out j h; omega), ⟨hP1, h3⟩, HST.out, HG2.out⟩
                case measure => simp [intOf]; omega
              · have E3 : Hid (reshapedP x l = .error 4) := by show _ = _; rw [E0.out, ← hst2]; simp [mustP, h1, h2, h3]; rfl
                have b3 : decide (P ≤ count) = false := by simpa using h3
                clear hst2
                go_wp2_with (first | (go_at_call 45; refine (must_yes _).mono ?_; rintro e w' ⟨rfl, rfl⟩; have done1 : True := trivial) | (go_at_call 45; refine (must_no _).mono ?_; rintro e w' ⟨rfl, rfl⟩) | fail)
                exact ⟨rfl, ended_err E3.out HG.out⟩
            · have E3 : Hid (reshapedP x l = .error 4) := by show _ = _; rw [E0.out, ← hst2]; simp [mustP, h2]; rfl
              have b3 : decide (d ≤ count) = false := by simpa using h2
              clear hst2
              go_wp2_with (first | (go_at_call 45; refine (must_yes _).mono ?_; rintro e w' ⟨rfl, rfl⟩) | (go_at_call 45; refine (must_no _).mono ?_; rintro e w' ⟨rfl, rfl⟩) | fail)
              exact ⟨rfl, ended_err E3.out HG.out⟩
          · have E3 : Hid (reshapedP x l = .error 4) := by show _ = _; rw [E0.out, ← hst2]; simp [mustP, h1]; rfl
            have b3 : decide (1 ≤ d) = false := by simpa using h1
            clear hst2
            go_wp2_with (first | (go_at_call 45; refine (must_yes _).mono ?_; rintro e w' ⟨rfl, rfl⟩) | (go_at_call 45; refine (must_no _).mono ?_; rintro e w' ⟨rfl, rfl⟩) | fail)
            exact ⟨rfl, ended_err E3.out HG.out⟩
    · have hkk : k = l.length := by omega
      have E1 : Hid (reshapedP x l = endS count (left, known, acc)) := by
        show _ = _
        rw [E0.out, ← hst, List.drop_of_length_le (by omega)]
        rfl
      have hk0 : ¬ known = 0 := by omega
      have hmod : count.tmod known = count % known := Int.tmod_eq_emod_of_nonneg (by omega)
      have hdiv : count.tdiv known = count / known := Int.tdiv_eq_ediv_of_nonneg (by omega)
      have hq1 : 0 ≤ count / known := Int.ediv_nonneg (by omega) (by omega)
      have hq2 : count / known ≤ count := Int.ediv_le_self _ (by omega)
      obtain ⟨Q, hQ⟩ : ∃ Q, Q = count / known := ⟨_, rfl⟩
      obtain ⟨M, hM⟩ : ∃ M, M = count % known := ⟨_, rfl⟩
      have E2 : Hid (endS count (left, known, acc) = (mustP (decide (M = 0 ∧ (left ≠ none ∨ known = count)))).bind (fun _ => .ok (putL left acc Q))) := by show _ = _; rw [hQ, hM]; rfl
      rw [← hQ] at hdiv hq1 hq2
      rw [← hM] at hmod
      clear hst hg hQ hM hkk
      by_cases hM0 : M = 0
      · subst hM0
        cases left with
        | some j =>
          have hj := HLF.out j rfl
          have E3 : Hid (reshapedP x l = .ok (acc.set j Q)) := by show _ = _; rw [E1.out, E2.out]; simp [mustP, putL]; rfl
          have hal := HAL.out
          obtain ⟨g, gcap, eo, hbg, hgl, hlc, hcm⟩ := HO1.out.shape (by omega)
          simp only [Value.slice.injEq] at eo
          obtain ⟨rfl, rfl, rfl⟩ := eo
          obtain ⟨cc, fc⟩ := HO1.out.cells (k := j) (by omega)
          obtain ⟨so, sg⟩ := HO1.out.put j Q (by omega)
          have SO := hide so
          have SG := hide (grown_drop HG.out sg hbg)
          have hja : (j : Int) < (acc.length : Int) := by omega
          simp only [leftI]
          clear so sg hal
          go_wp2_with (first | (go_at_call 45; refine (must_yes _).mono ?_; rintro e w' ⟨rfl, rfl⟩) | fail)
          go_ret
          exact ended_ok E3.out SG.out ⟨⟨_, _, _⟩, rfl, SO.out.ints⟩
        | none =>
          simp only [leftI]
          by_cases hkc : known = count
          · have bkc : (known == count) = true := by simp [hkc]
            have E3 : Hid (reshapedP x l = .ok acc) := by show _ = _; rw [E1.out, E2.out]; simp [mustP, hkc, putL]; rfl
            clear hkc
            go_wp2_with (first | (go_at_call 45; refine (must_yes _).mono ?_; rintro e w' ⟨rfl, rfl⟩) | fail)
            go_ret
            exact ended_ok E3.out HG.out ⟨⟨qa, qn, qc⟩, rfl, HO1.out.ints⟩
          · have bkc : (known == count) = false := by simpa using hkc
            have E3 : Hid (reshapedP x l = .error 4) := by show _ = _; rw [E1.out, E2.out]; simp [mustP, hkc]; rfl
            clear hkc
            go_wp2_with (first | (go_at_call 45; refine (must_no _).mono ?_; rintro e w' ⟨rfl, rfl⟩) | fail)
            exact ⟨rfl, ended_err E3.out HG.out⟩
      · have bM : (M == 0) = false := by simpa using hM0
        have E3 : Hid (reshapedP x l = .error 4) := by show _ = _; rw [E1.out, E2.out]; simp [mustP, hM0]; rfl
        clear hM0
        go_wp2_with (first | (go_at_call 45; refine (must_no _).mono ?_; rintro e w' ⟨rfl, rfl⟩) | fail)
        exact ⟨rfl, ended_err E3.out HG.out⟩
end Go.Proofs.YtdcbjikjeicgbaaGreatDoor

/- Windows: at how many places a kernel stands, by the walk. -/
namespace Go.Proofs.YtdcbjikjeicgbaaGreatDoor
open Go.RowKit

theorem getD_mem {l : List Int} {k : Nat} (hk : k < l.length) : l.getD k 0 ∈ l := by
  rw [List.getD, List.getElem?_eq_getElem hk]
  exact List.getElem_mem hk

/-- The places, once strides, dilations and pads are known. -/
def tailP (X Y T : Int) (along : Nat) (di pa : List Int) : R Int := (mustP (decide (0 ≤ X + pa.getD along 0 + pa.getD (2 + along) 0 - di.getD along 0 * (Y - 1) - 1))).bind (fun _ => .ok ((X + pa.getD along 0 + pa.getD (2 + along) 0 - di.getD along 0 * (Y - 1) - 1) / T + 1))

set_option maxRecDepth 100000 in
set_option maxHeartbeats 2000000 in
theorem places_any (n : Nod) (A : At) (u v : Sl) (x K : List Int) (along : Nat) (w : World) (hn : NodeOk w n A) (hx : IsInts w u.v x) (hK : IsInts w v.v K) (hlx : x.length = 4) (hlK : K.length = 2) (bx : ∀ z ∈ x, 1 ≤ z ∧ z ≤ 65536) (bK : ∀ z ∈ K, 1 ≤ z ∧ z ≤ 65536) (ha : along < 2) :
    Calls Tryz.prog 185 #[nval n, .slice u.a u.n u.c, .slice v.a v.n v.c, .int .i64 along] w (Ended w (placesP A x K along) fun z v _ => v = .int .i64 z ∧ 1 ≤ z ∧ z ≤ 1000000) := by
  obtain ⟨ux, uc, eu, c1, c2, c3⟩ := hx.sl
  obtain ⟨ua, un, uu⟩ := u
  simp only [Sl.v, Value.slice.injEq] at eu
  obtain ⟨rfl, rfl, rfl⟩ := eu
  obtain ⟨vx, vc, ev, d1, d2, d3⟩ := hK.sl
  obtain ⟨va, vn, vv⟩ := v
  simp only [Sl.v, Value.slice.injEq] at ev
  obtain ⟨rfl, rfl, rfl⟩ := ev
  obtain ⟨xb, xo, rfl, hcx⟩ := hx.get (k := 0) (by omega)
  obtain ⟨kb, ko, rfl, hck⟩ := hK.get (k := 0) (by omega)
  have XC := hide (hcx (2 + along) (by omega))
  have KC := hide (hck along (by omega))
  have BX := bx _ (getD_mem (l := x) (k := 2 + along) (by omega))
  have BK := bK _ (getD_mem (l := K) (k := along) (by omega))
  rw [hlx, hlK]
  rw [hlx] at c1
  rw [hlK] at d1
  have E0 : Hid (placesP A x K along = (withinP (A.ints ⟨#[115, 116, 114, 105, 100, 101, 115]⟩ [1, 1]) 2 1).bind (fun st => (withinP (A.ints ⟨#[100, 105, 108, 97, 116, 105, 111, 110, 115]⟩ [1, 1]) 2 1).bind (fun di => (padsP A).bind (fun pa => tailP (x.getD (2 + along) 0) (K.getD along 0) (st.getD along 0) along di pa)))) := rfl
  obtain ⟨X, hX⟩ : ∃ X, X = x.getD (2 + along) 0 := ⟨_, rfl⟩
  obtain ⟨Y, hY⟩ : ∃ Y, Y = K.getD along 0 := ⟨_, rfl⟩
  rw [← hX] at XC E0 BX
  rw [← hY] at KC E0 BK
  clear hx hK hcx hck bx bK hlx hlK hX hY c3 d3
  have NK := hide hn
  obtain ⟨op, nam, ⟨ia, il, ic⟩, out, ⟨ao, al, cap⟩⟩ := n
  unfold nval
  simp only
  obtain ⟨w0, hw0⟩ : ∃ w0, w0 = w.alloc (.cells #[.string op, .string nam, .slice ia il ic, .string out, .slice ao al cap] 25) := ⟨_, rfl⟩
  have g0 : Hid (w.grownBy w0 none) := by show w.grownBy w0 none; rw [hw0]; exact grown_new _ _
  have hb0 := heap_alloc_new w (.cells #[.string op, .string nam, .slice ia il ic, .string out, .slice ao al cap] 25)
  rw [← hw0] at hb0
  have BX : Hid (∀ wx, w0.grownBy wx none → wx.heap[w.heap.size]? = some (.cells #[.string op, .string nam, .slice ia il ic, .string out, .slice ao al cap] 25 (0, 0))) := fun wx hg => box_kept hb0 hg
  clear hb0 hn
  have ST := hide (strides_any ⟨op, nam, ⟨ia, il, ic⟩, out, ⟨ao, al, cap⟩⟩ A w0 (NK.out.more g0.out))
  have DI := hide (fun (wx : World) (hg : w.grownBy wx none) => dilations_any ⟨op, nam, ⟨ia, il, ic⟩, out, ⟨ao, al, cap⟩⟩ A wx (NK.out.more hg))
  have PA := hide (fun (wx : World) (hg : w.grownBy wx none) => padsof_any ⟨op, nam, ⟨ia, il, ic⟩, out, ⟨ao, al, cap⟩⟩ A wx (NK.out.more hg))
  unfold nval at ST DI PA
  simp only at ST DI PA
  go_enter Tryz.func185, Tryz.ntmps185
  go_wp2_with fail
  rw [← hw0]
  clear hw0
  refine ST.out.mono ?_
  rintro e w1 ⟨s, rfl, hs, hg1⟩
  have G1 := hide hg1
  have WS := hide (within_any s _ 2 1 w1 hs (by decide))
  have HS := hide hs
  clear hs hg1 ST
  cases hk : withinP (A.ints ⟨#[115, 116, 114, 105, 100, 101, 115]⟩ [1, 1]) 2 1 with
  | error c =>
    rw [hk] at WS
    have E : Hid (placesP A x K along = .error c) := by show _ = _; rw [E0.out, hk]; rfl
    clear hk
    go_wp2_with (first | (go_at_call 186; refine WS.out.mono ?_; rintro e w' ⟨hg, rfl⟩) | fail)
    exact ⟨rfl, ended_err E.out (grown_trans g0.out (grown_trans G1.out hg))⟩
  | ok st =>
    rw [hk] at WS E0
    obtain ⟨e1, stl, stb⟩ := withinP_ok hk
    have BST := hide (stb _ (getD_mem (l := st) (k := along) (by omega)))
    rw [← e1] at HS
    have SC : Hid (∀ wx, w1.grownBy wx none → ∃ b off, s.a = some ⟨b, off, none⟩ ∧ wx.cell? ⟨b, off + along, none⟩ = some (.int .i64 (st.getD along 0))) := fun wx hg => by
      obtain ⟨s1, s2, s3⟩ := s
      obtain ⟨b, off, e, hc⟩ := HS.out.get (k := along) (by omega)
      exact ⟨b, off, e, cell_still (hc along (by omega)) hg⟩
    have SL : s.n = 2 := by
      obtain ⟨a', c', e, -⟩ := HS.out.sl
      have : s.n = st.length := by simp only [Sl.v, Value.slice.injEq] at e; exact e.2.1
      rw [this, stl]
    obtain ⟨b, off, esa, hsc⟩ := SC.out w1 (grown_refl _)
    obtain ⟨sa, sn, sc⟩ := s
    simp only at esa SL
    subst esa SL
    simp only [Sl.v] at WS ⊢
    have E1 : Hid (placesP A x K along = (withinP (A.ints ⟨#[100, 105, 108, 97, 116, 105, 111, 110, 115]⟩ [1, 1]) 2 1).bind (fun di => (padsP A).bind (fun pa => tailP X Y (st.getD along 0) along di pa))) := E0.out
    obtain ⟨T, hT⟩ : ∃ T, T = st.getD along 0 := ⟨_, rfl⟩
    rw [← hT] at hsc E1 BST
    have ha2 : (along : Int) < 2 := by omega
    obtain ⟨n0, n1, n2, n3, n4⟩ := nod_cells (n := ⟨op, nam, ⟨ia, il, ic⟩, out, ⟨ao, al, cap⟩⟩) (BX.out w1 (G1.out))
    clear hk e1 stl stb hT SC E0 HS
    go_wp2_with (first | (go_at_call 186; refine WS.out.mono ?_; rintro e w' ⟨-, v, rfl, rfl, -, rfl⟩) | fail)
    clear hsc WS
    refine (DI.out w1 (grown_trans g0.out G1.out)).mono ?_
    rintro e w2 ⟨s, rfl, hs, hg2⟩
    have G2 := hide (grown_trans G1.out hg2)
    have WD := hide (within_any s _ 2 1 w2 hs (by decide))
    have HS := hide hs
    clear hs hg2 DI n0 n1 n2 n3 n4
    cases hk : withinP (A.ints ⟨#[100, 105, 108, 97, 116, 105, 111, 110, 115]⟩ [1, 1]) 2 1 with
    | error c =>
      rw [hk] at WD
      have E : Hid (placesP A x K along = .error c) := by show _ = _; rw [E1.out, hk]; rfl
      clear hk
      go_wp2_with (first | (go_at_call 186; refine WD.out.mono ?_; rintro e w' ⟨hg, rfl⟩) | fail)
      exact ⟨rfl, ended_err E.out (grown_trans g0.out (grown_trans G2.out hg))⟩
    | ok di =>
      rw [hk] at WD E1
      obtain ⟨e1, dil, dib⟩ := withinP_ok hk
      have BDI := hide (dib _ (getD_mem (l := di) (k := along) (by omega)))
      rw [← e1] at HS
      have SL : s.n = 2 := by
        obtain ⟨a', c', e, -⟩ := HS.out.sl
        have : s.n = di.length := by simp only [Sl.v, Value.slice.injEq] at e; exact e.2.1
        rw [this, dil]
      obtain ⟨sa, sn, sc'⟩ := s
      obtain ⟨b2, off2, esa, hc2⟩ := HS.out.get (k := along) (by omega)
      simp only at esa SL
      subst esa SL
      have hsc := hc2 along (by omega)
      simp only [Sl.v] at WD ⊢
      have E2 : Hid (placesP A x K along = (padsP A).bind (fun pa => tailP X Y T along di pa)) := E1.out
      obtain ⟨D, hD⟩ : ∃ D, D = di.getD along 0 := ⟨_, rfl⟩
      rw [← hD] at hsc BDI
      have HDX := hide hD
      obtain ⟨n0, n1, n2, n3, n4⟩ := nod_cells (n := ⟨op, nam, ⟨ia, il, ic⟩, out, ⟨ao, al, cap⟩⟩) (BX.out w2 (G2.out))
      clear hk e1 dil dib hD E1 HS hc2
      go_wp2_with (first | (go_at_call 186; refine WD.out.mono ?_; rintro e w' ⟨-, v, rfl, rfl, -, rfl⟩) | fail)
      clear hsc WD
      have P3 := hide (PA.out w2 (grown_trans g0.out G2.out))
      clear PA n0 n1 n2 n3 n4
      cases hk : padsP A with
      | error c =>
        rw [hk] at P3
        have E : Hid (placesP A x K along = .error c) := by show _ = _; rw [E2.out, hk]; rfl
        clear hk
        refine P3.out.mono ?_
        rintro e w' ⟨hg, rfl⟩
        exact ⟨rfl, ended_err E.out (grown_trans g0.out (grown_trans G2.out hg))⟩
      | ok pa =>
        rw [hk] at P3 E2
        have E3 : Hid (placesP A x K along = tailP X Y T along di pa) := E2.out
        clear hk E2
        refine P3.out.mono ?_
        rintro e w3 ⟨hg3, v, rfl, ⟨pa1, pn, pc⟩, rfl, hp, hpl, hpb⟩
        have G3 := hide (grown_trans g0.out (grown_trans G2.out hg3))
        obtain ⟨pb, po, epa, hpc⟩ := hp.get (k := 0) (by omega)
        have SL : pn = 4 := by
          obtain ⟨a', c', e, -⟩ := hp.sl
          cases e
          exact hpl
        subst epa SL
        have p1 := hpc along (by omega)
        have p2 := hpc (2 + along) (by omega)
        have q1 := hpb _ (getD_mem (l := pa) (k := along) (by omega))
        have q2 := hpb _ (getD_mem (l := pa) (k := 2 + along) (by omega))
        have xc := cell_still XC.out G3.out
        have kc := cell_still KC.out G3.out
        have pcb : 4 ≤ pc ∧ pc ≤ 9223372036854775807 := by
          obtain ⟨a', c', e, f1, f2, -⟩ := hp.sl
          simp only [Sl.v, Value.slice.injEq] at e
          rw [hpl] at f1
          rw [e.2.2]
          exact ⟨f1, f2⟩
        obtain ⟨pc1, pc2⟩ := pcb
        have E4 : Hid (placesP A x K along = (mustP (decide (0 ≤ X + pa.getD along 0 + pa.getD (2 + along) 0 - D * (Y - 1) - 1))).bind (fun _ => .ok ((X + pa.getD along 0 + pa.getD (2 + along) 0 - D * (Y - 1) - 1) / T + 1))) := by show _ = _; rw [E3.out, HDX.out]; rfl
        obtain ⟨M, hM⟩ : ∃ M, M = D * (Y - 1) := ⟨_, rfl⟩
        have bd := BDI.out
        have bt := BST.out
        have m1 : 0 ≤ M := by rw [hM]; exact Int.mul_nonneg (by omega) (by omega)
        have m2 : M ≤ 100 * 65536 := by rw [hM]; exact Int.mul_le_mul (by omega) (by omega) (by omega) (by omega)
        obtain ⟨U, hU⟩ : ∃ U, U = pa.getD along 0 := ⟨_, rfl⟩
        obtain ⟨V, hV⟩ : ∃ V, V = pa.getD (2 + along) 0 := ⟨_, rfl⟩
        rw [← hM, ← hU, ← hV] at E4
        rw [← hU] at p1 q1
        rw [← hV] at p2 q2
        have hM' : D * (Y - 1) = M := hM.symm
        clear hM hU hV hp hpl hpb hpc E3 P3 HDX hg3
        obtain ⟨N, hN0⟩ : ∃ N, N = X + U + V - M - 1 := ⟨_, rfl⟩
        rw [← hN0] at E4
        have hN1 : X + U + V - M - 1 = N := hN0.symm
        have bN : N ≤ 200000 := by omega
        clear hN0
        rcases (show along = 0 ∨ along = 1 by omega) with rfl | rfl
        · skip
          simp only [Sl.v, Nat.add_zero, Int.natCast_zero] at *
          have hN : 0 ≤ N → N / T + 1 ≤ 1000000 ∧ 1 ≤ N / T + 1 := fun h => by
            have h1 : N / T ≤ N := Int.ediv_le_self _ h
            have h2 : 0 ≤ N / T := Int.ediv_nonneg h (by omega)
            omega
          have hdv : 0 ≤ N → N.tdiv T = N / T := fun h => Int.tdiv_eq_ediv_of_nonneg h
          have ht0 : ¬ T = 0 := by omega
          have wz2 : IntKind.i64.wrap 2 = 2 := by decide
          have wz3 : IntKind.i64.wrap 3 = 3 := by decide
          have cN : Hid (0 ≤ N → 1 ≤ N / T + 1 ∧ N / T + 1 ≤ 1000000) := fun h => ⟨(hN h).2, (hN h).1⟩
          go_wp2_with fail
          go_quiet (fail)
          clear xc kc p1 p2 wz2 wz3
          by_cases h0 : 0 ≤ N
          · have E5 : Hid (placesP A x K 0 = .ok (N / T + 1)) := by show _ = _; rw [E4.out]; simp [mustP, h0]; rfl
            have hdv' := hdv h0
            have hb := hN h0
            clear hN hdv
            go_wp2_with (first | (go_at_call 45; refine (must_yes _).mono ?_; rintro e w' ⟨rfl, rfl⟩) | fail)
            go_ret
            exact ended_ok E5.out (grown_drewQ G3.out _) ⟨rfl, cN.out h0⟩
          · have E5 : Hid (placesP A x K 0 = .error 4) := by show _ = _; rw [E4.out]; simp [mustP, h0]; rfl
            have hd0 : decide (0 ≤ N) = false := by simpa using h0
            clear hN hdv
            go_wp2_with (first | (go_at_call 45; refine (must_no _).mono ?_; rintro e w' ⟨rfl, rfl⟩) | fail)
            exact ⟨rfl, ended_err E5.out (grown_drewQ G3.out _)⟩
        · skip
          simp only [Sl.v, Nat.reduceAdd, Int.natCast_one] at *
          have hN : 0 ≤ N → N / T + 1 ≤ 1000000 ∧ 1 ≤ N / T + 1 := fun h => by
            have h1 : N / T ≤ N := Int.ediv_le_self _ h
            have h2 : 0 ≤ N / T := Int.ediv_nonneg h (by omega)
            omega
          have hdv : 0 ≤ N → N.tdiv T = N / T := fun h => Int.tdiv_eq_ediv_of_nonneg h
          have ht0 : ¬ T = 0 := by omega
          have wz2 : IntKind.i64.wrap 2 = 2 := by decide
          have wz3 : IntKind.i64.wrap 3 = 3 := by decide
          have cN : Hid (0 ≤ N → 1 ≤ N / T + 1 ∧ N / T + 1 ≤ 1000000) := fun h => ⟨(hN h).2, (hN h).1⟩
          go_wp2_with fail
          go_quiet (fail)
          clear xc kc p1 p2 wz2 wz3
          by_cases h0 : 0 ≤ N
          · have E5 : Hid (placesP A x K 1 = .ok (N / T + 1)) := by show _ = _; rw [E4.out]; simp [mustP, h0]; rfl
            have hdv' := hdv h0
            have hb := hN h0
            clear hN hdv
            go_wp2_with (first | (go_at_call 45; refine (must_yes _).mono ?_; rintro e w' ⟨rfl, rfl⟩) | fail)
            go_ret
            exact ended_ok E5.out (grown_drewQ G3.out _) ⟨rfl, cN.out h0⟩
          · have E5 : Hid (placesP A x K 1 = .error 4) := by show _ = _; rw [E4.out]; simp [mustP, h0]; rfl
            have hd0 : decide (0 ≤ N) = false := by simpa using h0
            clear hN hdv
            go_wp2_with (first | (go_at_call 45; refine (must_no _).mono ?_; rintro e w' ⟨rfl, rfl⟩) | fail)
            exact ⟨rfl, ended_err E5.out (grown_drewQ G3.out _)⟩
end Go.Proofs.YtdcbjikjeicgbaaGreatDoor

/- Pools, by the walk (mkIPool.py). -/
namespace Go.Proofs.YtdcbjikjeicgbaaGreatDoor
open Go.RowKit

/-- What a pool makes, once the kernel and the pads are known. -/
def poolP (A : At) (x K pa : List Int) : R (List Int) := (mustP ((List.range 4).all (fun i => decide (pa.getD i 0 < K.getD (i % 2) 0)))).bind (fun _ => (placesP A x K 0).bind (fun a => (placesP A x K 1).bind (fun b => .ok [x.getD 0 0, x.getD 1 0, a, b])))

theorem pads_bad {pa K : List Int} {k : Nat} (hk : k < 4) (h : ¬ pa.getD k 0 < K.getD (k % 2) 0) : (List.range 4).all (fun i => decide (pa.getD i 0 < K.getD (i % 2) 0)) = false := by
  rw [List.all_eq_false]
  exact ⟨k, List.mem_range.2 hk, by simpa using h⟩

theorem pads_good {pa K : List Int} (h : ∀ t, t < 4 → pa.getD t 0 < K.getD (t % 2) 0) : (List.range 4).all (fun i => decide (pa.getD i 0 < K.getD (i % 2) 0)) = true := by
  rw [List.all_eq_true]
  intro t ht
  simpa using h t (List.mem_range.1 ht)

set_option maxRecDepth 100000 in
set_option maxHeartbeats 4000000 in
theorem pooled_any (n : Nod) (A : At) (u : Sl) (x : List Int) (w : World) (hn : NodeOk w n A) (hx : IsInts w u.v x) (hf : Fine x) : Calls Tryz.prog 115 #[nval n, .slice u.a u.n u.c] w (Ended w (pooledP A x) DimsQ) := by
  obtain ⟨ux, uc, eu, c1, c2, c3⟩ := hx.sl
  obtain ⟨ua, un, uu⟩ := u
  simp only [Sl.v, Value.slice.injEq] at eu
  obtain ⟨rfl, rfl, rfl⟩ := eu
  have HX := hide hx
  have PB : Hid (∀ z ∈ x, 1 ≤ z ∧ z ≤ 65536) := fun z hz => ⟨hf.pos z hz, hf.le_each hz⟩
  have E0 : Hid (pooledP A x = (mustP (decide (x.length = 4))).bind (fun _ => (withinP (A.ints ⟨#[107, 101, 114, 110, 101, 108, 95, 115, 104, 97, 112, 101]⟩ []) 2 1).bind (fun K => (padsP A).bind (fun pa => poolP A x K pa)))) := rfl
  clear hx hf
  have NK := hide hn
  obtain ⟨op, nam, ⟨ia, il, ic⟩, out, ⟨ao, al, cap⟩⟩ := n
  unfold nval
  simp only
  obtain ⟨w0, hw0⟩ : ∃ w0, w0 = w.alloc (.cells #[.string op, .string nam, .slice ia il ic, .string out, .slice ao al cap] 25) := ⟨_, rfl⟩
  have g0 : Hid (w.grownBy w0 none) := by show w.grownBy w0 none; rw [hw0]; exact grown_new _ _
  have hb0 := heap_alloc_new w (.cells #[.string op, .string nam, .slice ia il ic, .string out, .slice ao al cap] 25)
  rw [← hw0] at hb0
  have BX : Hid (∀ wx, w0.grownBy wx none → wx.heap[w.heap.size]? = some (.cells #[.string op, .string nam, .slice ia il ic, .string out, .slice ao al cap] 25 (0, 0))) := fun wx hg => box_kept hb0 hg
  clear hb0 hn
  have NI := hide (nints_any ⟨op, nam, ⟨ia, il, ic⟩, out, ⟨ao, al, cap⟩⟩ A ⟨#[107, 101, 114, 110, 101, 108, 95, 115, 104, 97, 112, 101]⟩ ⟨none, 0, 0⟩ [] w0 (NK.out.more g0.out) ⟨none, 0, rfl, Nat.le_refl _, by decide, by simp, fun _ => ⟨rfl, rfl⟩, fun h => (by simp at h), fun z hz => (by simp at hz)⟩)
  have PA := hide (fun (wx : World) (hg : w.grownBy wx none) => padsof_any ⟨op, nam, ⟨ia, il, ic⟩, out, ⟨ao, al, cap⟩⟩ A wx (NK.out.more hg))
  have PL := hide (fun (wx : World) (hg : w.grownBy wx none) (v : Sl) (K : List Int) (lng : Nat) (hK : IsInts wx v.v K) (hl : x.length = 4) (hlK : K.length = 2) (bK : ∀ z ∈ K, 1 ≤ z ∧ z ≤ 65536) (ha : lng < 2) => places_any ⟨op, nam, ⟨ia, il, ic⟩, out, ⟨ao, al, cap⟩⟩ A ⟨ua, x.length, uu⟩ v x K lng wx (NK.out.more hg) (HX.out.more hg) hK hl hlK PB.out bK ha)
  unfold nval at NI PA PL
  simp only at NI PA PL
  by_cases hl : x.length = 4
  · have b0 : ((x.length : Int) == 4) = true := by simp [hl]
    have E1 : Hid (pooledP A x = (withinP (A.ints ⟨#[107, 101, 114, 110, 101, 108, 95, 115, 104, 97, 112, 101]⟩ []) 2 1).bind (fun K => (padsP A).bind (fun pa => poolP A x K pa))) := by show _ = _; rw [E0.out]; simp [mustP, hl]; rfl
    have HL := hide hl
    clear hl
    go_enter Tryz.func115, Tryz.ntmps115
    go_wp2_with (first | (go_at_call 45; refine (must_yes _).mono ?_; rintro e w' ⟨rfl, rfl⟩) | fail)
    rw [← hw0]
    clear hw0 b0
    refine NI.out.mono ?_
    rintro e w1 ⟨s, rfl, hs, hg1⟩
    have G1 := hide hg1
    have WD := hide (within_any s _ 2 1 w1 hs (by decide))
    have HS := hide hs
    clear hs hg1 NI
    cases hk : withinP (A.ints ⟨#[107, 101, 114, 110, 101, 108, 95, 115, 104, 97, 112, 101]⟩ []) 2 1 with
    | error c =>
      rw [hk] at WD
      have E : Hid (pooledP A x = .error c) := by show _ = _; rw [E1.out, hk]; rfl
      clear hk
      go_wp2_with (first | (go_at_call 186; refine WD.out.mono ?_; rintro e w' ⟨hg, rfl⟩) | fail)
      exact ⟨rfl, ended_err E.out (grown_trans g0.out (grown_trans G1.out hg))⟩
    | ok K =>
      rw [hk] at WD E1
      obtain ⟨e1, kl, kbd⟩ := withinP_ok hk
      rw [← e1] at HS
      have SL : s.n = 2 := by
        obtain ⟨a', c', e, -⟩ := HS.out.sl
        have : s.n = K.length := by simp only [Sl.v, Value.slice.injEq] at e; exact e.2.1
        rw [this, kl]
      obtain ⟨sa, sn, sc⟩ := s
      obtain ⟨kb, ko, esa, hck⟩ := HS.out.get (k := 0) (by omega)
      simp only at esa SL
      subst esa SL
      simp only [Sl.v] at WD HS ⊢
      have E2 : Hid (pooledP A x = (padsP A).bind (fun pa => poolP A x K pa)) := E1.out
      have KL := hide kl
      have KB := hide kbd
      have KC := hide hck
      obtain ⟨n0, n1, n2, n3, n4⟩ := nod_cells (n := ⟨op, nam, ⟨ia, il, ic⟩, out, ⟨ao, al, cap⟩⟩) (BX.out w1 (G1.out))
      clear hk e1 kl kbd hck E1
      go_wp2_with (first | (go_at_call 186; refine WD.out.mono ?_; rintro e w' ⟨-, v, rfl, rfl, -, rfl⟩) | fail)
      have P3 := hide (PA.out w1 (grown_trans g0.out G1.out))
      clear WD PA n0 n1 n2 n3 n4
      cases hk : padsP A with
      | error c =>
        rw [hk] at P3
        have E : Hid (pooledP A x = .error c) := by show _ = _; rw [E2.out, hk]; rfl
        clear hk
        refine P3.out.mono ?_
        rintro e w' ⟨hg, rfl⟩
        exact ⟨rfl, ended_err E.out (grown_trans g0.out (grown_trans G1.out hg))⟩
      | ok pa =>
        rw [hk] at P3 E2
        have E3 : Hid (pooledP A x = poolP A x K pa) := E2.out
        clear hk E2
        refine P3.out.mono ?_
        rintro e w4 ⟨hg3, v, rfl, ⟨pa1, pn, pc⟩, rfl, hp, hpl, hpb⟩
        obtain ⟨pb', po, epa, hpc⟩ := hp.get (k := 0) (by omega)
        have pcb : 4 ≤ pc ∧ pc ≤ 9223372036854775807 := by
          obtain ⟨a', c', e, f1, f2, -⟩ := hp.sl
          simp only [Sl.v, Value.slice.injEq] at e
          rw [hpl] at f1
          rw [e.2.2]
          exact ⟨f1, f2⟩
        have SL : pn = 4 := by
          obtain ⟨a', c', e, -⟩ := hp.sl
          simp only [Sl.v, Value.slice.injEq] at e
          rw [← hpl]; exact e.2.1
        simp only at epa
        subst epa SL
        obtain ⟨pc1, pc2⟩ := pcb
        have G04 := hide (grown_trans G1.out hg3)
        have G4 := hide (grown_trans g0.out (grown_trans G1.out hg3))
        have KC4 : Hid (∀ i, i < K.length → w4.cell? ⟨kb, ko + i, none⟩ = some (.int .i64 (K.getD i 0))) := fun i hi => cell_still (KC.out i hi) hg3
        have HPC := hide hpc
        have HPL := hide hpl
        have HK4 := hide (HS.out.more hg3)
        clear hp hpl hpb hpc hg3 P3 KC HS
        simp only [Sl.v]
        go_wp2
        go_loopw [18] (fun i wr => w4 = wr ∧ ∃ k : Nat, k ≤ 4 ∧ i = .int .i64 k ∧ ∀ t, t < k → pa.getD t 0 < K.getD (t % 2) 0) (fun i _ => 4 - (intOf i).toNat)
        case atStart => exact ⟨rfl, 0, Nat.zero_le _, rfl, fun t h => absurd h (by omega)⟩
        case round =>
          obtain ⟨hw, k, hk, rfl, hall⟩ := hrel
          subst hw
          have HA := hide hall
          clear hall
          by_cases hkl : k < 4
          · have p1 := HPC.out k (by have := HPL.out; omega)
            obtain ⟨m, hm⟩ : ∃ m : Nat, m = k % 2 := ⟨_, rfl⟩
            have q1 := KC4.out m (by have := KL.out; omega)
            have hmod : (k : Int).tmod 2 = (m : Int) := by rw [hm, Int.tmod_eq_emod_of_nonneg (by omega)]; omega
            have hm2 : m < 2 := by omega
            have i1 : (k : Int) < 4 := by omega
            have i2 : (m : Int) < 2 := by omega
            obtain ⟨P, hP⟩ : ∃ P, P = pa.getD k 0 := ⟨_, rfl⟩
            obtain ⟨Q, hQ⟩ : ∃ Q, Q = K.getD m 0 := ⟨_, rfl⟩
            rw [← hP] at p1
            rw [← hQ] at q1
            have HPP := hide hP
            have HQQ : Hid (Q = K.getD (k % 2) 0) := by show _ = _; rw [hQ, hm]
            clear hP hQ hm
            by_cases hpq : P < Q
            · go_wp2_with (first | (go_at_call 45; refine (must_yes _).mono ?_; rintro e w' ⟨rfl, rfl⟩) | fail)
              go_roundw
              case rel =>
                refine ⟨by trivial, k + 1, by omega, by go_num, fun t ht => ?_⟩
                rcases lt_succ_cases ht with h | rfl
                · exact HA.out t h
                · rw [← HPP.out, ← HQQ.out]; exact hpq
              case measure => simp [intOf]; omega
            · have bpq : decide (P < Q) = false := by simpa using hpq
              have E4 : Hid (pooledP A x = .error 4) := by show _ = _; rw [E3.out]; unfold poolP; rw [pads_bad hkl (by rw [← HPP.out, ← HQQ.out]; exact hpq)]; rfl
              clear hpq
              go_wp2_with (first | (go_at_call 45; refine (must_no _).mono ?_; rintro e w' ⟨rfl, rfl⟩) | fail)
              exact ⟨rfl, ended_err E4.out G4.out⟩
          · have E4 : Hid (pooledP A x = (placesP A x K 0).bind (fun a => (placesP A x K 1).bind (fun b => .ok [x.getD 0 0, x.getD 1 0, a, b]))) := by show _ = _; rw [E3.out]; unfold poolP; rw [pads_good (fun t ht => HA.out t (by omega))]; rfl
            have hl := HL.out
            obtain ⟨xb, xo, rfl, hcx⟩ := HX.out.get (k := 0) (by omega)
            have X0 := hide (hcx 0 (by omega))
            have X1 := hide (hcx 1 (by omega))
            have bx0 := PB.out _ (getD_mem (l := x) (k := 0) (by omega))
            have bx1 := PB.out _ (getD_mem (l := x) (k := 1) (by omega))
            rw [Nat.add_zero] at X0
            obtain ⟨x0, hx0⟩ : ∃ z, z = x.getD 0 0 := ⟨_, rfl⟩
            obtain ⟨x1, hx1⟩ : ∃ z, z = x.getD 1 0 := ⟨_, rfl⟩
            rw [← hx0] at X0 bx0 E4
            rw [← hx1] at X1 bx1 E4
            have y0 := cell_still X0.out G4.out
            have y1 := cell_still X1.out G4.out
            have L0 := hide (fun (wx : World) (hg : w4.grownBy wx none) => PL.out wx (grown_trans G4.out hg) ⟨some ⟨kb, ko, none⟩, 2, sc⟩ K 0 (HK4.out.more hg) HL.out KL.out (fun z hz => by have := KB.out z hz; omega) (by decide))
            have L1 := hide (fun (wx : World) (hg : w4.grownBy wx none) => PL.out wx (grown_trans G4.out hg) ⟨some ⟨kb, ko, none⟩, 2, sc⟩ K 1 (HK4.out.more hg) HL.out KL.out (fun z hz => by have := KB.out z hz; omega) (by decide))
            simp only [Int.natCast_zero, Int.natCast_one] at L0 L1
            have l0 : (0 : Int) < (x.length : Int) := by omega
            have l1 : (1 : Int) < (x.length : Int) := by omega
            have m0 : 0 < x.length := by omega
            have m1 : 1 < x.length := by omega
            obtain ⟨n0, n1, n2, n3, n4⟩ := nod_cells (n := ⟨op, nam, ⟨ia, il, ic⟩, out, ⟨ao, al, cap⟩⟩) (BX.out w4 (G04.out))
            clear hcx hx0 hx1 hl PL
            go_wp2_with fail
            cases hA0 : placesP A x K 0 with
            | error c =>
              rw [hA0] at L0
              have E5 : Hid (pooledP A x = .error c) := by show _ = _; rw [E4.out, hA0]; rfl
              clear hA0
              refine wp_region_held_drew (S := (fun w' => w'.cell? ⟨w.heap.size, 0, none⟩ = some (.string op) ∧ w'.cell? ⟨w.heap.size, 1, none⟩ = some (.string nam) ∧ w'.cell? ⟨w.heap.size, 2, none⟩ = some (.slice ia il ic) ∧ w'.cell? ⟨w.heap.size, 3, none⟩ = some (.string out) ∧ w'.cell? ⟨w.heap.size, 4, none⟩ = some (.slice ao al cap) ∧ w'.cell? ⟨xb, xo, none⟩ = some (.int .i64 x0) ∧ w'.cell? ⟨xb, xo + 1, none⟩ = some (.int .i64 x1))) (by kernel_rfl) (by go_keep) (fun hHeld => ?_)
              refine wpAnyH_take (i := 0) (v := ?_) rfl (by kernel_rfl) (by kernel_rfl) (by kernel_rfl) (fun _ _ _ h => h) (Or.inl ⟨by rfl, ?_⟩) (by assumption) ?_
              rotate_left 1
              · (intro w hSw; (try dsimp only at hSw); go_simp; (try with_reducible rfl))
              try simp only [Act.put]
              refine wpAnyH_take (i := 1) (v := ?_) rfl (by kernel_rfl) (by kernel_rfl) (by kernel_rfl) (fun _ _ _ h => h) (Or.inl ⟨by rfl, ?_⟩) (by assumption) ?_
              rotate_left 1
              · (intro w hSw; (try dsimp only at hSw); go_simp; (try with_reducible rfl))
              try simp only [Act.put]
              refine wpAnyH_take (i := 2) (v := ?_) rfl (by kernel_rfl) (by kernel_rfl) (by kernel_rfl) (fun _ _ _ h => h) (Or.inl ⟨by rfl, ?_⟩) (by assumption) ?_
              rotate_left 1
              · (intro w hSw; (try dsimp only at hSw); go_simp; (try with_reducible rfl))
              try simp only [Act.put]
              refine wpAnyH_take (i := 3) (v := ?_) rfl (by kernel_rfl) (by kernel_rfl) (by kernel_rfl) (fun _ _ _ h => h) (Or.inl ⟨by rfl, ?_⟩) (by assumption) ?_
              rotate_left 1
              · (intro w hSw; (try dsimp only at hSw); go_simp; (try with_reducible rfl))
              try simp only [Act.put]
              refine wpAnyH_take (i := 4) (v := ?_) rfl (by kernel_rfl) (by kernel_rfl) (by kernel_rfl) (fun _ _ _ h => h) (Or.inl ⟨by rfl, ?_⟩) (by assumption) ?_
              rotate_left 1
              · (intro w hSw; (try dsimp only at hSw); go_simp; (try with_reducible rfl))
              try simp only [Act.put]
              refine wpAnyH_take (i := 5) (v := ?_) rfl (by kernel_rfl) (by kernel_rfl) (by kernel_rfl) (fun _ _ _ h => h) (Or.inl ⟨by rfl, ?_⟩) (by assumption) ?_
              rotate_left 1
              · (intro w hSw; (try dsimp only at hSw); go_simp; (try with_reducible rfl))
              try simp only [Act.put]
              refine wpAnyH_take (i := 6) (v := ?_) rfl (by kernel_rfl) (by kernel_rfl) (by kernel_rfl) (fun _ _ _ h => h) (Or.inl ⟨by rfl, ?_⟩) (by assumption) ?_
              rotate_left 1
              · (intro w hSw; (try dsimp only at hSw); go_simp; (try with_reducible rfl))
              try simp only [Act.put]
              refine wpAnyH_take (i := 7) (v := ?_) rfl (by kernel_rfl) (by kernel_rfl) (by kernel_rfl) (fun _ _ _ h => h) (Or.inl ⟨by rfl, ?_⟩) (by assumption) ?_
              rotate_left 1
              · (intro w hSw; (try dsimp only at hSw); go_simp; (try with_reducible rfl))
              try simp only [Act.put]
              refine wpAnyH_take (i := 8) (v := ?_) rfl (by kernel_rfl) (by kernel_rfl) (by kernel_rfl) (fun _ _ _ h => h) (Or.inl ⟨by rfl, ?_⟩) (by assumption) ?_
              rotate_left 1
              · (intro w hSw; (try dsimp only at hSw); go_simp; (try with_reducible rfl))
              try simp only [Act.put]
              refine wpAnyH_take (i := 10) (v := ?_) rfl (by kernel_rfl) (by kernel_rfl) (by kernel_rfl) (fun _ _ _ h => h) (Or.inl ⟨by rfl, ?_⟩) (by assumption) ?_
              rotate_left 1
              · (intro w hSw; (try dsimp only at hSw); go_simp; (try with_reducible rfl))
              try simp only [Act.put]
              refine wpAnyH_take (i := 11) (v := ?_) rfl (by kernel_rfl) (by kernel_rfl) (by kernel_rfl) (fun _ _ _ h => h) (Or.inl ⟨by rfl, ?_⟩) (by assumption) ?_
              rotate_left 1
              · (intro w hSw; (try dsimp only at hSw); go_simp; (try with_reducible rfl))
              try simp only [Act.put]
              refine wpAnyH_take (i := 12) (v := ?_) rfl (by kernel_rfl) (by kernel_rfl) (by kernel_rfl) (fun _ _ _ h => h) (Or.inl ⟨by rfl, ?_⟩) (by assumption) ?_
              rotate_left 1
              · (intro w hSw; (try dsimp only at hSw); go_simp; (try with_reducible rfl))
              try simp only [Act.put]
              refine wpAnyH_ready (rs := [9]) (by kernel_rfl) (by simp) ?_
              refine AllReadyH.cons rfl (fun K hK => ?_) ?_
              · skip
                go_simp
                refine (L0.out _ (grown_drew (grown_refl _))).mono ?_
                rintro e wy ⟨hg, rfl⟩
                exact ⟨rfl, ended_err E5.out (grown_trans (grown_drew G4.out) hg)⟩
              exact AllReadyH.nil
            | ok pa =>
              rw [hA0] at L0
              cases hA1 : placesP A x K 1 with
              | error c =>
                rw [hA1] at L1
                have E6 : Hid (pooledP A x = .error c) := by show _ = _; rw [E4.out, hA0, hA1]; rfl
                clear hA0 hA1
                refine wp_region_held_drew (S := (fun w' => w'.cell? ⟨w.heap.size, 0, none⟩ = some (.string op) ∧ w'.cell? ⟨w.heap.size, 1, none⟩ = some (.string nam) ∧ w'.cell? ⟨w.heap.size, 2, none⟩ = some (.slice ia il ic) ∧ w'.cell? ⟨w.heap.size, 3, none⟩ = some (.string out) ∧ w'.cell? ⟨w.heap.size, 4, none⟩ = some (.slice ao al cap) ∧ w'.cell? ⟨xb, xo, none⟩ = some (.int .i64 x0) ∧ w'.cell? ⟨xb, xo + 1, none⟩ = some (.int .i64 x1))) (by kernel_rfl) (by go_keep) (fun hHeld => ?_)
                refine wpAnyH_take (i := 0) (v := ?_) rfl (by kernel_rfl) (by kernel_rfl) (by kernel_rfl) (fun _ _ _ h => h) (Or.inl ⟨by rfl, ?_⟩) (by assumption) ?_
                rotate_left 1
                · (intro w hSw; (try dsimp only at hSw); go_simp; (try with_reducible rfl))
                try simp only [Act.put]
                refine wpAnyH_take (i := 1) (v := ?_) rfl (by kernel_rfl) (by kernel_rfl) (by kernel_rfl) (fun _ _ _ h => h) (Or.inl ⟨by rfl, ?_⟩) (by assumption) ?_
                rotate_left 1
                · (intro w hSw; (try dsimp only at hSw); go_simp; (try with_reducible rfl))
                try simp only [Act.put]
                refine wpAnyH_take (i := 2) (v := ?_) rfl (by kernel_rfl) (by kernel_rfl) (by kernel_rfl) (fun _ _ _ h => h) (Or.inl ⟨by rfl, ?_⟩) (by assumption) ?_
                rotate_left 1
                · (intro w hSw; (try dsimp only at hSw); go_simp; (try with_reducible rfl))
                try simp only [Act.put]
                refine wpAnyH_take (i := 3) (v := ?_) rfl (by kernel_rfl) (by kernel_rfl) (by kernel_rfl) (fun _ _ _ h => h) (Or.inl ⟨by rfl, ?_⟩) (by assumption) ?_
                rotate_left 1
                · (intro w hSw; (try dsimp only at hSw); go_simp; (try with_reducible rfl))
                try simp only [Act.put]
                refine wpAnyH_take (i := 4) (v := ?_) rfl (by kernel_rfl) (by kernel_rfl) (by kernel_rfl) (fun _ _ _ h => h) (Or.inl ⟨by rfl, ?_⟩) (by assumption) ?_
                rotate_left 1
                · (intro w hSw; (try dsimp only at hSw); go_simp; (try with_reducible rfl))
                try simp only [Act.put]
                refine wpAnyH_take (i := 5) (v := ?_) rfl (by kernel_rfl) (by kernel_rfl) (by kernel_rfl) (fun _ _ _ h => h) (Or.inl ⟨by rfl, ?_⟩) (by assumption) ?_
                rotate_left 1
                · (intro w hSw; (try dsimp only at hSw); go_simp; (try with_reducible rfl))
                try simp only [Act.put]
                refine wpAnyH_take (i := 6) (v := ?_) rfl (by kernel_rfl) (by kernel_rfl) (by kernel_rfl) (fun _ _ _ h => h) (Or.inl ⟨by rfl, ?_⟩) (by assumption) ?_
                rotate_left 1
                · (intro w hSw; (try dsimp only at hSw); go_simp; (try with_reducible rfl))
                try simp only [Act.put]
                refine wpAnyH_take (i := 7) (v := ?_) rfl (by kernel_rfl) (by kernel_rfl) (by kernel_rfl) (fun _ _ _ h => h) (Or.inl ⟨by rfl, ?_⟩) (by assumption) ?_
                rotate_left 1
                · (intro w hSw; (try dsimp only at hSw); go_simp; (try with_reducible rfl))
                try simp only [Act.put]
                refine wpAnyH_take (i := 8) (v := ?_) rfl (by kernel_rfl) (by kernel_rfl) (by kernel_rfl) (fun _ _ _ h => h) (Or.inl ⟨by rfl, ?_⟩) (by assumption) ?_
                rotate_left 1
                · (intro w hSw; (try dsimp only at hSw); go_simp; (try with_reducible rfl))
                try simp only [Act.put]
                refine wpAnyH_take (i := 10) (v := ?_) rfl (by kernel_rfl) (by kernel_rfl) (by kernel_rfl) (fun _ _ _ h => h) (Or.inl ⟨by rfl, ?_⟩) (by assumption) ?_
                rotate_left 1
                · (intro w hSw; (try dsimp only at hSw); go_simp; (try with_reducible rfl))
                try simp only [Act.put]
                refine wpAnyH_take (i := 11) (v := ?_) rfl (by kernel_rfl) (by kernel_rfl) (by kernel_rfl) (fun _ _ _ h => h) (Or.inl ⟨by rfl, ?_⟩) (by assumption) ?_
                rotate_left 1
                · (intro w hSw; (try dsimp only at hSw); go_simp; (try with_reducible rfl))
                try simp only [Act.put]
                refine wpAnyH_take (i := 12) (v := ?_) rfl (by kernel_rfl) (by kernel_rfl) (by kernel_rfl) (fun _ _ _ h => h) (Or.inl ⟨by rfl, ?_⟩) (by assumption) ?_
                rotate_left 1
                · (intro w hSw; (try dsimp only at hSw); go_simp; (try with_reducible rfl))
                try simp only [Act.put]
                refine wpAnyH_ready (rs := [9]) (by kernel_rfl) (by simp) ?_
                refine AllReadyH.cons rfl (fun K hK => ?_) ?_
                · skip
                  go_simp
                  refine (L0.out _ (grown_drew (grown_refl _))).mono ?_
                  rintro e w5 ⟨hg5, v, rfl, rfl, hb1, hb2⟩
                  have g5 := grown_trans (grown_drew (grown_refl w4)) hg5
                  have g5w := grown_trans G04.out g5
                  obtain ⟨n0, n1, n2, n3, n4⟩ := nod_cells (n := ⟨op, nam, ⟨ia, il, ic⟩, out, ⟨ao, al, cap⟩⟩) (BX.out w5 g5w)
                  have y0 := cell_still X0.out (grown_trans g0.out g5w)
                  have y1 := cell_still X1.out (grown_trans g0.out g5w)
                  try dsimp only
                  refine hK.out _ _ (by first | assumption | go_keep) (fun hHeld => ?_)
                  clear hK K
                  try simp only [Act.put]
                  refine wpAnyH_ready (rs := [13]) (by kernel_rfl) (by simp) ?_
                  refine AllReadyH.cons rfl (fun K hK => ?_) ?_
                  · skip
                    go_simp
                    refine (L1.out _ g5).mono ?_
                    rintro e wy ⟨hg, rfl⟩
                    exact ⟨rfl, ended_err E6.out (grown_trans (grown_trans G4.out g5) hg)⟩
                  exact AllReadyH.nil
                exact AllReadyH.nil
              | ok pb =>
                rw [hA1] at L1
                have E7 : Hid (pooledP A x = .ok [x0, x1, pa, pb]) := by show _ = _; rw [E4.out, hA0, hA1]; rfl
                clear hA0 hA1
                refine wp_region_held_drew (S := (fun w' => w'.cell? ⟨w.heap.size, 0, none⟩ = some (.string op) ∧ w'.cell? ⟨w.heap.size, 1, none⟩ = some (.string nam) ∧ w'.cell? ⟨w.heap.size, 2, none⟩ = some (.slice ia il ic) ∧ w'.cell? ⟨w.heap.size, 3, none⟩ = some (.string out) ∧ w'.cell? ⟨w.heap.size, 4, none⟩ = some (.slice ao al cap) ∧ w'.cell? ⟨xb, xo, none⟩ = some (.int .i64 x0) ∧ w'.cell? ⟨xb, xo + 1, none⟩ = some (.int .i64 x1))) (by kernel_rfl) (by go_keep) (fun hHeld => ?_)
                refine wpAnyH_take (i := 0) (v := ?_) rfl (by kernel_rfl) (by kernel_rfl) (by kernel_rfl) (fun _ _ _ h => h) (Or.inl ⟨by rfl, ?_⟩) (by assumption) ?_
                rotate_left 1
                · (intro w hSw; (try dsimp only at hSw); go_simp; (try with_reducible rfl))
                try simp only [Act.put]
                refine wpAnyH_take (i := 1) (v := ?_) rfl (by kernel_rfl) (by kernel_rfl) (by kernel_rfl) (fun _ _ _ h => h) (Or.inl ⟨by rfl, ?_⟩) (by assumption) ?_
                rotate_left 1
                · (intro w hSw; (try dsimp only at hSw); go_simp; (try with_reducible rfl))
                try simp only [Act.put]
                refine wpAnyH_take (i := 2) (v := ?_) rfl (by kernel_rfl) (by kernel_rfl) (by kernel_rfl) (fun _ _ _ h => h) (Or.inl ⟨by rfl, ?_⟩) (by assumption) ?_
                rotate_left 1
                · (intro w hSw; (try dsimp only at hSw); go_simp; (try with_reducible rfl))
                try simp only [Act.put]
                refine wpAnyH_take (i := 3) (v := ?_) rfl (by kernel_rfl) (by kernel_rfl) (by kernel_rfl) (fun _ _ _ h => h) (Or.inl ⟨by rfl, ?_⟩) (by assumption) ?_
                rotate_left 1
                · (intro w hSw; (try dsimp only at hSw); go_simp; (try with_reducible rfl))
                try simp only [Act.put]
                refine wpAnyH_take (i := 4) (v := ?_) rfl (by kernel_rfl) (by kernel_rfl) (by kernel_rfl) (fun _ _ _ h => h) (Or.inl ⟨by rfl, ?_⟩) (by assumption) ?_
                rotate_left 1
                · (intro w hSw; (try dsimp only at hSw); go_simp; (try with_reducible rfl))
                try simp only [Act.put]
                refine wpAnyH_take (i := 5) (v := ?_) rfl (by kernel_rfl) (by kernel_rfl) (by kernel_rfl) (fun _ _ _ h => h) (Or.inl ⟨by rfl, ?_⟩) (by assumption) ?_
                rotate_left 1
                · (intro w hSw; (try dsimp only at hSw); go_simp; (try with_reducible rfl))
                try simp only [Act.put]
                refine wpAnyH_take (i := 6) (v := ?_) rfl (by kernel_rfl) (by kernel_rfl) (by kernel_rfl) (fun _ _ _ h => h) (Or.inl ⟨by rfl, ?_⟩) (by assumption) ?_
                rotate_left 1
                · (intro w hSw; (try dsimp only at hSw); go_simp; (try with_reducible rfl))
                try simp only [Act.put]
                refine wpAnyH_take (i := 7) (v := ?_) rfl (by kernel_rfl) (by kernel_rfl) (by kernel_rfl) (fun _ _ _ h => h) (Or.inl ⟨by rfl, ?_⟩) (by assumption) ?_
                rotate_left 1
                · (intro w hSw; (try dsimp only at hSw); go_simp; (try with_reducible rfl))
                try simp only [Act.put]
                refine wpAnyH_take (i := 8) (v := ?_) rfl (by kernel_rfl) (by kernel_rfl) (by kernel_rfl) (fun _ _ _ h => h) (Or.inl ⟨by rfl, ?_⟩) (by assumption) ?_
                rotate_left 1
                · (intro w hSw; (try dsimp only at hSw); go_simp; (try with_reducible rfl))
                try simp only [Act.put]
                refine wpAnyH_take (i := 10) (v := ?_) rfl (by kernel_rfl) (by kernel_rfl) (by kernel_rfl) (fun _ _ _ h => h) (Or.inl ⟨by rfl, ?_⟩) (by assumption) ?_
                rotate_left 1
                · (intro w hSw; (try dsimp only at hSw); go_simp; (try with_reducible rfl))
                try simp only [Act.put]
                refine wpAnyH_take (i := 11) (v := ?_) rfl (by kernel_rfl) (by kernel_rfl) (by kernel_rfl) (fun _ _ _ h => h) (Or.inl ⟨by rfl, ?_⟩) (by assumption) ?_
                rotate_left 1
                · (intro w hSw; (try dsimp only at hSw); go_simp; (try with_reducible rfl))
                try simp only [Act.put]
                refine wpAnyH_take (i := 12) (v := ?_) rfl (by kernel_rfl) (by kernel_rfl) (by kernel_rfl) (fun _ _ _ h => h) (Or.inl ⟨by rfl, ?_⟩) (by assumption) ?_
                rotate_left 1
                · (intro w hSw; (try dsimp only at hSw); go_simp; (try with_reducible rfl))
                try simp only [Act.put]
                refine wpAnyH_ready (rs := [9]) (by kernel_rfl) (by simp) ?_
                refine AllReadyH.cons rfl (fun K hK => ?_) ?_
                · skip
                  go_simp
                  refine (L0.out _ (grown_drew (grown_refl _))).mono ?_
                  rintro e w5 ⟨hg5, v, rfl, rfl, hb1, hb2⟩
                  have g5 := grown_trans (grown_drew (grown_refl w4)) hg5
                  have g5w := grown_trans G04.out g5
                  obtain ⟨n0, n1, n2, n3, n4⟩ := nod_cells (n := ⟨op, nam, ⟨ia, il, ic⟩, out, ⟨ao, al, cap⟩⟩) (BX.out w5 g5w)
                  have y0 := cell_still X0.out (grown_trans g0.out g5w)
                  have y1 := cell_still X1.out (grown_trans g0.out g5w)
                  try dsimp only
                  refine hK.out _ _ (by first | assumption | go_keep) (fun hHeld => ?_)
                  clear hK K
                  try simp only [Act.put]
                  refine wpAnyH_ready (rs := [13]) (by kernel_rfl) (by simp) ?_
                  refine AllReadyH.cons rfl (fun K hK => ?_) ?_
                  · skip
                    go_simp
                    refine (L1.out _ g5).mono ?_
                    rintro e w6 ⟨hg6, v, rfl, rfl, hc1, hc2⟩
                    have g6 := grown_trans g5 hg6
                    have g6w := grown_trans G04.out g6
                    obtain ⟨n0, n1, n2, n3, n4⟩ := nod_cells (n := ⟨op, nam, ⟨ia, il, ic⟩, out, ⟨ao, al, cap⟩⟩) (BX.out w6 g6w)
                    have y0 := cell_still X0.out (grown_trans g0.out g6w)
                    have y1 := cell_still X1.out (grown_trans g0.out g6w)
                    try dsimp only
                    refine hK.out _ _ (by first | assumption | go_keep) (fun hHeld => ?_)
                    clear hK K
                    try simp only [Act.put]
                    refine wpAnyH_ready (rs := [14]) (by kernel_rfl) (by simp) ?_
                    refine AllReadyH.cons rfl (fun K hK => ?_) ?_
                    · skip
                      go_simp
                      have y0 := cell_still y0 (grown_new w6 (.cells #[.int .i64 x0, .int .i64 x1, .int .i64 pa, .int .i64 pb] 3))
                      have y1 := cell_still y1 (grown_new w6 (.cells #[.int .i64 x0, .int .i64 x1, .int .i64 pa, .int .i64 pb] 3))
                      obtain ⟨n0, n1, n2, n3, n4⟩ := nod_cells (n := ⟨op, nam, ⟨ia, il, ic⟩, out, ⟨ao, al, cap⟩⟩) (BX.out _ (grown_trans g6w (grown_new w6 (.cells #[.int .i64 x0, .int .i64 x1, .int .i64 pa, .int .i64 pb] 3))))
                      refine hK.out _ _ (by first | assumption | go_keep) (fun hHeld => ?_)
                      clear hK K
                      try simp only [Act.put]
                      refine wpAnyH_take (i := 15) (v := ?_) rfl (by kernel_rfl) (by kernel_rfl) (by kernel_rfl) (fun _ _ _ h => h) (Or.inl ⟨by rfl, ?_⟩) (by assumption) ?_
                      rotate_left 1
                      · (intro w hSw; (try dsimp only at hSw); go_simp; (try with_reducible rfl))
                      try simp only [Act.put]
                      refine wpAnyH_done (by kernel_rfl) ?_ _
                      try go_simp
                      go_wp2
                      go_ret
                      exact ended_ok E7.out (grown_trans (grown_trans G4.out g6) (grown_new _ _)) ⟨⟨some ⟨w6.heap.size, 0, none⟩, 4, 4⟩, rfl, ints_new w6 [x0, x1, pa, pb] 3 (by simp) (fun y hy => by simp at hy; omega)⟩
                    exact AllReadyH.nil
                  exact AllReadyH.nil
                exact AllReadyH.nil
  · have b0 : ((x.length : Int) == 4) = false := by simpa using (fun h => hl (by omega) : ¬ (x.length : Int) = 4)
    have E1 : Hid (pooledP A x = .error 4) := by show _ = _; rw [E0.out]; simp [mustP, hl]; rfl
    clear hl
    go_enter Tryz.func115, Tryz.ntmps115
    go_wp2_with (first | (go_at_call 45; refine (must_no _).mono ?_; rintro e w' ⟨rfl, rfl⟩) | fail)
    rw [← hw0]
    exact ⟨rfl, ended_err E1.out g0.out⟩
end Go.Proofs.YtdcbjikjeicgbaaGreatDoor
