/- What infer makes of dims: reshaped, by the walk (mkIResh.py). -/
import Derived.Test.YteigfipgmghgmaaGreatDoorIDim3
namespace Go.Proofs.YteigfipgmghgmaaGreatDoor
open Go.RowKit

def leftI : Option Nat → Int
  | none => -1
  | some j => j

/-- One number of a shape: where the open one is, and what stands for it. -/
def oneS (x : List Int) (d : Int) (i : Nat) (left : Option Nat) : R (Option Nat × Int) := if d = -1 then (if left = none then .ok (some i, 1) else .error 4) else if d = 0 then (if i < x.length then .ok (left, x.getD i 0) else .error 4) else .ok (left, d)

theorem shapeP_step {x l : List Int} {count : Int} {k : Nat} (hk : k < l.length) (left : Option Nat) (known : Int) (acc : List Int) : shapeP x count (l.drop k) k left known acc = (oneS x (l.getD k 0) k left).bind (fun q => (mustP (decide (1 ≤ q.2 ∧ q.2 ≤ count))).bind (fun _ => (mustP (decide (known * q.2 ≤ count))).bind (fun _ => shapeP x count (l.drop (k + 1)) (k + 1) q.1 (known * q.2) (acc ++ [q.2])))) := by
  rw [drop_step l k hk]
  rfl

def putL (left : Option Nat) (acc : List Int) (q : Int) : List Int := match left with
  | some j => acc.set j q
  | none => acc

/-- What comes out of what is known of a shape. -/
def endS (count : Int) (q : Option Nat × Int × List Int) : R (List Int) := (mustP (decide (count % q.2.1 = 0 ∧ (q.1 ≠ none ∨ q.2.1 = count)))).bind (fun _ => .ok (putL q.1 q.2.2 (count / q.2.1)))

theorem leftI_neg (left : Option Nat) : (leftI left < 0) ↔ left = none := by
  cases left <;> simp [leftI] <;> omega

set_option maxRecDepth 100000 in
set_option maxHeartbeats 2000000 in
theorem reshaped_any (u v : Sl) (x l : List Int) (w : World) (hx : IsInts w u.v x) (hv : IsInts w v.v l) (hf : Fine x) (hll : l.length ≤ 100000000) : Calls Tryz.prog 111 #[.slice u.a u.n u.c, .slice v.a v.n v.c] w (Ended w (reshapedP x l) DimsQ) := by
  obtain ⟨ux, uc, eu, c1, c2, c3⟩ := hx.sl
  obtain ⟨ua, un, uu⟩ := u
  simp only [Sl.v, Value.slice.injEq] at eu
  obtain ⟨rfl, rfl, rfl⟩ := eu
  obtain ⟨vx, vc, ev, d1, d2, d3⟩ := hv.sl
  obtain ⟨va, vn, vv⟩ := v
  simp only [Sl.v, Value.slice.injEq] at ev
  obtain ⟨rfl, rfl, rfl⟩ := ev
  have HX := hide hx
  have HV := hide hv
  have FEW := hf.few
  have CO := hide (countof_any _ x w hx)
  have P1 : countP x = .ok (prod x) := by unfold countP; rw [if_pos hf.ok]
  rw [P1] at CO
  have E0 : Hid (reshapedP x l = (shapeP x (prod x) l 0 none 1 []).bind (endS (prod x))) := by show _ = _; unfold reshapedP; rw [P1]; rfl
  have B1 := hf.le
  have B2 := hf.prod_pos
  obtain ⟨count, hcnt⟩ : ∃ c, c = prod x := ⟨_, rfl⟩
  rw [← hcnt] at CO E0 B1 B2
  clear hx hf hv P1 hcnt
  simp only at CO ⊢
  go_enter Tryz.func111, Tryz.ntmps111
  go_wp2_with (first | (go_at_call 73; refine CO.out.mono ?_; rintro e w' ⟨-, v, rfl, rfl, rfl⟩) | fail)
  clear CO
  go_loopw [6, 7, 8, 15] (fun lf kn s i wr => ∃ (k : Nat) (left : Option Nat) (known : Int) (acc : List Int) (u : Sl), k ≤ l.length ∧ i = .int .i64 k ∧ lf = .int .i64 (leftI left) ∧ kn = .int .i64 known ∧ s = .slice u.a u.n u.c ∧ Owns wr w.heap.size u.v acc ∧ acc.length = k ∧ (∀ j, left = some j → j < k) ∧ (1 ≤ known ∧ known ≤ count) ∧ shapeP x count (l.drop k) k left known acc = shapeP x count l 0 none 1 [] ∧ w.grownBy wr none) (fun _ _ _ i _ => l.length - (intOf i).toNat)
  case atStart => exact ⟨0, none, 1, [], ⟨none, 0, 0⟩, Nat.zero_le _, rfl, rfl, rfl, rfl, owns_nil _ _, rfl, (fun j h => by cases h), by omega, by rw [List.drop_zero], grown_refl _⟩
  case round =>
    obtain ⟨k, left, known, acc, ⟨qa, qn, qc⟩, hk, rfl, rfl, rfl, rfl, ho, hal, hlf, ⟨hk1, hk2⟩, hst, hg⟩ := hrel
    simp only
    have HO1 := hide ho
    have HG := hide hg
    have HLF := hide hlf
    have HAL := hide hal
    have hsz := hg.size
    clear hlf hal ho
    by_cases hkl : k < l.length
    · obtain ⟨b, off, rfl, hc⟩ := HV.out.get hkl
      have hcell : wr.cell? ⟨b, off + k, none⟩ = some (.int .i64 (l.getD k 0)) := cell_still (hc k hkl) hg
      have hwf := HV.out.wf (l.getD k 0) (by simp [List.getD, hkl])
      rw [shapeP_step hkl] at hst
      obtain ⟨d, hd0⟩ : ∃ d, d = l.getD k 0 := ⟨_, rfl⟩
      rw [← hd0] at hcell hst hwf
      clear hc hd0
      have hab : ((acc.length : Int) + 1) * 8 ≤ 140737488351232 := by have := HAL.out; omega
      by_cases hm : d = -1
      · subst hm
        by_cases hlf : left = none
        · subst hlf
          simp only [leftI]
          have hst2 : (mustP (decide (1 ≤ (1 : Int) ∧ 1 ≤ count))).bind (fun _ => (mustP (decide (known * 1 ≤ count))).bind (fun _ => shapeP x count (l.drop (k + 1)) (k + 1) (some k) (known * 1) (acc ++ [1]))) = shapeP x count l 0 none 1 [] := by rw [← hst]; rfl
          clear hst hg
          by_cases h1 : 1 ≤ (1 : Int)
          · by_cases h2 : (1 : Int) ≤ count
            · obtain ⟨P, hP⟩ : ∃ P, P = known * (1 : Int) := ⟨_, rfl⟩
              have hP1 : 1 ≤ P := by rw [hP]; have := Int.mul_le_mul hk1 h1 (by omega) (by omega); omega
              have hPm : P ≤ 65536 * 65536 := by rw [hP]; exact Int.mul_le_mul (by omega) (by omega) (by omega) (by omega)
              rw [← hP] at hst2
              have hPx : known * (1 : Int) = P := hP.symm
              clear hP
              by_cases h3 : P ≤ count
              · have HST : Hid (shapeP x count (l.drop (k + 1)) (k + 1) (some k) P (acc ++ [(1 : Int)]) = shapeP x count l 0 none 1 []) := by show _ = _; rw [← hst2]; simp [mustP, h2, h3]; rfl
                clear hst2
                go_wp2_with (first | (go_at_call 71; refine (must_yes _).mono ?_; rintro e w' ⟨rfl, rfl⟩) | (at_builtin; refine wpList_push rfl (.tmp 53) (.tmp 55) rfl w.heap.size _ _ rfl HO1.out (1 : Int) rfl (by omega) (by omega) (by omega) ?_; intro v' w4 hown hgrow) | fail)
                obtain ⟨⟨xa, xn, xc⟩, rfl⟩ := hown.sl
                have HO2 := hide hown
                have HG2 := hide (hgrow w (Nat.le_refl _) HG.out)
                clear hown hgrow
                go_roundw
                case rel => exact ⟨k + 1, (some k), P, _, ⟨xa, xn, xc⟩, by omega, by go_num, by first | rfl | simp [leftI], rfl, rfl, HO2.out, by have := HAL.out; simp; omega, (fun j h => by cases h; omega), ⟨hP1, h3⟩, HST.out, HG2.out⟩
                case measure => simp [intOf]; omega
              · have E3 : Hid (reshapedP x l = .error 4) := by show _ = _; rw [E0.out, ← hst2]; simp [mustP, h2, h3]; rfl
                have b3 : decide (P ≤ count) = false := by simpa using h3
                clear hst2
                go_wp2_with (first | (go_at_call 71; refine (must_yes _).mono ?_; rintro e w' ⟨rfl, rfl⟩; have done1 : True := trivial) | (go_at_call 71; refine (must_no _).mono ?_; rintro e w' ⟨rfl, rfl⟩) | fail)
                exact ⟨rfl, ended_err E3.out HG.out⟩
            · exact absurd (by omega) h2
          · exact absurd (by omega) h1
        · have E3 : Hid (reshapedP x l = .error 4) := by show _ = _; rw [E0.out, ← hst]; simp [oneS, hlf]; rfl
          have hnn : ¬ leftI left < 0 := fun h => hlf ((leftI_neg left).1 h)
          have bnn : decide (leftI left < 0) = false := by simpa using hnn
          clear hst
          go_wp2_with (first | (go_at_call 71; refine (must_no _).mono ?_; rintro e w' ⟨rfl, rfl⟩) | fail)
          exact ⟨rfl, ended_err E3.out HG.out⟩
      · have bm : (d == -1) = false := by simpa using hm
        by_cases hz : d = 0
        · subst hz
          by_cases hkx : k < x.length
          · obtain ⟨b', off', rfl, hcx⟩ := HX.out.get hkx
            have hcx2 : wr.cell? ⟨b', off' + k, none⟩ = some (.int .i64 (x.getD k 0)) := cell_still (hcx k hkx) hg
            have hkx' : (k : Int) < (x.length : Int) := by omega
            have hwfx := HX.out.wf (x.getD k 0) (by simp [List.getD, hkx])
            obtain ⟨y, hy⟩ : ∃ y, y = x.getD k 0 := ⟨_, rfl⟩
            have hst2 : (mustP (decide (1 ≤ y ∧ y ≤ count))).bind (fun _ => (mustP (decide (known * y ≤ count))).bind (fun _ => shapeP x count (l.drop (k + 1)) (k + 1) left (known * y) (acc ++ [y]))) = shapeP x count l 0 none 1 [] := by rw [← hst]; simp only [oneS, if_neg hm, if_pos, if_pos hkx]; rw [← hy]; rfl
            rw [← hy] at hcx2 hwfx
            clear hcx hy
            clear hst hg
            by_cases h1 : 1 ≤ y
            · by_cases h2 : y ≤ count
              · obtain ⟨P, hP⟩ : ∃ P, P = known * y := ⟨_, rfl⟩
                have hP1 : 1 ≤ P := by rw [hP]; have := Int.mul_le_mul hk1 h1 (by omega) (by omega); omega
                have hPm : P ≤ 65536 * 65536 := by rw [hP]; exact Int.mul_le_mul (by omega) (by omega) (by omega) (by omega)
                rw [← hP] at hst2
                have hPx : known * y = P := hP.symm
                clear hP
                by_cases h3 : P ≤ count
                · have HST : Hid (shapeP x count (l.drop (k + 1)) (k + 1) left P (acc ++ [y]) = shapeP x count l 0 none 1 []) := by show _ = _; rw [← hst2]; simp [mustP, h1, h2, h3]; rfl
                  clear hst2
                  go_wp2_with (first | (go_at_call 71; refine (must_yes _).mono ?_; rintro e w' ⟨rfl, rfl⟩) | (at_builtin; refine wpList_push rfl (.tmp 53) (.tmp 55) rfl w.heap.size _ _ rfl HO1.out y rfl (by omega) (by omega) (by omega) ?_; intro v' w4 hown hgrow) | fail)
                  obtain ⟨⟨xa, xn, xc⟩, rfl⟩ := hown.sl
                  have HO2 := hide hown
                  have HG2 := hide (hgrow w (Nat.le_refl _) HG.out)
                  clear hown hgrow
                  go_roundw
                  case rel => exact ⟨k + 1, left, P, _, ⟨xa, xn, xc⟩, by omega, by go_num, by first | rfl | simp [leftI], rfl, rfl, HO2.out, by have := HAL.out; simp; omega, (fun j h => by have := HLF.out j h; omega), ⟨hP1, h3⟩, HST.out, HG2.out⟩
                  case measure => simp [intOf]; omega
                · have E3 : Hid (reshapedP x l = .error 4) := by show _ = _; rw [E0.out, ← hst2]; simp [mustP, h1, h2, h3]; rfl
                  have b3 : decide (P ≤ count) = false := by simpa using h3
                  clear hst2
                  go_wp2_with (first | (go_at_call 71; refine (must_yes _).mono ?_; rintro e w' ⟨rfl, rfl⟩; have done1 : True := trivial) | (go_at_call 71; refine (must_no _).mono ?_; rintro e w' ⟨rfl, rfl⟩) | fail)
                  exact ⟨rfl, ended_err E3.out HG.out⟩
              · have E3 : Hid (reshapedP x l = .error 4) := by show _ = _; rw [E0.out, ← hst2]; simp [mustP, h2]; rfl
                have b3 : decide (y ≤ count) = false := by simpa using h2
                clear hst2
                go_wp2_with (first | (go_at_call 71; refine (must_yes _).mono ?_; rintro e w' ⟨rfl, rfl⟩) | (go_at_call 71; refine (must_no _).mono ?_; rintro e w' ⟨rfl, rfl⟩) | fail)
                exact ⟨rfl, ended_err E3.out HG.out⟩
            · have E3 : Hid (reshapedP x l = .error 4) := by show _ = _; rw [E0.out, ← hst2]; simp [mustP, h1]; rfl
              have b3 : decide (1 ≤ y) = false := by simpa using h1
              clear hst2
              go_wp2_with (first | (go_at_call 71; refine (must_yes _).mono ?_; rintro e w' ⟨rfl, rfl⟩) | (go_at_call 71; refine (must_no _).mono ?_; rintro e w' ⟨rfl, rfl⟩) | fail)
              exact ⟨rfl, ended_err E3.out HG.out⟩
          · have E3 : Hid (reshapedP x l = .error 4) := by show _ = _; rw [E0.out, ← hst]; simp [oneS, hkx]; rfl
            have bnn : decide ((k : Int) < (x.length : Int)) = false := by simpa using hkx
            clear hst
            go_wp2_with (first | (go_at_call 71; refine (must_no _).mono ?_; rintro e w' ⟨rfl, rfl⟩) | fail)
            exact ⟨rfl, ended_err E3.out HG.out⟩
        · have bz : (d == 0) = false := by simpa using hz
          have hst2 : (mustP (decide (1 ≤ d ∧ d ≤ count))).bind (fun _ => (mustP (decide (known * d ≤ count))).bind (fun _ => shapeP x count (l.drop (k + 1)) (k + 1) left (known * d) (acc ++ [d]))) = shapeP x count l 0 none 1 [] := by rw [← hst]; simp only [oneS, if_neg hm, if_neg hz]; rfl
          clear hst hg
          by_cases h1 : 1 ≤ d
          · by_cases h2 : d ≤ count
            · obtain ⟨P, hP⟩ : ∃ P, P = known * d := ⟨_, rfl⟩
              have hP1 : 1 ≤ P := by rw [hP]; have := Int.mul_le_mul hk1 h1 (by omega) (by omega); omega
              have hPm : P ≤ 65536 * 65536 := by rw [hP]; exact Int.mul_le_mul (by omega) (by omega) (by omega) (by omega)
              rw [← hP] at hst2
              have hPx : known * d = P := hP.symm
              clear hP
              by_cases h3 : P ≤ count
              · have HST : Hid (shapeP x count (l.drop (k + 1)) (k + 1) left P (acc ++ [d]) = shapeP x count l 0 none 1 []) := by show _ = _; rw [← hst2]; simp [mustP, h1, h2, h3]; rfl
                clear hst2
                go_wp2_with (first | (go_at_call 71; refine (must_yes _).mono ?_; rintro e w' ⟨rfl, rfl⟩) | (at_builtin; refine wpList_push rfl (.tmp 53) (.tmp 55) rfl w.heap.size _ _ rfl HO1.out d rfl (by omega) (by omega) (by omega) ?_; intro v' w4 hown hgrow) | fail)
                obtain ⟨⟨xa, xn, xc⟩, rfl⟩ := hown.sl
                have HO2 := hide hown
                have HG2 := hide (hgrow w (Nat.le_refl _) HG.out)
                clear hown hgrow
                go_roundw
                case rel => exact ⟨k + 1, left, P, _, ⟨xa, xn, xc⟩, by omega, by go_num, by first | rfl | simp [leftI], rfl, rfl, HO2.out, by have := HAL.out; simp; omega, (fun j h => by have := HLF.out j h; omega), ⟨hP1, h3⟩, HST.out, HG2.out⟩
                case measure => simp [intOf]; omega
              · have E3 : Hid (reshapedP x l = .error 4) := by show _ = _; rw [E0.out, ← hst2]; simp [mustP, h1, h2, h3]; rfl
                have b3 : decide (P ≤ count) = false := by simpa using h3
                clear hst2
                go_wp2_with (first | (go_at_call 71; refine (must_yes _).mono ?_; rintro e w' ⟨rfl, rfl⟩; have done1 : True := trivial) | (go_at_call 71; refine (must_no _).mono ?_; rintro e w' ⟨rfl, rfl⟩) | fail)
                exact ⟨rfl, ended_err E3.out HG.out⟩
            · have E3 : Hid (reshapedP x l = .error 4) := by show _ = _; rw [E0.out, ← hst2]; simp [mustP, h2]; rfl
              have b3 : decide (d ≤ count) = false := by simpa using h2
              clear hst2
              go_wp2_with (first | (go_at_call 71; refine (must_yes _).mono ?_; rintro e w' ⟨rfl, rfl⟩) | (go_at_call 71; refine (must_no _).mono ?_; rintro e w' ⟨rfl, rfl⟩) | fail)
              exact ⟨rfl, ended_err E3.out HG.out⟩
          · have E3 : Hid (reshapedP x l = .error 4) := by show _ = _; rw [E0.out, ← hst2]; simp [mustP, h1]; rfl
            have b3 : decide (1 ≤ d) = false := by simpa using h1
            clear hst2
            go_wp2_with (first | (go_at_call 71; refine (must_yes _).mono ?_; rintro e w' ⟨rfl, rfl⟩) | (go_at_call 71; refine (must_no _).mono ?_; rintro e w' ⟨rfl, rfl⟩) | fail)
            exact ⟨rfl, ended_err E3.out HG.out⟩
    · have hkk : k = l.length := by omega
      have E1 : Hid (reshapedP x l = endS count (left, known, acc)) := by
        show _ = _
        rw [E0.out, ← hst, List.drop_of_length_le (by omega)]
        rfl
      have hk0 : ¬ known = 0 := by omega
      have hmod : count.tmod known = count % known := Int.tmod_eq_emod_of_nonneg (by omega)
      have hdiv : count.tdiv known = count / known := Int.tdiv_eq_ediv_of_nonneg (by omega)
      have hq1 : 0 ≤ count / known := Int.ediv_nonneg (by omega) (by omega)
      have hq2 : count / known ≤ count := Int.ediv_le_self _ (by omega)
      obtain ⟨Q, hQ⟩ : ∃ Q, Q = count / known := ⟨_, rfl⟩
      obtain ⟨M, hM⟩ : ∃ M, M = count % known := ⟨_, rfl⟩
      have E2 : Hid (endS count (left, known, acc) = (mustP (decide (M = 0 ∧ (left ≠ none ∨ known = count)))).bind (fun _ => .ok (putL left acc Q))) := by show _ = _; rw [hQ, hM]; rfl
      rw [← hQ] at hdiv hq1 hq2
      rw [← hM] at hmod
      clear hst hg hQ hM hkk
      by_cases hM0 : M = 0
      · subst hM0
        cases left with
        | some j =>
          have hj := HLF.out j rfl
          have E3 : Hid (reshapedP x l = .ok (acc.set j Q)) := by show _ = _; rw [E1.out, E2.out]; simp [mustP, putL]; rfl
          have hal := HAL.out
          obtain ⟨g, gcap, eo, hbg, hgl, hlc, hcm⟩ := HO1.out.shape (by omega)
          simp only [Value.slice.injEq] at eo
          obtain ⟨rfl, rfl, rfl⟩ := eo
          obtain ⟨cc, fc⟩ := HO1.out.cells (k := j) (by omega)
          obtain ⟨so, sg⟩ := HO1.out.put j Q (by omega)
          have SO := hide so
          have SG := hide (grown_drop HG.out sg hbg)
          have hja : (j : Int) < (acc.length : Int) := by omega
          simp only [leftI]
          clear so sg hal
          go_wp2_with (first | (go_at_call 71; refine (must_yes _).mono ?_; rintro e w' ⟨rfl, rfl⟩) | fail)
          go_ret
          exact ended_ok E3.out SG.out ⟨⟨_, _, _⟩, rfl, SO.out.ints⟩
        | none =>
          simp only [leftI]
          by_cases hkc : known = count
          · have bkc : (known == count) = true := by simp [hkc]
            have E3 : Hid (reshapedP x l = .ok acc) := by show _ = _; rw [E1.out, E2.out]; simp [mustP, hkc, putL]; rfl
            clear hkc
            go_wp2_with (first | (go_at_call 71; refine (must_yes _).mono ?_; rintro e w' ⟨rfl, rfl⟩) | fail)
            go_ret
            exact ended_ok E3.out HG.out ⟨⟨qa, qn, qc⟩, rfl, HO1.out.ints⟩
          · have bkc : (known == count) = false := by simpa using hkc
            have E3 : Hid (reshapedP x l = .error 4) := by show _ = _; rw [E1.out, E2.out]; simp [mustP, hkc]; rfl
            clear hkc
            go_wp2_with (first | (go_at_call 71; refine (must_no _).mono ?_; rintro e w' ⟨rfl, rfl⟩) | fail)
            exact ⟨rfl, ended_err E3.out HG.out⟩
      · have bM : (M == 0) = false := by simpa using hM0
        have E3 : Hid (reshapedP x l = .error 4) := by show _ = _; rw [E1.out, E2.out]; simp [mustP, hM0]; rfl
        clear hM0
        go_wp2_with (first | (go_at_call 71; refine (must_no _).mono ?_; rintro e w' ⟨rfl, rfl⟩) | fail)
        exact ⟨rfl, ended_err E3.out HG.out⟩
end Go.Proofs.YteigfipgmghgmaaGreatDoor
