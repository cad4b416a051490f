/- A part. -/
import Derived.Test.YtbgbpfbjeleooaaGreatRartAU
import Derived.Test.YtbgbpfbjeleooaaGreatRartAV
import Derived.Test.YtbgbpfbjeleooaaGreatRartAH
set_option maxHeartbeats 12800000
set_option maxRecDepth 100000
namespace Go.Proofs.YtbgbpfbjeleooaaGreat.Pd
open Go.RowKit
open Wr (Fld)
def jcM (s : Int × List ByteArray) (x : Fld) : R (Int × List ByteArray) := if x.num = 1 then (jbv x).bind fun d => .ok (d, s.2) else if x.num = 2 then (jbI x).bind fun t => .ok (s.1, s.2 ++ [t]) else .ok s
def jas (s : ByteArray) : R (Int × List Int) := (jaM s).bind fun l => (jaH jcM (0, []) l).bind fun t => (jaj (t.2.length == 0) 5).bind fun _ => (jbi (jca t.2)).bind fun ds => (jaj (!chk t.1 0) 5).bind fun _ => (jet (jde ds)).bind fun _ => .ok (t.1, ds)
theorem jei (s : ByteArray) (w : World) (hs : s.size ≤ 9223372036854775807) :
    Calls Tryz.prog 139 #[.string s] w (jbA w (jas s) fun d v w' => ∃ u : Sl, v = .tuple #[.int .i64 d.1, u.v] ∧ jdZ w' w.heap.size u.v d.2) := by
     obtain ⟨is0, hs0, hs1, hs2, hs3⟩ := info_parts jdC
     have O := jac (jco s w hs)
     rcases ja2 s with ⟨l, hl⟩ | ⟨c, hc, -⟩
     ·rw [hl] at O
      have FL := jac hl
      have E0 : Hid (jas s = (jaH jcM (0, []) l).bind fun t => (jaj (t.2.length == 0) 5).bind fun _ => (jbi (jca t.2)).bind fun ds => (jaj (!chk t.1 0) 5).bind fun _ => (jet (jde ds)).bind fun _ => .ok (t.1, ds)) := by show _ = _; unfold jas; rw [hl]; rfl
      clear hl
      go_enter Tryz.func139, Tryz.ntmps139
      go_wp2_with fail
      refine O.out.mono ?_
      rintro e w1 ⟨hg1, v, rfl, B, rfl, hcur⟩
      go_wp2_with fail
      have lo := hg1.size
      go_loopg [4, 5] l.length (fun gh tv sv wr => ∃ (x : Fld) (r : List Fld) (st : Int × List ByteArray), gh = r.length ∧ tv = .int .i64 st.1 ∧ jcV wr w.heap.size B x r ∧ w.grownBy wr none ∧ jaH jcM (0, []) l = jaH jcM st r ∧ jdL wr (B + 1) sv st.2 ∧ st.2.length + r.length ≤ 16777216 ∧ tot st.2 + tot (r.map (·.b)) ≤ 16777216 ∧ (-9223372036854775808 ≤ st.1 ∧ st.1 ≤ 9223372036854775807))
      case atStart => exact ⟨_, l, (0, []), rfl, rfl, hcur, hg1, rfl, OwnsL.nil .., by have := jbb FL.out; simpa using this, by have := jcj FL.out; simpa [tot] using this, by decide⟩
      case round =>
       obtain ⟨x, r, ⟨typ, ss⟩, rfl, rfl, hc, hg, hf, hi0, hi1, hi2, hi3⟩ := hrel
       have HF := jac hf
       have HC := jac hc
       have HG := jac hg
       have HB : Hid (w.heap.size ≤ B) := by obtain ⟨_, _, _, _, h⟩ := hc; exact h
       have I0 := jac hi0
       have I1 := jac hi1
       have I2 := jac hi2
       have I3 := jac hi3
       clear hf hc hg hcur hg1 hi0 hi1 hi2 hi3
       simp only at I0 I1 I2 I3
       obtain ⟨va, vc, rfl⟩ := OwnsL.form I0.out
       cases r with
       | nil =>
        have NX := jac (jbF _ B x wr HC.out)
        have E1 : Hid (jas s = (jaj (ss.length == 0) 5).bind fun _ => (jbi (jca ss)).bind fun ds => (jaj (!chk typ 0) 5).bind fun _ => (jet (jde ds)).bind fun _ => .ok (typ, ds)) := by show _ = _; rw [E0.out, HF.out]; rfl
        by_cases h0 : ss.length = 0
        ·have b0 : ((ss.length : Int) == 0) = true := by simp [h0]
         have E2 : Hid (jas s = .error 5) := by show _ = _; rw [E1.out]; simp [h0, jaj]; rfl
         clear h0
         go_wp2_with (first | (go_at_call 51; refine NX.out.mono ?_; rintro e w' ⟨rfl, rfl⟩) | (go_at_call 53; refine (jaz _ _).mono ?_; rintro e w' ⟨rfl, rfl⟩))
         exact ⟨rfl, jad E2.out HG.out⟩
        ·have b0 : ((ss.length : Int) == 0) = false := beq_eq_false_iff_ne.2 (by omega)
         have E2 : Hid (jas s = (jbi (jca ss)).bind fun x => (jaj (!chk typ 0) 5).bind fun _ => (jet (jde x)).bind fun _ => .ok (typ, x)) := by show _ = _; rw [E1.out]; simp [h0, jaj]; rfl
         have TL : Hid (ss.length ≤ 16777216 ∧ tot ss ≤ 16777216) := by
          have h1 := I1.out
          have h2 := I2.out
          exact ⟨by simpa using h1, by simp [tot] at h2 ⊢; omega⟩
         have JN := jac (jed (B + 1) _ ss wr I0.out TL.out.1 TL.out.2)
         clear h0
         go_wp2_with (first | (go_at_call 51; refine NX.out.mono ?_; rintro e w' ⟨rfl, rfl⟩) | (go_at_call 53; refine (jaJ _ _).mono ?_; rintro e w' ⟨rfl, rfl⟩) | (go_at_call 55; refine JN.out.mono ?_; rintro e w3 ⟨rfl, hg3⟩) | fail)
         have SB := jac (jf0 (jca ss) w3 (by rw [jcY]; have := TL.out.2; omega))
         have G3 := jac (jaa HG.out hg3)
         obtain ⟨jx, hjx⟩ : ∃ jx, jx = jca ss := ⟨_, rfl⟩
         rw [← hjx] at SB E2 ⊢
         clear hjx
         cases hd : jbi jx with
         | error c =>
          have E3 : Hid (jas s = .error c) := by show _ = _; rw [E2.out, hd]; rfl
          rw [hd] at SB
          clear hd
          refine SB.out.mono ?_
          rintro e w4 ⟨hg4, rfl⟩
          exact ⟨rfl, jad E3.out (jaa G3.out hg4)⟩
         | ok res =>
          rw [hd] at SB E2
          clear hd
          refine SB.out.mono ?_
          rintro e w4 ⟨hg4, v, rfl, ⟨qa, qn, qc⟩, rfl, hq, hql⟩
          simp only [Sl.v]
          have E3 : Hid (jas s = (jaj (!chk typ 0) 5).bind fun _ => (jet (jde res)).bind fun _ => .ok (typ, res)) := E2.out
          have HQ := jac hq
          obtain ⟨_, _, ez, -⟩ := hq.ints
          simp only [Value.slice.injEq] at ez
          obtain ⟨-, rfl, -⟩ := ez
          have G4 := jac (jaa G3.out hg4)
          have SZ := jac (Nat.le_trans HG.out.size hg3.size)
          have CT := jac (je3 _ res w4 hq.ints)
          have IT := jac (jes typ w4)
          clear hq hg4 hg3 SB
          cases hk : chk typ 0 with
          | false =>
           have E4 : Hid (jas s = .error 5) := by show _ = _; rw [E3.out, hk]; rfl
           rw [hk] at IT
           clear hk
           go_wp2_with (first | (go_at_call 43; refine IT.out.mono ?_; rintro e w' ⟨rfl, rfl⟩) | (go_at_call 53; refine (jaz _ _).mono ?_; rintro e w' ⟨rfl, rfl⟩))
           exact ⟨rfl, jad E4.out G4.out⟩
          | true =>
           have E4 : Hid (jas s = (jet (jde res)).bind fun _ => .ok (typ, res)) := by show _ = _; rw [E3.out, hk]; rfl
           rw [hk] at IT
           clear hk
           by_cases hx : jde res = 0
           ·have E5 : Hid (jas s = .ok (typ, res)) := by show _ = _; rw [E4.out, hx]; rfl
            rw [hx] at CT
            clear hx
            go_wp2_with (first | (go_at_call 43; refine IT.out.mono ?_; rintro e w' ⟨rfl, rfl⟩) | (go_at_call 53; refine (jaJ _ _).mono ?_; rintro e w' ⟨rfl, rfl⟩) | (go_at_call 44; refine CT.out.mono ?_; rintro e w' ⟨rfl, rfl⟩) | (go_at_call 79; refine (jfc _).mono ?_; rintro e w' ⟨rfl, rfl⟩))
            go_ret2
            exact jaE E5.out G4.out ⟨⟨qa, res.length, qc⟩, rfl, HQ.out.base_le SZ.out⟩
           ·have E5 : Hid (jas s = .error (jde res)) := by show _ = _; rw [E4.out]; unfold jet; rw [if_neg hx]; rfl
            have HX := jac hx
            clear hx
            go_wp2_with (first | (go_at_call 43; refine IT.out.mono ?_; rintro e w' ⟨rfl, rfl⟩) | (go_at_call 53; refine (jaJ _ _).mono ?_; rintro e w' ⟨rfl, rfl⟩) | (go_at_call 44; refine CT.out.mono ?_; rintro e w' ⟨rfl, rfl⟩) | (go_at_call 79; refine (jdB _ HX.out _).mono ?_; rintro e w' ⟨rfl, rfl⟩))
            exact ⟨rfl, jad E5.out G4.out⟩
       | cons y r =>
        have NX := jac (jbG _ B x y r wr HC.out)
        go_wp2_with fail
        refine NX.out.mono ?_
        rintro e w2 ⟨rfl, hc2, hg2⟩
        have HC2 := jac hc2
        have HG2 := jac (jak HG.out hg2 (fun g e => by cases e; exact HB.out))
        obtain ⟨a0, a1, a2, a3⟩ := hc2.cells
        have HGB := jac hg2
        clear hc2 hg2 NX HC HG
        by_cases h1 : y.num = 1
        ·have b1 : (y.num == 1) = true := by simp [h1]
         have H1 := jac h1
         clear h1
         go_wp2_with fail
         have TX := jac (jcB B y w2 a1 a2)
         clear a0 a1 a2 a3
         rcases jbK y with ⟨q, hx, hq⟩ | hx
         ·rw [hx] at TX
          have ES := jac (HF.out.trans (jau (f := jcM) (b := (q, ss)) (by unfold jcM; rw [if_pos H1.out]; rw [hx]; rfl)))
          clear hx
          refine TX.out.mono ?_
          rintro e w3 ⟨-, v, rfl, rfl, rfl⟩
          have OW2 := jac (I0.out.kept (row := some B) HGB.out (fun g e => by cases e; omega))
          go_wp2_with (go_at_call 109; refine (jdh _ _ hq).mono ?_; rintro e w' ⟨rfl, rfl⟩)
          go_roundg r.length
          case measure => simp
          case rel => exact ⟨y, r, (q, ss), rfl, rfl, HC2.out, HG2.out, ES.out, OW2.out, by have := I1.out; simp at this ⊢; omega, by have t1 := I2.out; simp only [List.map_cons, ja8] at t1; show tot ss + _ ≤ _; omega, hq⟩
         ·rw [hx] at TX
          have E : Hid (jas s = .error 3) := by show _ = _; rw [E0.out, HF.out, jaF (f := jcM) (c := 3) (by unfold jcM; rw [if_pos H1.out]; rw [hx]; rfl)]; rfl
          clear hx
          refine TX.out.mono ?_
          rintro e w3 ⟨hg3, rfl⟩
          exact ⟨rfl, jad E.out (jaa HG2.out hg3)⟩
        ·have b1 : (y.num == 1) = false := by simpa using h1
         have H1 := jac h1
         clear h1
         by_cases h2 : y.num = 2
         ·have b2 : (y.num == 2) = true := by simp [h2]
          have H2 := jac h2
          clear h2
          go_wp2_with fail
          have TX := jac (jax B y w2 a1 a3)
          clear a0 a1 a2 a3
          rcases jaP y with ⟨sx, hx⟩ | hx
          ·rw [hx] at TX
           have TB := jac (jdj hx (Nat.le_refl _))
           have ES := jac (HF.out.trans (jau (f := jcM) (b := (typ, ss ++ [sx])) (by unfold jcM; rw [if_neg H1.out]; rw [if_pos H2.out]; rw [hx]; rfl)))
           clear hx
           refine TX.out.mono ?_
           rintro e w3 ⟨-, v, rfl, rfl, rfl⟩
           have OW : Hid (∀ o, jdL (w2.alloc o) (B + 1) (.slice va ss.length vc) ss) := fun o => (I0.out.kept HGB.out (fun g e => by cases e; omega)).more (jab _ _)
           have sz : B + 1 ≤ w2.heap.size := HC2.out.lt
           have hle : ss.length + 1 ≤ 16777216 := by have := I1.out; simp at this; omega
           go_wp2_with (at_builtin; refine Wr.wpList_push rfl (.tmp 26) (.tmp 29) 32 9 1 16 (.string ⟨#[]⟩) is0 ja4 rfl Tryz.underlying32 hs0 hs1 hs2 hs3 rfl (by decide) (B + 1) _ _ rfl (by exact OW.out _) w2.heap.size 1 sx #[.string sx] rfl (by exact heap_alloc_new w2 _) rfl rfl (jbR sx) (by omega) (by simp only [maxLen]; omega) (by simp; omega) ?_; intro v' w8 hown' hgrow)
           have ST : Hid (w.grownBy w8 none ∧ jdL w8 (B + 1) v' (ss ++ [sx]) ∧ jcV w8 w.heap.size B y r) := by
            have og := World.ownsRow.lt (OW.out (.cells #[.string sx] 9))
            exact ⟨jak (jaa HG2.out (jab w2 (.cells #[.string sx] 9))) hgrow (fun g e => by have := og g e; have := HB.out; omega), hown', (HC2.out.more (jab w2 _)).kept hgrow (fun g e => by have := og g e; omega)⟩
           clear hown' hgrow OW
           go_roundg r.length
           case measure => simp
           case rel => exact ⟨y, r, (typ, ss ++ [sx]), rfl, rfl, ST.out.2.2, ST.out.1, ES.out, ST.out.2.1, by have := I1.out; simp at this ⊢; omega, by have t1 := I2.out; have t2 := TB.out; simp only [List.map_cons, ja8] at t1; show tot (ss ++ [sx]) + _ ≤ _; rw [jfd, jfe]; omega, I3.out⟩
          ·rw [hx] at TX
           have E : Hid (jas s = .error 3) := by show _ = _; rw [E0.out, HF.out, jaF (f := jcM) (c := 3) (by unfold jcM; rw [if_neg H1.out]; rw [if_pos H2.out]; rw [hx]; rfl)]; rfl
           clear hx
           refine TX.out.mono ?_
           rintro e w3 ⟨hg3, rfl⟩
           exact ⟨rfl, jad E.out (jaa HG2.out hg3)⟩
         ·have b2 : (y.num == 2) = false := by simpa using h2
          have H2 := jac h2
          clear h2
          have ES := jac (HF.out.trans (jau (f := jcM) (b := (typ, ss)) (by unfold jcM; rw [if_neg H1.out]; rw [if_neg H2.out])))
          clear a1 a2 a3
          have OW2 := jac (I0.out.kept (row := some B) HGB.out (fun g e => by cases e; omega))
          go_wp2_with fail
          clear a0
          go_roundg r.length
          case measure => simp
          case rel => exact ⟨y, r, (typ, ss), rfl, rfl, HC2.out, HG2.out, ES.out, OW2.out, by have := I1.out; simp at this ⊢; omega, by have t1 := I2.out; simp only [List.map_cons, ja8] at t1; show tot ss + _ ≤ _; omega, I3.out⟩
     ·rw [hc] at O
      have E : Hid (jas s = .error c) := by show _ = _; unfold jas; rw [hc]; rfl
      clear hc
      go_enter Tryz.func139, Tryz.ntmps139
      go_wp2_with fail
      refine O.out.mono ?_
      rintro e w1 ⟨hg1, rfl⟩
      exact ⟨rfl, jad E.out hg1⟩
def jdP (s : List ByteArray) (x : Fld) : R (List ByteArray) := if x.num = 1 then (jbI x).bind fun t => .ok (s ++ [t]) else .ok s
def jbd (s : ByteArray) : R (Int × List Int) := (jaM s).bind fun l => (jaH jdP [] l).bind fun t => (jaj (t.length == 0) 5).bind fun _ => (jas (jca t)).bind fun x => .ok x
theorem jgH (s : ByteArray) (w : World) (hs : s.size ≤ 9223372036854775807) :
    Calls Tryz.prog 114 #[.string s] w (jbA w (jbd s) fun d v w' => ∃ u : Sl, v = .tuple #[.int .i64 d.1, u.v] ∧ jdZ w' w.heap.size u.v d.2) := by
     obtain ⟨is0, hs0, hs1, hs2, hs3⟩ := info_parts jdC
     have O := jac (jco s w hs)
     rcases ja2 s with ⟨l, hl⟩ | ⟨c, hc, -⟩
     ·rw [hl] at O
      have FL := jac hl
      have E0 : Hid (jbd s = (jaH jdP [] l).bind fun t => (jaj (t.length == 0) 5).bind fun _ => (jas (jca t)).bind fun x => .ok x) := by show _ = _; unfold jbd; rw [hl]; rfl
      clear hl
      go_enter Tryz.func114, Tryz.ntmps114
      go_wp2_with fail
      refine O.out.mono ?_
      rintro e w1 ⟨hg1, v, rfl, B, rfl, hcur⟩
      go_wp2_with fail
      have lo := hg1.size
      go_loopg [4] l.length (fun gh sv wr => ∃ (x : Fld) (r : List Fld) (st : List ByteArray), gh = r.length ∧ jcV wr w.heap.size B x r ∧ w.grownBy wr none ∧ jaH jdP [] l = jaH jdP st r ∧ jdL wr (B + 1) sv st ∧ st.length + r.length ≤ 16777216 ∧ tot st + tot (r.map (·.b)) ≤ 16777216)
      case atStart => exact ⟨_, l, [], rfl, hcur, hg1, rfl, OwnsL.nil .., by have := jbb FL.out; simpa using this, by have := jcj FL.out; simpa [tot] using this⟩
      case round =>
       obtain ⟨x, r, ss, rfl, hc, hg, hf, hi0, hi1, hi2⟩ := hrel
       have HF := jac hf
       have HC := jac hc
       have HG := jac hg
       have HB : Hid (w.heap.size ≤ B) := by obtain ⟨_, _, _, _, h⟩ := hc; exact h
       have I0 := jac hi0
       have I1 := jac hi1
       have I2 := jac hi2
       clear hf hc hg hcur hg1 hi0 hi1 hi2
       obtain ⟨va, vc, rfl⟩ := OwnsL.form I0.out
       cases r with
       | nil =>
        have NX := jac (jbF _ B x wr HC.out)
        have E1 : Hid (jbd s = (jaj (ss.length == 0) 5).bind fun _ => (jas (jca ss)).bind fun x => .ok x) := by show _ = _; rw [E0.out, HF.out]; rfl
        by_cases h0 : ss.length = 0
        ·have b0 : ((ss.length : Int) == 0) = true := by simp [h0]
         have E2 : Hid (jbd s = .error 5) := by show _ = _; rw [E1.out]; simp [h0, jaj]; rfl
         clear h0
         go_wp2_with (first | (go_at_call 51; refine NX.out.mono ?_; rintro e w' ⟨rfl, rfl⟩) | (go_at_call 53; refine (jaz _ _).mono ?_; rintro e w' ⟨rfl, rfl⟩))
         exact ⟨rfl, jad E2.out HG.out⟩
        ·have b0 : ((ss.length : Int) == 0) = false := beq_eq_false_iff_ne.2 (by omega)
         have E2 : Hid (jbd s = (jas (jca ss)).bind fun x => .ok x) := by show _ = _; rw [E1.out]; simp [h0, jaj]; rfl
         have TL : Hid (ss.length ≤ 16777216 ∧ tot ss ≤ 16777216) := by
          have h1 := I1.out
          have h2 := I2.out
          exact ⟨by simpa using h1, by simp [tot] at h2 ⊢; omega⟩
         have JN := jac (jed (B + 1) _ ss wr I0.out TL.out.1 TL.out.2)
         clear h0
         go_wp2_with (first | (go_at_call 51; refine NX.out.mono ?_; rintro e w' ⟨rfl, rfl⟩) | (go_at_call 53; refine (jaJ _ _).mono ?_; rintro e w' ⟨rfl, rfl⟩) | (go_at_call 55; refine JN.out.mono ?_; rintro e w3 ⟨rfl, hg3⟩) | fail)
         have SB := jac (jei (jca ss) w3 (by rw [jcY]; have := TL.out.2; omega))
         have G3 := jac (jaa HG.out hg3)
         obtain ⟨jx, hjx⟩ : ∃ jx, jx = jca ss := ⟨_, rfl⟩
         rw [← hjx] at SB E2 ⊢
         clear hjx
         cases hd : jas jx with
         | error c =>
          have E3 : Hid (jbd s = .error c) := by show _ = _; rw [E2.out, hd]; rfl
          rw [hd] at SB
          clear hd
          refine SB.out.mono ?_
          rintro e w4 ⟨hg4, rfl⟩
          exact ⟨rfl, jad E3.out (jaa G3.out hg4)⟩
         | ok res =>
          rw [hd] at SB E2
          clear hd
          refine SB.out.mono ?_
          rintro e w4 ⟨hg4, v, rfl, ⟨qa, qn, qc⟩, rfl, hq⟩
          have HQ := jac hq
          have G4 := jac (jaa G3.out hg4)
          have SZ := jac (Nat.le_trans HG.out.size hg3.size)
          clear hq hg4 hg3 SB
          go_wp2
          go_ret2
          exact jaE E2.out G4.out ⟨⟨qa, qn, qc⟩, rfl, HQ.out.base_le SZ.out⟩
       | cons y r =>
        have NX := jac (jbG _ B x y r wr HC.out)
        go_wp2_with fail
        refine NX.out.mono ?_
        rintro e w2 ⟨rfl, hc2, hg2⟩
        have HC2 := jac hc2
        have HG2 := jac (jak HG.out hg2 (fun g e => by cases e; exact HB.out))
        obtain ⟨a0, a1, a2, a3⟩ := hc2.cells
        have HGB := jac hg2
        clear hc2 hg2 NX HC HG
        by_cases h1 : y.num = 1
        ·have b1 : (y.num == 1) = true := by simp [h1]
         have H1 := jac h1
         clear h1
         go_wp2_with fail
         have TX := jac (jax B y w2 a1 a3)
         clear a0 a1 a2 a3
         rcases jaP y with ⟨sx, hx⟩ | hx
         ·rw [hx] at TX
          have TB := jac (jdj hx (Nat.le_refl _))
          have ES := jac (HF.out.trans (jau (f := jdP) (b := ss ++ [sx]) (by unfold jdP; rw [if_pos H1.out]; rw [hx]; rfl)))
          clear hx
          refine TX.out.mono ?_
          rintro e w3 ⟨-, v, rfl, rfl, rfl⟩
          have OW : Hid (∀ o, jdL (w2.alloc o) (B + 1) (.slice va ss.length vc) ss) := fun o => (I0.out.kept HGB.out (fun g e => by cases e; omega)).more (jab _ _)
          have sz : B + 1 ≤ w2.heap.size := HC2.out.lt
          have hle : ss.length + 1 ≤ 16777216 := by have := I1.out; simp at this; omega
          go_wp2_with (at_builtin; refine Wr.wpList_push rfl (.tmp 16) (.tmp 19) 32 9 1 16 (.string ⟨#[]⟩) is0 ja4 rfl Tryz.underlying32 hs0 hs1 hs2 hs3 rfl (by decide) (B + 1) _ _ rfl (by exact OW.out _) w2.heap.size 1 sx #[.string sx] rfl (by exact heap_alloc_new w2 _) rfl rfl (jbR sx) (by omega) (by simp only [maxLen]; omega) (by simp; omega) ?_; intro v' w8 hown' hgrow)
          have ST : Hid (w.grownBy w8 none ∧ jdL w8 (B + 1) v' (ss ++ [sx]) ∧ jcV w8 w.heap.size B y r) := by
           have og := World.ownsRow.lt (OW.out (.cells #[.string sx] 9))
           exact ⟨jak (jaa HG2.out (jab w2 (.cells #[.string sx] 9))) hgrow (fun g e => by have := og g e; have := HB.out; omega), hown', (HC2.out.more (jab w2 _)).kept hgrow (fun g e => by have := og g e; omega)⟩
          clear hown' hgrow OW
          go_roundg r.length
          case measure => simp
          case rel => exact ⟨y, r, ss ++ [sx], rfl, ST.out.2.2, ST.out.1, ES.out, ST.out.2.1, by have := I1.out; simp at this ⊢; omega, by have t1 := I2.out; have t2 := TB.out; simp only [List.map_cons, ja8] at t1; show tot (ss ++ [sx]) + _ ≤ _; rw [jfd, jfe]; omega⟩
         ·rw [hx] at TX
          have E : Hid (jbd s = .error 3) := by show _ = _; rw [E0.out, HF.out, jaF (f := jdP) (c := 3) (by unfold jdP; rw [if_pos H1.out]; rw [hx]; rfl)]; rfl
          clear hx
          refine TX.out.mono ?_
          rintro e w3 ⟨hg3, rfl⟩
          exact ⟨rfl, jad E.out (jaa HG2.out hg3)⟩
        ·have b1 : (y.num == 1) = false := by simpa using h1
         have H1 := jac h1
         clear h1
         have ES := jac (HF.out.trans (jau (f := jdP) (b := ss) (by unfold jdP; rw [if_neg H1.out])))
         clear a1 a2 a3
         have OW2 := jac (I0.out.kept (row := some B) HGB.out (fun g e => by cases e; omega))
         go_wp2_with fail
         clear a0
         go_roundg r.length
         case measure => simp
         case rel => exact ⟨y, r, ss, rfl, HC2.out, HG2.out, ES.out, OW2.out, by have := I1.out; simp at this ⊢; omega, by have t1 := I2.out; simp only [List.map_cons, ja8] at t1; show tot ss + _ ≤ _; omega⟩
     ·rw [hc] at O
      have E : Hid (jbd s = .error c) := by show _ = _; unfold jbd; rw [hc]; rfl
      clear hc
      go_enter Tryz.func114, Tryz.ntmps114
      go_wp2_with fail
      refine O.out.mono ?_
      rintro e w1 ⟨hg1, rfl⟩
      exact ⟨rfl, jad E.out hg1⟩
end Go.Proofs.YtbgbpfbjeleooaaGreat.Pd
namespace Go.Proofs.YtbgbpfbjeleooaaGreat.Pd
open Go.RowKit
open Wr (Fld)
def jcd (s : ByteArray × List ByteArray) (x : Fld) : R (ByteArray × List ByteArray) := if x.num = 1 then (jbI x).bind fun t => .ok (t, s.2) else if x.num = 2 then (jbI x).bind fun t => .ok (s.1, s.2 ++ [t]) else .ok s
structure NVal where
 name : ByteArray
 ty : Int
 dims : List Int
def jaL (s : ByteArray) : R NVal := (jaM s).bind fun l => (jaH jcd (⟨#[]⟩, []) l).bind fun t => (jaj (t.2.length == 0) 5).bind fun _ => (jbd (jca t.2)).bind fun x => (jaj (jaQ [t.1]) 6).bind fun _ => .ok ⟨t.1, x.1, x.2⟩
theorem put3 {w : World} {B : Nat} {z0 z1 z2 : Value} {t : TypeId} (hb : w.heap[B]? = some (.cells #[z0, z1, z2] t (0, 0))) (a : Value) :
    (w.setCell ⟨B, 0, none⟩ a).heap[B]? = some (.cells #[a, z1, z2] t (0, 0)) ∧ (w.setCell ⟨B, 1, none⟩ a).heap[B]? = some (.cells #[z0, a, z2] t (0, 0)) ∧ (w.setCell ⟨B, 2, none⟩ a).heap[B]? = some (.cells #[z0, z1, a] t (0, 0)) :=
     ⟨by simpa using heap_setCell_same w B 0 _ _ a hb, by simpa using heap_setCell_same w B 1 _ _ a hb, by simpa using heap_setCell_same w B 2 _ _ a hb⟩
theorem ja9 {w : World} {B : Nat} {z0 z1 z2 : Value} {t : TypeId} (hb : w.heap[B]? = some (.cells #[z0, z1, z2] t (0, 0))) :
    (w.cell? ⟨B, 0, none⟩ = some z0 ∧ w.cell? ⟨B, 1, none⟩ = some z1 ∧ w.cell? ⟨B, 2, none⟩ = some z2) ∧ w.frozen? ⟨B, 0, none⟩ = false ∧ w.frozen? ⟨B, 1, none⟩ = false ∧ w.frozen? ⟨B, 2, none⟩ = false :=
     ⟨⟨(cell_of_row _ _ 0 _ _ (0, 0) hb).trans rfl, (cell_of_row _ _ 1 _ _ (0, 0) hb).trans rfl, (cell_of_row _ _ 2 _ _ (0, 0) hb).trans rfl⟩, frozen_of_row w B 0 _ _ hb, frozen_of_row w B 1 _ _ hb, frozen_of_row w B 2 _ _ hb⟩
theorem jlt {w3 : World} {B : Nat} {z0 z1 z2 : Value} {t : TypeId} (a b c : Value) (hb : w3.heap[B]? = some (.cells #[z0, z1, z2] t (0, 0))) :
    (((w3.setCell ⟨B, 0, none⟩ a).setCell ⟨B, 1, none⟩ b).setCell ⟨B, 2, none⟩ c).heap[B]? = some (.cells #[a, b, c] t (0, 0)) ∧ w3.grownBy (((w3.setCell ⟨B, 0, none⟩ a).setCell ⟨B, 1, none⟩ b).setCell ⟨B, 2, none⟩ c) (some B) := by
     have h1 := heap_setCell_same w3 B 0 _ _ a hb
     have h2 := heap_setCell_same _ B 1 _ _ b h1
     have h3 := heap_setCell_same _ B 2 _ _ c h2
     exact ⟨by simpa using h3, Wr.row_trans (Wr.row_trans (jao w3 B 0 a) (jao _ B 1 b)) (jao _ B 2 c)⟩
theorem jkm : (Tryz.prog.info? 82).map (·.size) = some 3 := by kernel_rfl
theorem jkn {fn : Func} {p : Tmp} (h : fn.results = #[.cell p 82]) (tmps : Array Value) (w : World) (B : Nat) (hp : tmps.getD p undef = .pointer (some ⟨B, 0, none⟩)) {a0 a1 a2 : Value}
    (hb : w.heap[B]? = some (.cells #[a0, a1, a2] 82 (0, 0))) : (results fn tmps).run Tryz.prog w = .ok (.agg #[a0, a1, a2]) w :=
     results_cell_row h tmps w B 82 #[a0, a1, a2] (0, 0) _ hp hb Tryz.underlying82 rfl (by rw [jkm]; rfl)
theorem jbN (w : World) (a b : Array Value) (t u : TypeId) : ((w.alloc (.cells a t)).alloc (.cells b u)).heap[w.heap.size]? = some (.cells a t (0, 0)) :=
 ((jab _ (.cells b u)).block _ (by rw [jar]; omega) (by simp)).trans (heap_alloc_new w _)
theorem jct (w : World) (a b : Array Value) (t u : TypeId) : ((w.alloc (.cells a t)).alloc (.cells b u)).heap[w.heap.size + 1]? = some (.cells b u (0, 0)) := by
 have h := heap_alloc_new (w.alloc (.cells a t)) (.cells b u)
 rw [jar] at h
 exact h
theorem jaX (s : ByteArray) (w : World) (hs : s.size ≤ 9223372036854775807) :
    Calls Tryz.prog 83 #[.string s] w (jbA w (jaL s) fun V v w' => ∃ d : Sl, v = .agg #[.string V.name, .int .i64 V.ty, .slice d.a d.n d.c] ∧ jdZ w' w.heap.size d.v V.dims) := by
     obtain ⟨is0, hs0, hs1, hs2, hs3⟩ := info_parts jdC
     have O := jac (fun wx => jco s wx hs)
     obtain ⟨w0, hw0⟩ : ∃ w0, w0 = (w.alloc (.cells #[.string ⟨#[]⟩, .int .i64 0, .slice none 0 0] 82)).alloc (.cells #[.string ⟨#[]⟩, .int .i64 0, .slice none 0 0] 82) := ⟨_, rfl⟩
     have g0 : w.grownBy w0 none := by rw [hw0]; exact jaa (jab _ _) (jab _ _)
     have hbR : w0.heap[w.heap.size]? = some (.cells #[.string ⟨#[]⟩, .int .i64 0, .slice none 0 0] 82 (0, 0)) := by rw [hw0]; exact jbN _ _ _ _ _
     have hbT : w0.heap[w.heap.size + 1]? = some (.cells #[.string ⟨#[]⟩, .int .i64 0, .slice none 0 0] 82 (0, 0)) := by rw [hw0]; exact jct _ _ _ _ _
     have S0 : w0.heap.size = w.heap.size + 2 := by rw [hw0, jar, jar]
     rcases ja2 s with ⟨l, hl⟩ | ⟨c, hc, -⟩
     ·rw [hl] at O
      have FL := jac hl
      have E0 : Hid (jaL s = (jaH jcd (⟨#[]⟩, []) l).bind fun t => (jaj (t.2.length == 0) 5).bind fun _ => (jbd (jca t.2)).bind fun x => (jaj (jaQ [t.1]) 6).bind fun _ => .ok ⟨t.1, x.1, x.2⟩) := by show _ = _; unfold jaL; rw [hl]; rfl
      clear hl
      go_enter Tryz.func83, Tryz.ntmps83
      go_wp2_with fail
      rw [← hw0]
      refine (O.out w0).mono ?_
      rintro e w1 ⟨hg1, v, rfl, B, rfl, hcur⟩
      obtain ⟨lo, hlo⟩ : ∃ lo, lo = w0.heap.size := ⟨_, rfl⟩
      rw [← hlo] at hcur S0
      have LB : lo ≤ B := by obtain ⟨_, _, _, _, h⟩ := hcur; exact h
      obtain ⟨bR, hR⟩ : ∃ b, b = w.heap.size := ⟨_, rfl⟩
      obtain ⟨bT, hT⟩ : ∃ b, b = w.heap.size + 1 := ⟨_, rfl⟩
      rw [← hR] at hbR
      rw [← hT] at hbT ⊢
      rw [← hR]
      have BT : Hid (bT < B ∧ bR < B) := ⟨by omega, by omega⟩
      have BL : Hid (bT < lo ∧ w.heap.size ≤ bT) := ⟨by omega, by omega⟩
      have BN : Hid (bR ≠ bT) := by show bR ≠ bT; omega
      have HB : Hid (w.heap.size ≤ B) := by show w.heap.size ≤ B; omega
      have RI : Hid (bR = w.heap.size) := hR
      have R1 : w1.heap[bR]? = some (.cells #[.string ⟨#[]⟩, .int .i64 0, .slice none 0 0] 82 (0, 0)) := (hg1.block bR (by omega) (by simp)).trans hbR
      have T1 : w1.heap[bT]? = some (.cells #[.string ⟨#[]⟩, .int .i64 0, .slice none 0 0] 82 (0, 0)) := (hg1.block bT (by omega) (by simp)).trans hbT
      have G1 := jaa g0 hg1
      clear hbR hbT g0 hg1 hw0 S0 hlo LB hR hT
      go_wp2_with fail
      go_loopg [4] l.length (fun gh sv wr => ∃ (x : Fld) (r : List Fld) (st : ByteArray × List ByteArray), gh = r.length ∧ wr.heap[bR]? = some (.cells #[.string ⟨#[]⟩, .int .i64 0, .slice none 0 0] 82 (0, 0)) ∧ wr.heap[bT]? = some (.cells #[.string st.1, .int .i64 0, .slice none 0 0] 82 (0, 0)) ∧ jdL wr (B + 1) sv st.2 ∧ jcV wr lo B x r ∧ w.grownBy wr none ∧ jaH jcd (⟨#[]⟩, []) l = jaH jcd st r ∧ st.2.length + r.length ≤ 16777216 ∧ tot st.2 + tot (r.map (·.b)) ≤ 16777216)
      case atStart => exact ⟨_, l, (⟨#[]⟩, []), rfl, R1, T1, OwnsL.nil .., hcur, G1, rfl, by have := jbb FL.out; simpa using this, by have := jcj FL.out; simpa [tot] using this⟩
      case round =>
       obtain ⟨x, r, ⟨nm, ss⟩, rfl, hR, hT, hi0, hcu, hg, hf, hi1, hi2⟩ := hrel
       simp only at hT hi0 hi1 hi2
       have HF := jac hf
       have HC := jac hcu
       have HG := jac hg
       have I0 := jac hi0
       have I1 := jac hi1
       have I2 := jac hi2
       have HR := jac hR
       have HT := jac hT
       clear hf hcu hg hi0 hi1 hi2 hR hT hcur R1 T1 G1
       obtain ⟨va, vc, rfl⟩ := OwnsL.form I0.out
       cases r with
       | nil =>
        have NX := jac (jbF _ B x wr HC.out)
        have E1 : Hid (jaL s = (jaj (ss.length == 0) 5).bind fun _ => (jbd (jca ss)).bind fun x => (jaj (jaQ [nm]) 6).bind fun _ => .ok ⟨nm, x.1, x.2⟩) := by show _ = _; rw [E0.out, HF.out]; rfl
        by_cases h0 : ss.length = 0
        ·have b0 : ((ss.length : Int) == 0) = true := by simp [h0]
         have E2 : Hid (jaL s = .error 5) := by show _ = _; rw [E1.out]; simp [h0, jaj]; rfl
         clear h0
         go_wp2_with (first | (go_at_call 51; refine NX.out.mono ?_; rintro e w' ⟨rfl, rfl⟩) | (go_at_call 53; refine (jaz _ _).mono ?_; rintro e w' ⟨rfl, rfl⟩))
         exact ⟨rfl, jad E2.out HG.out⟩
        ·have b0 : ((ss.length : Int) == 0) = false := beq_eq_false_iff_ne.2 (by omega)
         have E2 : Hid (jaL s = (jbd (jca ss)).bind fun x => (jaj (jaQ [nm]) 6).bind fun _ => .ok ⟨nm, x.1, x.2⟩) := by show _ = _; rw [E1.out]; simp [h0, jaj]; rfl
         have TL : Hid (ss.length ≤ 16777216 ∧ tot ss ≤ 16777216) := by
          have h1 := I1.out
          have h2 := I2.out
          exact ⟨by simpa using h1, by simp [tot] at h2 ⊢; omega⟩
         have JN := jac (jed (B + 1) _ ss wr I0.out TL.out.1 TL.out.2)
         clear h0 E1
         go_wp2_with (first | (go_at_call 51; refine NX.out.mono ?_; rintro e w' ⟨rfl, rfl⟩) | (go_at_call 53; refine (jaJ _ _).mono ?_; rintro e w' ⟨rfl, rfl⟩) | (go_at_call 55; refine JN.out.mono ?_; rintro e w3 ⟨rfl, hg3⟩) | fail)
         have SB := jac (jgH (jca ss) w3 (by rw [jcY]; have := TL.out.2; omega))
         have G3 := jac (jaa HG.out hg3)
         have hlt := HC.out.lt
         have T3 := jac ((hg3.block bT (by have := BT.out; omega) (by simp)).trans HT.out)
         have R3 := jac ((hg3.block bR (by have := BT.out; omega) (by simp)).trans HR.out)
         have S3 : Hid (bT < w3.heap.size ∧ bR < w3.heap.size) := by have := BT.out; have := hg3.size; exact ⟨by omega, by omega⟩
         have Z3 : Hid (w.heap.size ≤ w3.heap.size) := Nat.le_trans HG.out.size hg3.size
         obtain ⟨jx, hjx⟩ : ∃ jx, jx = jca ss := ⟨_, rfl⟩
         rw [← hjx] at SB E2 ⊢
         clear hjx hg3 hlt HT HR HC HG JN
         cases hd : jbd jx with
         | error c =>
          have E3 : Hid (jaL s = .error c) := by show _ = _; rw [E2.out, hd]; rfl
          rw [hd] at SB
          clear hd
          refine SB.out.mono ?_
          rintro e w4 ⟨hg4, rfl⟩
          exact ⟨rfl, jad E3.out (jaa G3.out hg4)⟩
         | ok res =>
          obtain ⟨ty, ds⟩ := res
          have E3 : Hid (jaL s = (jaj (jaQ [nm]) 6).bind fun _ => .ok ⟨nm, ty, ds⟩) := by show _ = _; rw [E2.out, hd]; rfl
          rw [hd] at SB
          clear hd E2
          refine SB.out.mono ?_
          rintro e w4 ⟨hg4, v, rfl, ⟨qa, qn, qc⟩, rfl, hq⟩
          simp only [Sl.v] at hq ⊢
          have HQ := jac hq
          have T4 := jac ((hg4.block bT S3.out.1 (by simp)).trans T3.out)
          have R4 := jac ((hg4.block bR S3.out.2 (by simp)).trans R3.out)
          have G4 := jac (jaa G3.out hg4)
          have S4 : Hid (bT < w4.heap.size ∧ bR < w4.heap.size) := by have := S3.out; have := hg4.size; exact ⟨by omega, by omega⟩
          clear hq hg4 SB T3 R3 G3
          obtain ⟨⟨q0, q1, q2⟩, qf0, qf1, qf2⟩ := ja9 T4.out
          have h6 := (put3 T4.out (.int .i64 ty)).2.1
          have T6 := jac ((put3 h6 (.slice qa qn qc)).2.2)
          have gp := Wr.row_trans (jao w4 bT 1 (.int .i64 ty)) (jao _ bT 2 (.slice qa qn qc))
          have G6 := jac (jaf (row := none) G4.out gp (fun g e => by cases e; exact .inr BL.out.2))
          have R6 := jac ((gp.block bR S4.out.2 (fun e => BN.out (Option.some.inj e))).trans R4.out)
          have O6 := jac (HQ.out.more gp (jeB HQ.out S3.out.1))
          have S6 : Hid (bT < ((w4.setCell ⟨bT, 1, none⟩ (.int .i64 ty)).setCell ⟨bT, 2, none⟩ (.slice qa qn qc)).heap.size ∧ bR < ((w4.setCell ⟨bT, 1, none⟩ (.int .i64 ty)).setCell ⟨bT, 2, none⟩ (.slice qa qn qc)).heap.size) := by have := S4.out; have := gp.size; exact ⟨by omega, by omega⟩
          clear h6 gp T4 R4 G4 HQ
          go_wp2_with fail
          obtain ⟨w6, hw6⟩ : ∃ w6, w6 = (w4.setCell ⟨bT, 1, none⟩ (.int .i64 ty)).setCell ⟨bT, 2, none⟩ (.slice qa qn qc) := ⟨_, rfl⟩
          have e6 : Hid (w6.heap.size = w4.heap.size) := by show w6.heap.size = _; rw [hw6]; simp [World.setCell]
          rw [← hw6] at T6 G6 R6 O6 S6 ⊢
          clear hw6 q0 q1 q2 qf0 qf1 qf2
          have LG := jac (jaK (.slice (some ⟨w4.heap.size, 0, none⟩) 1 1) [nm] (w6.alloc (.cells #[.string nm] 9)) (jb0 (by rw [← e6.out]; exact heap_alloc_new w6 _)))
          have g8 := jab w6 (.cells #[.string nm] 9)
          have G8 := jac (jaa G6.out g8)
          have T8 := jac ((g8.block bT S6.out.1 (by simp)).trans T6.out)
          have R8 := jac ((g8.block bR S6.out.2 (by simp)).trans R6.out)
          have O8 := jac (O6.out.new g8)
          clear g8
          refine LG.out.mono ?_
          obtain ⟨w8, hw8⟩ : ∃ w8, w8 = w6.alloc (.cells #[.string nm] 9) := ⟨_, rfl⟩
          rw [← hw8] at G8 T8 R8 O8 ⊢
          clear hw8 LG
          rintro e w9 ⟨rfl, rfl⟩
          cases hlg : jaQ [nm] with
          | true =>
           have E4 : Hid (jaL s = .error 6) := by show _ = _; rw [E3.out, hlg]; rfl
           clear hlg
           go_wp2_with (go_at_call 53; refine (jaz _ _).mono ?_; rintro e w' ⟨rfl, rfl⟩)
           exact ⟨rfl, jad E4.out G8.out⟩
          | false =>
           have E4 : Hid (jaL s = .ok ⟨nm, ty, ds⟩) := by show _ = _; rw [E3.out, hlg]; rfl
           clear hlg
           obtain ⟨⟨q0, q1, q2⟩, -⟩ := ja9 T8.out
           obtain ⟨⟨r0, r1, r2⟩, rf0, rf1, rf2⟩ := ja9 R8.out
           have n3 : bR ≠ bT := BN.out
           have n4 : bT ≠ bR := BN.out.symm
           obtain ⟨hX, gX⟩ := jlt (.string nm) (.int .i64 ty) (.slice qa qn qc) R8.out
           have HX := jac hX
           have GX := jac (jaf (row := none) G8.out gX (fun g e => by cases e; exact .inr (by have := RI.out; omega)))
           have OX := jac (O8.out.more gX (jeB O8.out S3.out.2))
           clear hX gX
           go_wp2_with (go_at_call 53; refine (jaJ _ _).mono ?_; rintro e w' ⟨rfl, rfl⟩)
           refine bodyPost_ret (jkn rfl _ _ bR rfl HX.out) rfl ?_
           exact jaE E4.out GX.out ⟨⟨qa, qn, qc⟩, rfl, OX.out.base_le Z3.out⟩
       | cons y r =>
        have NX := jac (jbG _ B x y r wr HC.out)
        go_wp2_with fail
        refine NX.out.mono ?_
        rintro e w2 ⟨rfl, hc2, hg2⟩
        have hlt := HC.out.lt
        have HC2 := jac hc2
        have HG2 := jac (jak HG.out hg2 (fun g e => by cases e; exact HB.out))
        have OW2 := jac (I0.out.kept (row := some B) hg2 (fun g e => by cases e; omega))
        have T2 := jac ((hg2.block bT (by have := BT.out; omega) (fun e => by have e2 := Option.some.inj e; have := BT.out; omega)).trans HT.out)
        have R2 := jac ((hg2.block bR (by have := BT.out; omega) (fun e => by have e2 := Option.some.inj e; have := BT.out; omega)).trans HR.out)
        obtain ⟨a0, a1, a2, a3⟩ := hc2.cells
        clear hc2 hg2 NX HC HG HT HR hlt
        by_cases h1 : y.num = 1
        ·have b1 : (y.num == 1) = true := by simp [h1]
         have H1 := jac h1
         clear h1
         obtain ⟨⟨q0, q1, q2⟩, qf0, qf1, qf2⟩ := ja9 T2.out
         go_wp2_with fail
         have TX := jac (jax B y w2 a1 a3)
         clear a0 a1 a2 a3
         rcases jaP y with ⟨sx, hx⟩ | hx
         ·rw [hx] at TX
          have ES := jac (HF.out.trans (jau (f := jcd) (b := (sx, ss)) (by unfold jcd; rw [if_pos H1.out]; rw [hx]; rfl)))
          clear hx
          refine TX.out.mono ?_
          rintro e w3 ⟨-, v, rfl, rfl, rfl⟩
          go_wp2_with fail
          have hgp := jao w2 bT 0 (.string sx)
          have T4 := jac ((put3 T2.out (.string sx)).1)
          have R4 := jac ((hgp.block bR (by have := HC2.out.lt; have := BT.out; omega) (fun e => BN.out (Option.some.inj e))).trans R2.out)
          have O4 := jac (OW2.out.kept hgp (fun g e => by cases e; have := BT.out; omega))
          have C4 := jac (HC2.out.kept hgp (fun g e => .inl (by cases e; exact BL.out.1)))
          have G4 := jac (jaf (row := none) HG2.out hgp (fun g e => by cases e; exact .inr BL.out.2))
          clear hgp q0 q1 q2 qf0 qf1 qf2
          go_roundg r.length
          case measure => simp
          case rel => exact ⟨y, r, (sx, ss), rfl, R4.out, T4.out, O4.out, C4.out, G4.out, ES.out, by have := I1.out; simp at this ⊢; omega, by have t1 := I2.out; simp only [List.map_cons, ja8] at t1; show tot ss + _ ≤ _; omega⟩
         ·rw [hx] at TX
          have E : Hid (jaL s = .error 3) := by show _ = _; rw [E0.out, HF.out, jaF (f := jcd) (c := 3) (by unfold jcd; rw [if_pos H1.out]; rw [hx]; rfl)]; rfl
          clear hx
          refine TX.out.mono ?_
          rintro e w3 ⟨hg3, rfl⟩
          exact ⟨rfl, jad E.out (jaa HG2.out hg3)⟩
        ·have b1 : (y.num == 1) = false := by simpa using h1
         have H1 := jac h1
         clear h1
         by_cases h2 : y.num = 2
         ·have b2 : (y.num == 2) = true := by simp [h2]
          have H2 := jac h2
          clear h2
          go_wp2_with fail
          have TX := jac (jax B y w2 a1 a3)
          clear a0 a1 a2 a3
          rcases jaP y with ⟨sx, hx⟩ | hx
          ·rw [hx] at TX
           have TB := jac (jdj hx (Nat.le_refl _))
           have ES := jac (HF.out.trans (jau (f := jcd) (b := (nm, ss ++ [sx])) (by unfold jcd; rw [if_neg H1.out]; rw [if_pos H2.out]; rw [hx]; rfl)))
           clear hx
           refine TX.out.mono ?_
           rintro e w3 ⟨-, v, rfl, rfl, rfl⟩
           have OW : Hid (∀ o, jdL (w2.alloc o) (B + 1) (.slice va ss.length vc) ss) := fun o => OW2.out.more (jab _ _)
           have sz : B + 1 ≤ w2.heap.size := HC2.out.lt
           have hle : ss.length + 1 ≤ 16777216 := by have := I1.out; simp at this; omega
           go_wp2_with (at_builtin; refine Wr.wpList_push rfl (.tmp 22) (.tmp 25) 32 9 1 16 (.string ⟨#[]⟩) is0 ja4 rfl Tryz.underlying32 hs0 hs1 hs2 hs3 rfl (by decide) (B + 1) _ _ rfl (by exact OW.out _) w2.heap.size 1 sx #[.string sx] rfl (by exact heap_alloc_new w2 _) rfl rfl (jbR sx) (by omega) (by simp only [maxLen]; omega) (by simp; omega) ?_; intro v' w8 hown' hgrow)
           have og := World.ownsRow.lt (OW.out (.cells #[.string sx] 9))
           have gn := jab w2 (.cells #[.string sx] 9)
           have ST : Hid (w.grownBy w8 none ∧ jdL w8 (B + 1) v' (ss ++ [sx]) ∧ jcV w8 lo B y r) :=
            ⟨jak (jaa HG2.out gn) hgrow (fun g e => by have := og g e; have := HB.out; omega), hown', (HC2.out.more gn).kept hgrow (fun g e => by have := og g e; omega)⟩
           have T4 := jac ((hgrow.block bT (by have := gn.size; have := BT.out; omega) (fun e => by have := og bT e.symm; have := BT.out; omega)).trans ((gn.block bT (by have := BT.out; omega) (by simp)).trans T2.out))
           have R4 := jac ((hgrow.block bR (by have := gn.size; have := BT.out; omega) (fun e => by have := og bR e.symm; have := BT.out; omega)).trans ((gn.block bR (by have := BT.out; omega) (by simp)).trans R2.out))
           clear hown' hgrow OW og gn
           go_roundg r.length
           case measure => simp
           case rel => exact ⟨y, r, (nm, ss ++ [sx]), rfl, R4.out, T4.out, ST.out.2.1, ST.out.2.2, ST.out.1, ES.out, by have := I1.out; simp at this ⊢; omega, by have t1 := I2.out; have t2 := TB.out; simp only [List.map_cons, ja8] at t1; show tot (ss ++ [sx]) + _ ≤ _; rw [jfd, jfe]; omega⟩
          ·rw [hx] at TX
           have E : Hid (jaL s = .error 3) := by show _ = _; rw [E0.out, HF.out, jaF (f := jcd) (c := 3) (by unfold jcd; rw [if_neg H1.out]; rw [if_pos H2.out]; rw [hx]; rfl)]; rfl
           clear hx
           refine TX.out.mono ?_
           rintro e w3 ⟨hg3, rfl⟩
           exact ⟨rfl, jad E.out (jaa HG2.out hg3)⟩
         ·have b2 : (y.num == 2) = false := by simpa using h2
          have H2 := jac h2
          clear h2
          have ES := jac (HF.out.trans (jau (f := jcd) (b := (nm, ss)) (by unfold jcd; rw [if_neg H1.out]; rw [if_neg H2.out])))
          clear a1 a2 a3
          go_wp2_with fail
          clear a0
          go_roundg r.length
          case measure => simp
          case rel => exact ⟨y, r, (nm, ss), rfl, R2.out, T2.out, OW2.out, HC2.out, HG2.out, ES.out, by have := I1.out; simp at this ⊢; omega, by have t1 := I2.out; simp only [List.map_cons, ja8] at t1; show tot ss + _ ≤ _; omega⟩
     ·rw [hc] at O
      have E : Hid (jaL s = .error c) := by show _ = _; unfold jaL; rw [hc]; rfl
      clear hc
      go_enter Tryz.func83, Tryz.ntmps83
      go_wp2_with fail
      rw [← hw0]
      refine (O.out w0).mono ?_
      rintro e w1 ⟨hg1, rfl⟩
      exact ⟨rfl, jad E.out (jaa g0 hg1)⟩
end Go.Proofs.YtbgbpfbjeleooaaGreat.Pd
namespace Go.Proofs.YtbgbpfbjeleooaaGreat.Pd
open Go.RowKit
open Wr (Fld)
def Ao (v : Value) (b : Nat) : Prop := v.ownBlock = some b
def Pr (v1 : Value) (A1 : Nat → Prop) (v2 : Value) (A2 : Nat → Prop) : Prop := (∀ b, v1.ownBlock = some b → ¬ A2 b) ∧ (∀ b, v2.ownBlock = some b → ¬ A1 b)
theorem Pr.symm {v1 v2 : Value} {A1 A2 : Nat → Prop} (h : Pr v1 A1 v2 A2) : Pr v2 A2 v1 A1 := ⟨h.2, h.1⟩
theorem Pr.step {v1 v2 v1' : Value} {A1 A2 A1' : Nat → Prop} {n : Nat} (h : Pr v1 A1 v2 A2) (hv : jdD n v1 v1') (hA : ∀ b, A1' b → A1 b ∨ n ≤ b) (h2 : ∀ b, A2 b → b < n) (h3 : ∀ b, v2.ownBlock = some b → b < n) : Pr v1' A1' v2 A2 :=
 ⟨fun b e k => by
  rcases hv b e with e2 | e2
  ·exact h.1 b e2 k
  ·have := h2 b k; omega,
 fun b e k => by
  rcases hA b k with e2 | e2
  ·exact h.2 b e e2
  ·have := h3 b e; omega⟩
theorem jf4 {n : Nat} {v v' : Value} (h : jdD n v v') : ∀ b, Ao v' b → Ao v b ∨ n ≤ b := h
theorem jdm {w : World} {base : Nat} {v : Value} {ss : List ByteArray} (h : jdL w base v ss) : ∀ b, v.ownBlock = some b → b < w.heap.size := fun b e => (World.ownsRow.lt h b e).2
theorem jdL.grow {w w' : World} {base : Nat} {v : Value} {ss : List ByteArray} (h : jdL w base v ss) {row : Option Nat} (hg : w.grownBy w' row) (hr : ∀ g, row = some g → ¬ Ao v g) : jdL w' base v ss :=
 jdw h (fun b e => hg.block b (World.ownsRow.lt h b e).2 (fun e2 => hr b e2.symm e))
section
variable {α β : Type} {te : TypeId} {size : Nat} {f : α → List Value} {H : World → α → β → Prop} {foot : α → β → Nat → Prop}
def Al (foot : α → β → Nat → Prop) (v : Value) (ps : List (α × β)) (b : Nat) : Prop := v.ownBlock = some b ∨ ∃ p ∈ ps, foot p.1 p.2 b
abbrev jje (te : TypeId) (size : Nat) (f : α → List Value) (H : World → α → β → Prop) (foot : α → β → Nat → Prop) (w : World) (lo : Nat) (v : Value) (ps : List (α × β)) : Prop := OwnD te size f H foot w lo w.heap.size v ps
theorem jaY {w : World} {lo : Nat} {v : Value} {ps : List (α × β)} (h : jje te size f H foot w lo v ps) {b : Nat} (hb : Al foot v ps b) : lo ≤ b ∧ b < w.heap.size := by
 rcases hb with e | ⟨p, hp, e⟩
 ·exact World.ownsRow.lt h.own b e
 ·have := h.new p hp b e; exact ⟨this.1, this.2.1⟩
theorem jbe {w w' : World} {lo : Nat} {v : Value} {ps : List (α × β)} (HK : jiT H foot) (h : jje te size f H foot w lo v ps) {row : Option Nat} (hg : w.grownBy w' row) (hr : ∀ g, row = some g → ¬ Al foot v ps g) : jje te size f H foot w' lo v ps :=
 ⟨jdw h.own (fun b e => hg.block b (World.ownsRow.lt h.own b e).2 (fun e2 => hr b e2.symm (.inl e))), fun b e => Nat.lt_of_lt_of_le (h.row b e) hg.size, fun p hp => HK _ _ _ _ (h.has p hp) (fun b hb e => hg.block b hb (fun e2 => hr b e2.symm (.inr ⟨p, hp, e⟩))), fun p hp b e => have k := h.new p hp b e; ⟨k.1, Nat.lt_of_lt_of_le k.2.1 hg.size, k.2.2⟩, Nat.le_refl _⟩
theorem jej {w w' : World} {lo : Nat} {v : Value} {ps : List (α × β)} (HK : jiT H foot) (h : jje te size f H foot w lo v ps) (hg : w.grownBy w' none) : jje te size f H foot w' lo v ps := jbe HK h hg (by simp)
theorem jek {w w' : World} {lo B : Nat} {v : Value} {ps : List (α × β)} (HK : jiT H foot) (h : jje te size f H foot w lo v ps) (hg : w.grownBy w' (some B)) (hB : B < lo) : jje te size f H foot w' lo v ps :=
 jbe HK h hg (fun g e k => by cases e; have := (jaY h k).1; omega)
theorem jce {m : Nat} {v v' : Value} {ps : List (α × β)} {y : α} {c : β} (hv : jdD m v v') (fy : ∀ b, foot y c b → m ≤ b) : ∀ b, Al foot v' (ps ++ [(y, c)]) b → Al foot v ps b ∨ m ≤ b := by
 intro b h
 rcases h with e | ⟨p, hp, e⟩
 ·rcases hv b e with h | h
  ·exact .inl (.inl h)
  ·exact .inr h
 ·rcases List.mem_append.1 hp with hp | hp
  ·exact .inl (.inr ⟨p, hp, e⟩)
  ·obtain rfl : p = (y, c) := by simpa using hp
   exact .inr (fy b e)
theorem jfH (v : Value) (A : Nat → Prop) : Pr (.slice none 0 0) (Al foot (.slice none 0 0) ([] : List (α × β))) v A :=
 ⟨fun b e => by simp [Value.ownBlock] at e, fun b _ k => by rcases k with k | ⟨p, hp, -⟩; · simp [Value.ownBlock] at k
                                                            ·cases hp⟩
end
theorem jlu (v : Value) (A : Nat → Prop) : Pr (.slice none 0 0) (Ao (.slice none 0 0)) v A :=
 ⟨fun b e => by simp [Value.ownBlock] at e, fun b _ k => by simp [Ao, Value.ownBlock] at k⟩
theorem jbf {m g n cap : Nat} {v : Value} (h : v.ownBlock = some g ∨ m ≤ g) : jdD m v (.slice (some ⟨g, 0, none⟩) n cap) := fun b e => by
 have e2 : g = b := by simpa [Value.ownBlock] using e
 subst e2
 exact h
theorem jjf {α : Type} {ops : Array Oper} {rest : List Oper} {o : Oper} {a : Act} {w : World} {Q : Exit → Act → World → Prop} (hgd : o.guard = none) (s x : Operand) (t te : TypeId) (size bytes : Nat) (z : Value) (i0 : TypeInfo) (f : α → List Value)
    (ho : o.op = .call { callee := .builtin .append, args := #[s, x], argTypes := #[t, t] }) (ht : Tryz.prog.underlying t = some (.slice te)) (hi : Tryz.prog.info? te = some i0) (hz : i0.zero = some z)
    (hsize : i0.size = size) (hby : i0.bytes = bytes) (hzs : z.cells.size = size) (hsz : 0 < size) (base : Nat) (v : Value) (xs : List α) (hs : a.eval s = v) (hown : OwnsL te size f w base v xs)
    (B c : Nat) (y : α) (cs : Array Value) (hx : a.eval x = .slice (some ⟨B, 0, none⟩) 1 c) (hB : w.heap[B]? = some (.cells cs te (0, 0))) (hcs : cs.toList = f y) (hl : (f y).length = size) (h1 : ∀ u ∈ f y, u.oneCell' = true)
    (hbytes : (xs.length + 1) * bytes ≤ 140737488355328) (h63 : xs.length + 1 ≤ maxLen) (hbase : base ≤ w.heap.size)
    (h : ∀ g cap w', OwnsL te size f w' base (.slice (some ⟨g, 0, none⟩) (xs.length + 1) cap) (xs ++ [y]) → w.grownBy w' v.ownBlock → (v.ownBlock = some g ∨ g = w.heap.size) → wpList Tryz.prog ops Q rest (a.put o.dst (.slice (some ⟨g, 0, none⟩) (xs.length + 1) cap)) w') : wpList Tryz.prog ops Q (o :: rest) a w := by
     refine wpList_append_lies w hgd s x t ho base te i0 z size bytes ht hi hz hsize hby hzs hsz v _ _ hs hown ⟨B, 0, none⟩ 1 c (f y) hx (by rw [hl, Nat.one_mul]) ?_ h1 (by decide) h63 hbytes hbase _ rfl ?_
     ·intro j u hu
      have : cs[j]? = some u := by rw [← Array.getElem?_toList, hcs]; exact hu
      have k := cell_of_row w B j _ _ (0, 0) hB
      by_cases hj : j = 0
      ·subst hj; simpa [Addr.add, this] using k
      ·simpa [Addr.add, this, hj] using k
     ·intro g cap w' ho' hg hat _
      exact h g cap w' (by unfold OwnsL; rw [List.length_append, List.flatMap_append]; simpa using ho') hg hat
def jfI (a : Atr) (_ : Cont) (b : Nat) : Prop := a.dv.v.ownBlock = some b ∨ a.tv.v.ownBlock = some b ∨ a.iv.v.ownBlock = some b
theorem jcN : jiT Has jfI := fun _ _ _ _ h hk => h.kept hk
abbrev jjg (w : World) (lo : Nat) (v : Value) (ps : List (Atr × Cont)) : Prop := jje 78 9 jbJ Has jfI w lo v ps
end Go.Proofs.YtbgbpfbjeleooaaGreat.Pd
