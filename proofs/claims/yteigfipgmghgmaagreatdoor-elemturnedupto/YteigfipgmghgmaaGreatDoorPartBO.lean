/- A part. -/
import Derived.Test.YteigfipgmghgmaaGreatDoorPartBN
import Derived.Test.YteigfipgmghgmaaGreatDoorPartBF
import Derived.Test.YteigfipgmghgmaaGreatDoorPartAR
import Derived.Test.YteigfipgmghgmaaGreatDoorPartAX
import Derived.Test.YteigfipgmghgmaaGreatDoorPartAV
import Derived.Deep.RegionHeld3
set_option maxHeartbeats 16000000
set_option maxRecDepth 100000
namespace Go.Proofs.YteigfipgmghgmaaGreatDoor
open Go.RowKit
def rTy : R (Int × List Int × List Int) → Int
 | .ok (t, _, _) => t
 | .error _ => 0
def rL : R (Int × List Int × List Int) → List Int
 | .ok (_, l, _) => l
 | .error _ => []
def rZ : R (Int × List Int × List Int) → List Int
 | .ok (_, _, z) => z
 | .error _ => []
def rC : R (Int × List Int × List Int) → Int
 | .ok _ => 0
 | .error c => c
def G2 (k : Nat) (t : Int) (xs : List Int) : Int × Int := if (-9223372036854775808 ≤ xs.getD 0 0 ∧ xs.getD 0 0 ≤ 9223372036854775807) ∧ (-9223372036854775808 ≤ xs.getD 1 0 ∧ xs.getD 1 0 ≤ 9223372036854775807) then Nu.bin k t (xs.getD 0 0) (xs.getD 1 0) else (0, 0)
theorem jfg (n : Int) : -9223372036854775808 ≤ wrap64 n ∧ wrap64 n ≤ 9223372036854775807 := by
 unfold wrap64
 omega
theorem jdD (b : Bool) : -9223372036854775808 ≤ Nu.b2i b ∧ Nu.b2i b ≤ 9223372036854775807 := by cases b <;> decide
theorem jcb (r : Nat) (h : r < 4294967296) : -9223372036854775808 ≤ Nu.tob r ∧ Nu.tob r ≤ 9223372036854775807 := by
 unfold Nu.tob
 split
 ·omega
 ·omega
theorem jdX (op : BinOp) (x y : Nat) : -9223372036854775808 ≤ Nu.tobO (floatBits op .f32 x y) ∧ Nu.tobO (floatBits op .f32 x y) ≤ 9223372036854775807 := by
 cases h : floatBits op .f32 x y with
 | none => simp [Nu.tobO]
 | some r =>
  have h1 := floatBits_wf h
  exact jcb r (by simpa [Lit.wf] using h1)
theorem jpr (x : Int) : Nu.fb x < 4294967296 := by
 unfold Nu.fb
 omega
theorem joV (x y : Nat) (hx : x < 4294967296) (hy : y < 4294967296) : -9223372036854775808 ≤ Nu.maxF x y ∧ Nu.maxF x y ≤ 9223372036854775807 := by
 unfold Nu.maxF
 split
 ·decide
 ·exact jcb _ hy
 ·exact jcb _ hx
 ·split
  ·exact jcb _ hy
  ·exact jcb _ hx
theorem joW (x y : Nat) (hx : x < 4294967296) (hy : y < 4294967296) : -9223372036854775808 ≤ Nu.minF x y ∧ Nu.minF x y ≤ 9223372036854775807 := by
 unfold Nu.minF
 split
 ·decide
 ·exact jcb _ hx
 ·exact jcb _ hy
 ·split
  ·exact jcb _ hx
  ·exact jcb _ hy
theorem jcw (t n : Int) (h : -9223372036854775808 ≤ n ∧ n ≤ 9223372036854775807) : -9223372036854775808 ≤ Nu.wrapT t n ∧ Nu.wrapT t n ≤ 9223372036854775807 := by
 unfold Nu.wrapT
 split
 ·exact jfg _
 ·exact h
theorem jnb (k x y : Nat) (hx : x < 4294967296) (hy : y < 4294967296) : -9223372036854775808 ≤ (Nu.binFl k x y).1 ∧ (Nu.binFl k x y).1 ≤ 9223372036854775807 := by
 unfold Nu.binFl
 split
 ·exact jdX _ _ _
 ·exact jdX _ _ _
 ·exact jdX _ _ _
 ·exact jdX _ _ _
 ·exact joV _ _ hx hy
 ·exact joW _ _ hx hy
 ·exact jdD _
 ·exact jdD _
 ·exact jdD _
 ·decide
theorem jnc (k : Nat) (t x y : Int) (hx : -9223372036854775808 ≤ x ∧ x ≤ 9223372036854775807) (hy : -9223372036854775808 ≤ y ∧ y ≤ 9223372036854775807) : -9223372036854775808 ≤ (Nu.binIn k t x y).1 ∧ (Nu.binIn k t x y).1 ≤ 9223372036854775807 := by
 unfold Nu.binIn
 split
 ·exact jcw _ _ (jfg _)
 ·exact jcw _ _ (jfg _)
 ·exact jcw _ _ (jfg _)
 ·split
  ·decide
  ·exact jcw _ _ (jfg _)
 ·refine jcw _ _ ?_
  unfold Nu.maxI
  split
  ·exact hy
  ·exact hx
 ·refine jcw _ _ ?_
  unfold Nu.minI
  split
  ·exact hy
  ·exact hx
 ·exact jdD _
 ·exact jdD _
 ·exact jdD _
 ·decide
theorem jnd (k : Nat) (x y : Int) (hx : x = 0 ∨ x = 1) (hy : y = 0 ∨ y = 1) : -9223372036854775808 ≤ (Nu.binBo k x y).1 ∧ (Nu.binBo k x y).1 ≤ 9223372036854775807 := by
 unfold Nu.binBo
 split
 ·rcases hx with rfl | rfl <;> rcases hy with rfl | rfl <;> decide
 ·rcases hx with rfl | rfl <;> rcases hy with rfl | rfl <;> decide
 ·rcases hx with rfl | rfl <;> rcases hy with rfl | rfl <;> decide
 ·exact jdD _
 ·decide
theorem jrp {x : Int} (h : Nu.chk 9 x = true) : x = 0 ∨ x = 1 := by simpa [Nu.chk] using h
theorem jrq (k : Nat) (t : Int) (xs : List Int) : -9223372036854775808 ≤ (G2 k t xs).1 ∧ (G2 k t xs).1 ≤ 9223372036854775807 := by
 unfold G2
 split
 ·rename_i hr
  unfold Nu.bin
  split
  ·rename_i h
   rw [Bool.and_eq_true] at h
   split
   ·exact jnb _ _ _ (jpr _) (jpr _)
   ·split
    ·rename_i h9
     subst h9
     exact jnd _ _ _ (jrp h.1) (jrp h.2)
    ·exact jnc _ _ _ _ hr.1 hr.2
  ·decide
 ·decide
def kOf (op : ByteArray) : Option Nat := jdt.idxOf? op.toList
def tv (t : Int) (x : List Int) : Val × List Int := (⟨⟨#[]⟩, t, jgA⟩, x)
def elG (n : Nod) (ins : List ByteArray) (A : At) (t0 t1 : Int) (x y xs ys : List Int) : R (Int × List Int × List Int) :=
 doR (jdl [tq t0 x xs, tq t1 y ys] (jkt n ins A [tv t0 x, tv t1 y])) fun l => match kOf n.op with
  | some k => jc6 (G2 k t0) [tq t0 x xs, tq t1 y ys] l (jaV l).toNat
  | none => .error 5
theorem jjk : ∀ {vs us : List (Val × List Int)}, vs.map (·.1.ty) = us.map (·.1.ty) → vs.map (·.2) = us.map (·.2) → jdY vs = jdY us
 | [], [], _, _ => rfl
 | p :: l, q :: m, h1, h2 => by
  simp only [List.map_cons, List.cons.injEq] at h1 h2
  simp only [jdY]
  rw [h1.1, h2.1, jjk h1.2 h2.2]
 | [], q :: m, h1, _ => by simp at h1
 | p :: l, [], h1, _ => by simp at h1
theorem jne {n : Nod} {ins : List ByteArray} {A : At} {vs us : List (Val × List Int)} (h1 : vs.map (·.1.ty) = us.map (·.1.ty)) (h2 : vs.map (·.2) = us.map (·.2)) : jkt n ins A vs = jkt n ins A us := by
 have hl : vs.length = us.length := by simpa using congrArg List.length h1
 have ht : jaB vs = jaB us := h1
 have hd : jdT vs = jdT us := h2
 unfold jkt jbt
 rw [hl, ht, hd, jjk h1 h2]
theorem jnf : ∀ r ∈ jdx, r.2.1 ≤ 2 → 2 ≤ r.2.2.1 → r.1 ∈ jdt ∨ r.1 ∈ ([[77, 97, 116, 77, 117, 108], [71, 101, 109, 109], [67, 111, 110, 118], [71, 97, 116, 104, 101, 114], [67, 111, 110, 99, 97, 116]] : List (List UInt8)) := by decide +kernel
theorem jbd {a : ByteArray} {l : List UInt8} (h : a.toList = l) : a = ⟨l.toArray⟩ := by
 rw [jaj] at h
 subst h
 rfl
theorem jng {op : ByteArray} (h : op.toList ∈ jdt) : op ∈ ([⟨#[65, 100, 100]⟩, ⟨#[83, 117, 98]⟩, ⟨#[77, 117, 108]⟩, ⟨#[68, 105, 118]⟩, ⟨#[77, 97, 120]⟩, ⟨#[77, 105, 110]⟩, ⟨#[65, 110, 100]⟩, ⟨#[79, 114]⟩, ⟨#[88, 111, 114]⟩, ⟨#[69, 113, 117, 97, 108]⟩, ⟨#[76, 101, 115, 115]⟩, ⟨#[71, 114, 101, 97, 116, 101, 114]⟩] : List ByteArray) := by
 simp only [jdt, List.mem_cons, List.not_mem_nil, or_false] at h ⊢
 rcases h with h | h | h | h | h | h | h | h | h | h | h | h
 ·exact .inl (jbd h)
 ·exact .inr (.inl (jbd h))
 ·exact .inr (.inr (.inl (jbd h)))
 ·exact .inr (.inr (.inr (.inl (jbd h))))
 ·exact .inr (.inr (.inr (.inr (.inl (jbd h)))))
 ·exact .inr (.inr (.inr (.inr (.inr (.inl (jbd h))))))
 ·exact .inr (.inr (.inr (.inr (.inr (.inr (.inl (jbd h)))))))
 ·exact .inr (.inr (.inr (.inr (.inr (.inr (.inr (.inl (jbd h))))))))
 ·exact .inr (.inr (.inr (.inr (.inr (.inr (.inr (.inr (.inl (jbd h)))))))))
 ·exact .inr (.inr (.inr (.inr (.inr (.inr (.inr (.inr (.inr (.inl (jbd h))))))))))
 ·exact .inr (.inr (.inr (.inr (.inr (.inr (.inr (.inr (.inr (.inr (.inl (jbd h)))))))))))
 ·exact .inr (.inr (.inr (.inr (.inr (.inr (.inr (.inr (.inr (.inr (.inr (jbd h)))))))))))
theorem jnh {α : Type} [BEq α] [LawfulBEq α] {l : List α} {a : α} {k : Nat} (h : l.idxOf? a = some k) : a ∈ l := by
 rw [List.idxOf?_eq_some_iff] at h
 obtain ⟨h1, h2, -⟩ := h
 exact h2 ▸ List.getElem_mem h1
theorem jni {op : ByteArray} {k : Nat} (h : kOf op = some k) : op ∈ ([⟨#[65, 100, 100]⟩, ⟨#[83, 117, 98]⟩, ⟨#[77, 117, 108]⟩, ⟨#[68, 105, 118]⟩, ⟨#[77, 97, 120]⟩, ⟨#[77, 105, 110]⟩, ⟨#[65, 110, 100]⟩, ⟨#[79, 114]⟩, ⟨#[88, 111, 114]⟩, ⟨#[69, 113, 117, 97, 108]⟩, ⟨#[76, 101, 115, 115]⟩, ⟨#[71, 114, 101, 97, 116, 101, 114]⟩] : List ByteArray) := jng (jnh h)
theorem jqE {op : ByteArray} {k : Nat} (h : kOf op = some k) : jkB op k := by
 have h12 := jni h
 simp only [List.mem_cons, List.not_mem_nil, or_false] at h12
 rcases h12 with rfl | rfl | rfl | rfl | rfl | rfl | rfl | rfl | rfl | rfl | rfl | rfl
 ·obtain rfl : k = 0 := Option.some.inj (h.symm.trans (show kOf ⟨#[65, 100, 100]⟩ = some 0 by kernel_rfl))
  exact fun n hop p1 p2 B ub uo un uc ty x y w hn hi hun ht hx hy => jhF n hop p1 p2 B ub uo un uc ty x y w hn hi hun ht hx hy
 ·obtain rfl : k = 1 := Option.some.inj (h.symm.trans (show kOf ⟨#[83, 117, 98]⟩ = some 1 by kernel_rfl))
  exact fun n hop p1 p2 B ub uo un uc ty x y w hn hi hun ht hx hy => jmX n hop p1 p2 B ub uo un uc ty x y w hn hi hun ht hx hy
 ·obtain rfl : k = 2 := Option.some.inj (h.symm.trans (show kOf ⟨#[77, 117, 108]⟩ = some 2 by kernel_rfl))
  exact fun n hop p1 p2 B ub uo un uc ty x y w hn hi hun ht hx hy => jmY n hop p1 p2 B ub uo un uc ty x y w hn hi hun ht hx hy
 ·obtain rfl : k = 3 := Option.some.inj (h.symm.trans (show kOf ⟨#[68, 105, 118]⟩ = some 3 by kernel_rfl))
  exact fun n hop p1 p2 B ub uo un uc ty x y w hn hi hun ht hx hy => jhG n hop p1 p2 B ub uo un uc ty x y w hn hi hun ht hx hy
 ·obtain rfl : k = 4 := Option.some.inj (h.symm.trans (show kOf ⟨#[77, 97, 120]⟩ = some 4 by kernel_rfl))
  exact fun n hop p1 p2 B ub uo un uc ty x y w hn hi hun ht hx hy => jmZ n hop p1 p2 B ub uo un uc ty x y w hn hi hun ht hx hy
 ·obtain rfl : k = 5 := Option.some.inj (h.symm.trans (show kOf ⟨#[77, 105, 110]⟩ = some 5 by kernel_rfl))
  exact fun n hop p1 p2 B ub uo un uc ty x y w hn hi hun ht hx hy => jm0 n hop p1 p2 B ub uo un uc ty x y w hn hi hun ht hx hy
 ·obtain rfl : k = 6 := Option.some.inj (h.symm.trans (show kOf ⟨#[65, 110, 100]⟩ = some 6 by kernel_rfl))
  exact fun n hop p1 p2 B ub uo un uc ty x y w hn hi hun ht hx hy => jhH n hop p1 p2 B ub uo un uc ty x y w hn hi hun ht hx hy
 ·obtain rfl : k = 7 := Option.some.inj (h.symm.trans (show kOf ⟨#[79, 114]⟩ = some 7 by kernel_rfl))
  exact fun n hop p1 p2 B ub uo un uc ty x y w hn hi hun ht hx hy => jji n hop p1 p2 B ub uo un uc ty x y w hn hi hun ht hx hy
 ·obtain rfl : k = 8 := Option.some.inj (h.symm.trans (show kOf ⟨#[88, 111, 114]⟩ = some 8 by kernel_rfl))
  exact fun n hop p1 p2 B ub uo un uc ty x y w hn hi hun ht hx hy => jm1 n hop p1 p2 B ub uo un uc ty x y w hn hi hun ht hx hy
 ·obtain rfl : k = 9 := Option.some.inj (h.symm.trans (show kOf ⟨#[69, 113, 117, 97, 108]⟩ = some 9 by kernel_rfl))
  exact fun n hop p1 p2 B ub uo un uc ty x y w hn hi hun ht hx hy => jiM n hop p1 p2 B ub uo un uc ty x y w hn hi hun ht hx hy
 ·obtain rfl : k = 10 := Option.some.inj (h.symm.trans (show kOf ⟨#[76, 101, 115, 115]⟩ = some 10 by kernel_rfl))
  exact fun n hop p1 p2 B ub uo un uc ty x y w hn hi hun ht hx hy => jkz n hop p1 p2 B ub uo un uc ty x y w hn hi hun ht hx hy
 ·obtain rfl : k = 11 := Option.some.inj (h.symm.trans (show kOf ⟨#[71, 114, 101, 97, 116, 101, 114]⟩ = some 11 by kernel_rfl))
  exact fun n hop p1 p2 B ub uo un uc ty x y w hn hi hun ht hx hy => jgK n hop p1 p2 B ub uo un uc ty x y w hn hi hun ht hx hy
theorem joX (n : Nod) (hop : n.op ∈ ([⟨#[77, 97, 116, 77, 117, 108]⟩, ⟨#[71, 101, 109, 109]⟩, ⟨#[67, 111, 110, 118]⟩, ⟨#[71, 97, 116, 104, 101, 114]⟩, ⟨#[67, 111, 110, 99, 97, 116]⟩] : List ByteArray)) (u : Sl) (nam0 : ByteArray) (vty : Int) (dv : Sl) (w : World) :
    Calls Tryz.prog 14 #[jaz n, .slice u.a u.n u.c, .agg #[.string nam0, .int .i64 vty, .slice dv.a dv.n dv.c]] w (EvQ w (.error 5)) := by
     have WN := jac (fun (wx : World) => jiO n hop u (.string nam0) (.int .i64 vty) (.slice dv.a dv.n dv.c) wx)
     clear hop
     obtain ⟨op, nam, ⟨ia, il, ic⟩, out, ⟨ao, al, cap⟩⟩ := n
     obtain ⟨ua, un, uc⟩ := u
     obtain ⟨da, dn, dc⟩ := dv
     unfold jaz at WN ⊢
     simp only at WN ⊢
     obtain ⟨w0, hw0⟩ : ∃ w0, w0 = (w.alloc (.cells #[.string op, .string nam, .slice ia il ic, .string out, .slice ao al cap] 25)).alloc (.cells #[.string nam0, .int .i64 vty, .slice da dn dc] 53) := ⟨_, rfl⟩
     have g0 : Hid (w.grownBy w0 none) := by show w.grownBy w0 none; rw [hw0]; exact jaa (jab _ _) (jab _ _)
     go_enter Tryz.func14, Tryz.ntmps14
     go_wp2_with fail
     rw [← hw0]
     clear hw0
     refine (WN.out w0).mono ?_
     rintro e w1 ⟨rfl, hg1⟩
     have hbo : ∀ wx, (binOp .eql 58 .nilFunc .nilFunc).run Tryz.prog wx = .ok (.bool true) wx := fun wx => by rfl
     go_wp2
     go_ret2
     exact ⟨jaa g0.out hg1, rfl⟩
theorem jps (n : Nod) (ins : List ByteArray) (A : At) (u : Sl) (T0 T1 : Ten) (x y xs ys : List Int) (w : World) (hl : Laid w) (hn : NodeAll w n ins A) (hv : TensIn w u.v [(T0, (x, xs)), (T1, (y, ys))]) :
    Calls Tryz.prog 8 #[jaz n, .slice u.a u.n u.c] w (DoQ w (elG n ins A T0.ty T1.ty x y xs ys)) := by
     refine jm6 _ u _ w fun wx hx => jm5 _ u (jdl [tq T0.ty x xs, tq T1.ty y ys] (jkt n ins A [tv T0.ty x, tv T1.ty y])) _ wx (jiR fun c h => jjh h) (fun l => ?_) (fun wy hy => ?_) (fun wy ty dv l hy hr hd => ?_)
     ·cases hk : kOf n.op with
      | none => intro c hc; cases hc; omega
      | some k => exact jiS _ _ _ _
     ·refine jhj n u [(T0, (x, xs)), (T1, (y, ys))] _ wy (hv.more (jaa hx hy)) (by simp) fun wz s vs hz hvs h1 h2 => ?_
      have key := jre n ins A s vs wz (hl.more (jaa (jaa hx hy) hz)) (hn.more (jaa (jaa hx hy) hz)) hvs
      rw [jne (us := [tv T0.ty x, tv T1.ty y]) h1 h2] at key
      exact key
     ·have hvy := hv.more (jaa hx hy)
      have ok := jmL (jgM hr).2
      cases hk : kOf n.op with
      | none =>
       refine joX n ?_ u _ ty dv wy
       obtain ⟨R0, hR, h1, h2, h3⟩ := jcM ok.chk
       have h4 : ins.length = 2 := ok.len.symm
       rw [h4] at h2 h3
       rcases jnf R0 hR (by simpa using h2) (by simpa using h3) with h | h
       ·rw [h1] at h
        exfalso
        have := List.idxOf?_eq_none_iff.1 hk
        exact this h
       ·rw [h1] at h
        simp only [List.mem_cons, List.not_mem_nil, or_false] at h ⊢
        rcases h with h | h | h | h | h
        ·exact .inl (jbd h)
        ·exact .inr (.inl (jbd h))
        ·exact .inr (.inr (.inl (jbd h)))
        ·exact .inr (.inr (.inr (.inl (jbd h))))
        ·exact .inr (.inr (.inr (.inr (jbd h))))
      | some k =>
       refine jjj n (jni hk) u [(T0, (x, xs)), (T1, (y, ys))] _ ty dv l (G2 k T0.ty) (jaV l).toNat wy hvy (by simp) (by simp) hd ?_ (fun p hp ha => (jm8 (by simpa [jf1] using ha)).1) (fun zs => jrq _ _ _) fun wz p1 p2 B zs hz hb1 hb2 hzl hzi => ?_
       ·have : jaV l ≤ 65536 := (jcy ok.cnt).le
        omega
       ·obtain ⟨ua, un, uc⟩ := u
        obtain ⟨ub, uo, rfl⟩ := hvy.vals.addr (k := 0) (by simp)
        obtain ⟨xa, xc, e1, -⟩ := hvy.vals.form
        simp only [Sl.v, List.map_cons, List.map_nil, List.length_cons, List.length_nil, Value.slice.injEq] at e1
        obtain ⟨-, rfl, -⟩ := e1
        obtain ⟨c0, -, -⟩ := (hvy.more hz).at 0 (by simp)
        obtain ⟨zb, zo, ez, hc⟩ := hzi.get (k := 0) (by simp at hzl; omega)
        cases ez
        have d0 := hc 0 (by simp at hzl; omega)
        have d1 := hc 1 (by simp at hzl; omega)
        have w0 := hzi.wf (zs.getD 0 0) (by rw [List.getD, List.getElem?_eq_getElem (by simp at hzl; omega)]; exact List.getElem_mem _)
        have w1 := hzi.wf (zs.getD 1 0) (by rw [List.getD, List.getElem?_eq_getElem (by simp at hzl; omega)]; exact List.getElem_mem _)
        have e2 : G2 k T0.ty zs = Nu.bin k T0.ty (zs.getD 0 0) (zs.getD 1 0) := by unfold G2; rw [if_pos ⟨w0, w1⟩]
        rw [e2]
        exact jqE hk n rfl p1 p2 B ub uo _ uc T0.ty (zs.getD 0 0) (zs.getD 1 0) wz hb1 hb2 (by omega) (by simpa using c0) (by simpa using d0) (by simpa using d1)
theorem jjl {F G : List Int → Int × Int} {cs ds : List (List Int)} : ∀ (m k : Nat), (∀ j, F (cs.map (·.getD j 0)) = G (ds.map (·.getD j 0))) → evL F cs k m = evL G ds k m
 | 0, _, _ => rfl
 | m + 1, k, h => by
  simp only [evL]
  rw [h k, jjl m (k + 1) h]
theorem jqF {k : Nat} {t : Int} (hk : k = 0 ∨ k = 2 ∨ k = 4 ∨ k = 5 ∨ k = 6 ∨ k = 7 ∨ k = 8 ∨ k = 9) (a b : Int) : G2 k t [a, b] = G2 k t [b, a] := by
 unfold G2
 simp only [List.getD_cons_zero, List.getD_cons_succ]
 rw [Nu.turns_all k t b a hk]
 by_cases h : (-9223372036854775808 ≤ a ∧ a ≤ 9223372036854775807) ∧ (-9223372036854775808 ≤ b ∧ b ≤ 9223372036854775807)
 ·rw [if_pos h, if_pos h.symm]
 ·rw [if_neg h, if_neg (fun e => h e.symm)]
theorem jqG {F : List Int → Int × Int} {ps : List (Ten × Tq)} {l zs : List Int} {N : Nat} (h : jc6 F ps l N = .ok zs) : ps.all (jf1 l) = true ∧ evL F (ps.map (jpo l)) 0 N = .ok zs := by
 unfold jc6 at h
 split at h
 ·rename_i h1; exact ⟨h1, h⟩
 ·cases h
theorem jf2 {n : Nod} {ins : List ByteArray} {A : At} {t0 t1 : Int} {x y xs ys : List Int} {r : Int × List Int × List Int} (m1 : n.op.toList ≠ [83, 117, 98]) (m2 : n.op.toList ≠ [68, 105, 118]) (m3 : n.op.toList ≠ [76, 101, 115, 115]) (m4 : n.op.toList ≠ [71, 114, 101, 97, 116, 101, 114]) (h : elG n ins A t0 t1 x y xs ys = .ok r) : elG n ins A t1 t0 y x ys xs = .ok r := by
 unfold elG doR at h
 split at h
 case h_2 => cases h
 rename_i ty l hr
 obtain ⟨hok, hr⟩ := jgM hr
 have ok := jmL hr
 cases hk : kOf n.op with
 | none => rw [hk] at h; cases h
 | some k =>
  rw [hk] at h
  have hks : k = 0 ∨ k = 2 ∨ k = 4 ∨ k = 5 ∨ k = 6 ∨ k = 7 ∨ k = 8 ∨ k = 9 := by
   have h12 := jni hk
   simp only [List.mem_cons, List.not_mem_nil, or_false] at h12
   rcases h12 with e | e | e | e | e | e | e | e | e | e | e | e <;> rw [e] at hk m1 m2 m3 m4
   ·have := Option.some.inj (hk.symm.trans (show kOf ⟨#[65, 100, 100]⟩ = some 0 by kernel_rfl)); omega
   ·have := Option.some.inj (hk.symm.trans (show kOf ⟨#[83, 117, 98]⟩ = some 1 by kernel_rfl)); exact absurd (jaj _) m1
   ·have := Option.some.inj (hk.symm.trans (show kOf ⟨#[77, 117, 108]⟩ = some 2 by kernel_rfl)); omega
   ·have := Option.some.inj (hk.symm.trans (show kOf ⟨#[68, 105, 118]⟩ = some 3 by kernel_rfl)); exact absurd (jaj _) m2
   ·have := Option.some.inj (hk.symm.trans (show kOf ⟨#[77, 97, 120]⟩ = some 4 by kernel_rfl)); omega
   ·have := Option.some.inj (hk.symm.trans (show kOf ⟨#[77, 105, 110]⟩ = some 5 by kernel_rfl)); omega
   ·have := Option.some.inj (hk.symm.trans (show kOf ⟨#[65, 110, 100]⟩ = some 6 by kernel_rfl)); omega
   ·have := Option.some.inj (hk.symm.trans (show kOf ⟨#[79, 114]⟩ = some 7 by kernel_rfl)); omega
   ·have := Option.some.inj (hk.symm.trans (show kOf ⟨#[88, 111, 114]⟩ = some 8 by kernel_rfl)); omega
   ·have := Option.some.inj (hk.symm.trans (show kOf ⟨#[69, 113, 117, 97, 108]⟩ = some 9 by kernel_rfl)); omega
   ·have := Option.some.inj (hk.symm.trans (show kOf ⟨#[76, 101, 115, 115]⟩ = some 10 by kernel_rfl)); exact absurd (jaj _) m3
   ·have := Option.some.inj (hk.symm.trans (show kOf ⟨#[71, 114, 101, 97, 116, 101, 114]⟩ = some 11 by kernel_rfl)); exact absurd (jaj _) m4
  have hnm : n.op.toList ∈ jdt := jnh hk
  have ne : ∀ z, z ∉ jdt → n.op.toList ≠ z := fun z hz e => hz (e ▸ hnm)
  have ok2 := ok.turned (ne _ (by decide)) (ne _ (by decide)) (ne _ (by decide)) (ne _ (by decide)) (ne _ (by decide))
  have et : t1 = t0 := by
   have ht := ok.typ
   obtain ⟨R0, hR, h1, h2, h3⟩ := jcM ok.chk
   have h4 : ins.length = 2 := ok.len.symm
   rw [h4] at h2 h3
   obtain ⟨g1, -⟩ := jmM R0 hR (by simpa using h2) (by simpa using h3) (by rw [h1]; exact ne _ (by decide)) (by rw [h1]; exact ne _ (by decide)) (by rw [h1]; exact ne _ (by decide)) (by rw [h1]; exact ne _ (by decide)) (by rw [h1]; exact ne _ (by decide))
   rw [h1] at g1
   have eg : grp n.op = jrf n.op.toList := rfl
   rw [← eg] at g1
   cases hs : jaI (jaB [tv t0 x, tv t1 y]) with
   | error c => rcases g1 with g | g <;> rw [g] at ht <;> simp only [jcK] at ht <;> rw [hs] at ht <;> cases ht
   | ok a => exact (jhC (s := t0) (t := t1) hs).1.symm
  subst et
  obtain ⟨zs, hz, e⟩ : ∃ zs, jc6 (G2 k t1) [tq t1 x xs, tq t1 y ys] l (jaV l).toNat = .ok zs ∧ (ty, l, zs) = r := by
   cases hm : jc6 (G2 k t1) [tq t1 x xs, tq t1 y ys] l (jaV l).toNat with
   | error c => simp only [hm] at h; cases h
   | ok zs => simp only [hm] at h; exact ⟨zs, rfl, by cases h; rfl⟩
  obtain ⟨ha, hv⟩ := jqG hz
  have hp : jdl [tq t1 y ys, tq t1 x xs] (jkt n ins A [tv t1 y, tv t1 x]) = .ok (ty, l) := by
   unfold jdl
   rw [if_pos (by simpa [and_comm] using hok)]
   exact ok2.eq
  unfold elG doR
  rw [hp, hk]
  simp only
  have hm : jc6 (G2 k t1) [tq t1 y ys, tq t1 x xs] l (jaV l).toNat = .ok zs := by
   unfold jc6
   rw [if_pos (by simpa [and_comm] using ha), ← hv]
   exact jjl _ _ fun j => jqF hks _ _
  rw [hm, ← e]
  rfl
theorem jpt (n : Nod) (ins : List ByteArray) (A : At) (t0 t1 : Int) (x y xs ys : List Int) : ∀ c, elG n ins A t0 t1 x y xs ys = .error c → c ≠ 0 := by
 intro c h
 unfold elG doR at h
 split at h
 ·rename_i ty l hr
  cases hk : kOf n.op with
  | none => rw [hk] at h; cases h; omega
  | some k =>
   rw [hk] at h
   cases hm : jc6 (G2 k t0) [tq t0 x xs, tq t1 y ys] l (jaV l).toNat with
   | error d => simp only [hm] at h; cases h; exact jiS _ _ _ _ _ hm
   | ok zs => simp only [hm] at h; cases h
 ·rename_i c' hr
  cases h
  exact jiR (fun c h => jjh h) _ hr
theorem jnj {X Y : R (Int × List Int × List Int)} (h1 : ∀ r, X = .ok r → Y = .ok r) (h2 : ∀ r, Y = .ok r → X = .ok r) (n1 : ∀ c, X = .error c → c ≠ 0) (n2 : ∀ c, Y = .error c → c ≠ 0) : rTy X = rTy Y ∧ rL X = rL Y ∧ rZ X = rZ Y ∧ ((rC X == 0) == (rC Y == 0)) = true := by
 cases X with
 | ok r => rw [h1 r rfl]; exact ⟨rfl, rfl, rfl, by simp⟩
 | error c =>
  cases Y with
  | ok r => have := h2 r rfl; cases this
  | error d =>
   have a := n1 c rfl
   have b := n2 d rfl
   refine ⟨rfl, rfl, rfl, ?_⟩
   show ((c == 0) == (d == 0)) = true
   rw [beq_eq_false_iff_ne.2 a, beq_eq_false_iff_ne.2 b]
   rfl
end Go.Proofs.YteigfipgmghgmaaGreatDoor
namespace Go.Proofs.YteigfipgmghgmaaGreatDoor
open Go.RowKit
theorem jnk {w w' : World} {r : R (Int × List Int × List Int)} {e : Ending} (h : DoQ w r e w') : w.grownBy w' none ∧ ∃ d t : Sl, e = .returned (.tuple #[.agg #[.int .i64 (rTy r), .slice d.a d.n d.c, .slice t.a t.n t.c], .int .i64 (rC r)]) ∧ IsInts w' d.v (rL r) ∧ IsInts w' t.v (rZ r) ∧ ∀ B, B < w.heap.size → d.v.ownBlock ≠ some B ∧ t.v.ownBlock ≠ some B := by
 obtain ⟨hg, h⟩ := h
 refine ⟨hg, ?_⟩
 cases r with
 | error c => exact ⟨⟨none, 0, 0⟩, ⟨none, 0, 0⟩, h, (jbm w' 0).ints, (jbm w' 0).ints, fun B _ => ⟨(fun e => by simp [Value.ownBlock] at e), fun e => by simp [Value.ownBlock] at e⟩⟩
 | ok rr =>
  obtain ⟨ty, l, zs⟩ := rr
  obtain ⟨⟨ty', d, t⟩, e1, e2, od, ot⟩ := h
  simp only at e1
  subst e1
  refine ⟨d, t, e2, od.ints, ot.ints, fun B hB => ⟨fun e => ?_, fun e => ?_⟩⟩
  ·rcases jej od.1 hB with h | h
   ·rw [h] at e; cases e
   ·exact h e
  ·rcases jej ot.1 hB with h | h
   ·rw [h] at e; cases e
   ·exact h e
theorem joY {w : World} {P Q : Ten} {x y xs ys : List Int} (hx : IsInts w P.dv.v x) (hxs : IsInts w P.tv.v xs) (hy : IsInts w Q.dv.v y) (hys : IsInts w Q.tv.v ys) : TensIn (w.alloc (.cells #[.int .i64 Q.ty, .slice Q.dv.a Q.dv.n Q.dv.c, .slice Q.tv.a Q.tv.n Q.tv.c, .int .i64 P.ty, .slice P.dv.a P.dv.n P.dv.c, .slice P.tv.a P.tv.n P.tv.c] 32)) (.slice (some ⟨w.heap.size, 0, none⟩) 2 2) [(Q, (y, ys)), (P, (x, xs))] := by
 refine ⟨jeu (te := 32) (bytes := 56) (xs := [Q, P]) jec (heap_alloc_new w _) rfl rfl (Nat.le_of_ble_eq_true rfl) (Nat.le_of_ble_eq_true rfl), fun q hq => ?_⟩
 simp only [List.mem_cons, List.not_mem_nil, or_false] at hq
 rcases hq with rfl | rfl
 ·exact ⟨hy.more (jab _ _), hys.more (jab _ _)⟩
 ·exact ⟨hx.more (jab _ _), hxs.more (jab _ _)⟩
theorem jqH (n : Nod) (ins : List ByteArray) (A : At) (u : Sl) (P Q : Ten) (x y xs ys : List Int) (w : World) (hl : Laid w) (hn : NodeAll w n ins A) (hv : TensIn w u.v [(P, (x, xs)), (Q, (y, ys))]) :
    Calls Tryz.prog 5 #[jaz n, .slice u.a u.n u.c] w fun e w' => e = .returned (.bool true) ∧ Below w.heap.size w w' := by
     have LV := jac (fun (wx : World) (hx : w.grownBy wx none) => jhM wx (hl.more hx))
     have OO := jac (fun (wx : World) (hx : w.grownBy wx none) => jps n ins A u P Q x y xs ys wx (hl.more hx) (hn.more hx) (hv.more hx))
     have SM := jac (fun (wx : World) (hx : w.grownBy wx none) => jfW u _ wx (hv.more hx))
     have O2 := jac (fun (wx : World) (hx : w.grownBy wx none) (s : Sl) (hs : TensIn wx s.v [(Q, (y, ys)), (P, (x, xs))]) => jps n ins A s Q P y x ys xs wx (hl.more hx) (hn.more hx) hs)
     have HX := jac (hv.has (P, (x, xs)) (by simp)).1
     have HXS := jac (hv.has (P, (x, xs)) (by simp)).2
     have HY := jac (hv.has (Q, (y, ys)) (by simp)).1
     have HYS := jac (hv.has (Q, (y, ys)) (by simp)).2
     have SW : Hid (n.op.toList ≠ [83, 117, 98] → n.op.toList ≠ [68, 105, 118] → n.op.toList ≠ [76, 101, 115, 115] → n.op.toList ≠ [71, 114, 101, 97, 116, 101, 114] → ∀ r, elG n ins A P.ty Q.ty x y xs ys = .ok r → elG n ins A Q.ty P.ty y x ys xs = .ok r) := fun m1 m2 m3 m4 r hr => jf2 m1 m2 m3 m4 hr
     have WS : Hid (n.op.toList ≠ [83, 117, 98] → n.op.toList ≠ [68, 105, 118] → n.op.toList ≠ [76, 101, 115, 115] → n.op.toList ≠ [71, 114, 101, 97, 116, 101, 114] → ∀ r, elG n ins A Q.ty P.ty y x ys xs = .ok r → elG n ins A P.ty Q.ty x y xs ys = .ok r) := fun m1 m2 m3 m4 r hr => jf2 m1 m2 m3 m4 hr
     have NE := jac (jpt n ins A P.ty Q.ty x y xs ys)
     have NE2 := jac (jpt n ins A Q.ty P.ty y x ys xs)
     obtain ⟨R1, hR1⟩ : ∃ R1, R1 = elG n ins A P.ty Q.ty x y xs ys := ⟨_, rfl⟩
     obtain ⟨R2, hR2⟩ : ∃ R2, R2 = elG n ins A Q.ty P.ty y x ys xs := ⟨_, rfl⟩
     rw [← hR1] at SW WS NE OO
     rw [← hR2] at SW WS NE2 O2
     clear hR1 hR2
     obtain ⟨w0, hw0⟩ : ∃ w0, w0 = w.alloc (.cells #[.string n.op, .string n.name, .slice n.iv.a n.iv.n n.iv.c, .string n.out, .slice n.av.a n.av.n n.av.c] 25) := ⟨_, rfl⟩
     have g0 : Hid (w.grownBy w0 none) := by show w.grownBy w0 none; rw [hw0]; exact jab _ _
     have hb0 := heap_alloc_new w (.cells #[.string n.op, .string n.name, .slice n.iv.a n.iv.n n.iv.c, .string n.out, .slice n.av.a n.av.n n.av.c] 25)
     obtain ⟨k0, k1, k2, k3, k4⟩ := jai (n := n) hb0
     rw [← hw0] at hb0
     have BX : Hid (∀ wx, w0.grownBy wx none → wx.heap[w.heap.size]? = some (.cells #[.string n.op, .string n.name, .slice n.iv.a n.iv.n n.iv.c, .string n.out, .slice n.av.a n.av.n n.av.c] 25 (0, 0))) := fun wx hg => jag hb0 hg
     clear hb0
     obtain ⟨xa, xc, e1, q1, q2, q3⟩ := hv.vals.form
     simp only [List.map_cons, List.map_nil, List.length_cons, List.length_nil, Nat.zero_add, Nat.reduceAdd] at e1 q1 q3
     obtain ⟨ua, un, uc⟩ := u
     simp only [Sl.v, Value.slice.injEq] at e1
     obtain ⟨rfl, rfl, rfl⟩ := e1
     obtain ⟨b, off, rfl⟩ := hv.vals.addr (k := 0) (by simp)
     have HC := jac (fun (wx : World) (hx : w.grownBy wx none) => (hv.more hx).at 0 (by simp))
     have HD := jac (fun (wx : World) (hx : w.grownBy wx none) => (hv.more hx).at 1 (by simp))
     simp only [List.getElem_cons_zero, List.getElem_cons_succ, Nat.zero_mul, Nat.one_mul, Nat.add_zero] at HC HD
     obtain ⟨op, nam, ⟨ia, il, ic⟩, out, ⟨ao, al, cap⟩⟩ := n
     obtain ⟨pt, ⟨pa, pl, pc⟩, ⟨ra, rn, rc⟩⟩ := P
     obtain ⟨qt, ⟨qa, ql, qc⟩, ⟨sa, sn, sc⟩⟩ := Q
     unfold jaz at OO O2 ⊢
     simp only at OO O2 SM BX HX HXS HY HYS HC HD SW WS k0 k1 k2 k3 k4 hw0 ⊢
     clear hl hn hv
     have S1 := jac (SM.out w0 g0.out)
     clear SM
     go_enter Tryz.func5, Tryz.ntmps5
     go_wp2_with fail
     rw [← hw0]
     clear hw0 k0 k1 k2 k3 k4
     refine S1.out.mono ?_
     rintro e w1 ⟨bs, rfl, hgs⟩
     have G1 := jac (jaa g0.out hgs)
     have L1 := jac (LV.out w1 G1.out)
     obtain ⟨n0, n1, n2, n3, n4⟩ := jai (n := ⟨op, nam, ⟨ia, il, ic⟩, out, ⟨ao, al, cap⟩⟩) (BX.out w1 hgs)
     simp only at n0 n1 n2 n3 n4
     cases bs with
     | false =>
      clear hgs S1
      go_wp2_with fail
      refine L1.out.mono ?_
      rintro e w2 ⟨rfl, hg2⟩
      go_wp2
      go_ret
      exact ⟨rfl, jbe (jaa G1.out hg2)⟩
     | true =>
      by_cases m0 : op.toList = [83, 117, 98]
      ·have d0 : (op.toList == [83, 117, 98]) = true := by simp [m0]
       clear m0 hgs S1
       go_wp2_with fail
       refine L1.out.mono ?_
       rintro e w2 ⟨rfl, hg2⟩
       go_wp2
       go_ret
       exact ⟨rfl, jbe (jaa G1.out hg2)⟩
      ·have d0 : (op.toList == [83, 117, 98]) = false := by simpa using m0
       by_cases m1 : op.toList = [68, 105, 118]
       ·have d1 : (op.toList == [68, 105, 118]) = true := by simp [m1]
        clear m1 hgs S1
        go_wp2_with fail
        refine L1.out.mono ?_
        rintro e w2 ⟨rfl, hg2⟩
        go_wp2
        go_ret
        exact ⟨rfl, jbe (jaa G1.out hg2)⟩
       ·have d1 : (op.toList == [68, 105, 118]) = false := by simpa using m1
        by_cases m2 : op.toList = [76, 101, 115, 115]
        ·have d2 : (op.toList == [76, 101, 115, 115]) = true := by simp [m2]
         clear m2 hgs S1
         go_wp2_with fail
         refine L1.out.mono ?_
         rintro e w2 ⟨rfl, hg2⟩
         go_wp2
         go_ret
         exact ⟨rfl, jbe (jaa G1.out hg2)⟩
        ·have d2 : (op.toList == [76, 101, 115, 115]) = false := by simpa using m2
         by_cases m3 : op.toList = [71, 114, 101, 97, 116, 101, 114]
         ·have d3 : (op.toList == [71, 114, 101, 97, 116, 101, 114]) = true := by simp [m3]
          clear m3 hgs S1
          go_wp2_with fail
          refine L1.out.mono ?_
          rintro e w2 ⟨rfl, hg2⟩
          go_wp2
          go_ret
          exact ⟨rfl, jbe (jaa G1.out hg2)⟩
         ·have d3 : (op.toList == [71, 114, 101, 97, 116, 101, 114]) = false := by simpa using m3
          have SW1 := jac (SW.out m0 m1 m2 m3)
          have WS1 := jac (WS.out m0 m1 m2 m3)
          have O1 := jac (OO.out w1 G1.out)
          have HGS := jac hgs
          clear OO SW WS m0 m1 m2 m3 S1 L1 hgs
          go_wp2_with fail
          clear d0 d1 d2 d3
          refine O1.out.mono ?_
          rintro e v1 hat
          obtain ⟨hg1, ⟨da, dn, dc⟩, ⟨ta, tn, tc⟩, rfl, hai, hti, -⟩ := jnk hat
          have HAI := jac hai
          have HTI := jac hti
          obtain ⟨e1, e2, e3, e4⟩ := jnj SW1.out WS1.out NE.out NE2.out
          obtain ⟨t1, ht1⟩ : ∃ t, t = rTy R1 := ⟨_, rfl⟩
          obtain ⟨c1, hc1⟩ : ∃ t, t = rC R1 := ⟨_, rfl⟩
          obtain ⟨c2, hc2⟩ : ∃ t, t = rC R2 := ⟨_, rfl⟩
          rw [← ht1] at e1
          rw [← hc1, ← hc2] at e4
          rw [← ht1, ← hc1]
          have HT2 := jac e1
          have HL2 := jac e2
          have HZ2 := jac e3
          have HC2 := jac hc2
          clear hat hai hti e1 e2 e3 ht1 hc1 hc2
          simp only at HAI HTI ⊢
          obtain ⟨W1, hW1⟩ : ∃ W1, W1 = v1.alloc (.cells #[.int .i64 t1, .slice da dn dc, .slice ta tn tc] 32) := ⟨_, rfl⟩
          have B1 := heap_alloc_new v1 (.cells #[.int .i64 t1, .slice da dn dc, .slice ta tn tc] 32)
          rw [← hW1] at B1
          have BA : Hid (∀ wx, W1.grownBy wx none → wx.heap[v1.heap.size]? = some (.cells #[.int .i64 t1, .slice da dn dc, .slice ta tn tc] 32 (0, 0))) := fun wx hg => jag B1 hg
          have Z1 : Hid (W1.heap.size = v1.heap.size + 1) := by show _ = _; rw [hW1]; simp
          have G11 : Hid (v1.grownBy W1 none) := by show v1.grownBy W1 none; rw [hW1]; exact jab _ _
          have G10 := jac (jaa HGS.out (jaa hg1 G11.out))
          have G2 := jac (jaa g0.out G10.out)
          have GD := jac (jaf G2.out)
          have GDA := jac (jaf (jad W1))
          clear B1 hg1 n0 n1 n2 n3 n4
          have VT : Hid (∀ (V : World) (B : Nat), w.grownBy V none → V.heap.size = B → TensIn (V.alloc (.cells #[.int .i64 qt, .slice qa ql qc, .slice sa sn sc, .int .i64 pt, .slice pa pl pc, .slice ra rn rc] 32)) (.slice (some ⟨B, 0, none⟩) 2 2) [(⟨qt, ⟨qa, ql, qc⟩, ⟨sa, sn, sc⟩⟩, (y, ys)), (⟨pt, ⟨pa, pl, pc⟩, ⟨ra, rn, rc⟩⟩, (x, xs))]) := fun V B hV hB => by rw [← hB]; exact joY (P := ⟨pt, ⟨pa, pl, pc⟩, ⟨ra, rn, rc⟩⟩) (Q := ⟨qt, ⟨qa, ql, qc⟩, ⟨sa, sn, sc⟩⟩) (HX.out.more hV) (HXS.out.more hV) (HY.out.more hV) (HYS.out.more hV)
          obtain ⟨n0, n1, n2, n3, n4⟩ := jai (n := ⟨op, nam, ⟨ia, il, ic⟩, out, ⟨ao, al, cap⟩⟩) (BX.out W1 G10.out)
          obtain ⟨y0, y1, y2⟩ := HC.out W1 G2.out
          obtain ⟨y3, y4, y5⟩ := HD.out W1 G2.out
          have i1 : (1 : Int) < 2 := by decide
          have hb1 : b < W1.heap.size := World.block_lt_of_cell? W1 _ y0
          have hb2 : w.heap.size < W1.heap.size := World.block_lt_of_cell? W1 _ n0
          have e1 : W1.heap.size ≠ b := by omega
          have e2 : b ≠ W1.heap.size := by omega
          have e5 : W1.heap.size + 1 ≠ b := by omega
          have e6 : b ≠ W1.heap.size + 1 := by omega
          have e7 : W1.heap.size ≠ w.heap.size := by omega
          have e8 : w.heap.size ≠ W1.heap.size := by omega
          have e9 : W1.heap.size + 1 ≠ w.heap.size := by omega
          have e10 : w.heap.size ≠ W1.heap.size + 1 := by omega
          clear hb1 hb2
          simp only at n0 n1 n2 n3 n4 y0 y1 y2 y3 y4 y5
          go_wp2_with fail
          rw [← hW1]
          clear hW1
          go_region_held3 (fun w' => w'.cell? ⟨w.heap.size, 0, none⟩ = some (.string op) ∧ w'.cell? ⟨w.heap.size, 1, none⟩ = some (.string nam) ∧ w'.cell? ⟨w.heap.size, 2, none⟩ = some (.slice ia il ic) ∧ w'.cell? ⟨w.heap.size, 3, none⟩ = some (.string out) ∧ w'.cell? ⟨w.heap.size, 4, none⟩ = some (.slice ao al cap) ∧ w'.cell? ⟨b, off, none⟩ = some (.int .i64 pt) ∧ w'.cell? ⟨b, off + 1, none⟩ = some (.slice pa pl pc) ∧ w'.cell? ⟨b, off + 2, none⟩ = some (.slice ra rn rc) ∧ w'.cell? ⟨b, off + 3, none⟩ = some (.int .i64 qt) ∧ w'.cell? ⟨b, off + 3 + 1, none⟩ = some (.slice qa ql qc) ∧ w'.cell? ⟨b, off + 3 + 2, none⟩ = some (.slice sa sn sc)) (go_keep) (first | (go_at_call 8; refine (O2.out _ (by first | exact jaa GD.out (jab _ _) | exact jaa (jaa GD.out (jab _ _)) (jab _ _)) ⟨some ⟨_, 0, none⟩, 2, 2⟩ (by first | exact VT.out _ _ GD.out (by simp) | exact (VT.out _ _ GD.out (by simp)).more (jab _ _) | exact VT.out _ _ (jaa GD.out (jab _ _)) (by simp))).mono ?_; rintro e v2 hat; obtain ⟨hg2, ⟨ba, bl, bc⟩, ⟨ea, en, ec⟩, rfl, hbi, hei, hbo⟩ := jnk hat; have HBO := jac hbo; clear hbo; rw [← HT2.out, ← HC2.out]; have GVA : W1.grownBy v2 none := (by first | exact jaa (jaa GDA.out (jab _ _)) hg2 | exact jaa (jaa (jaa GDA.out (jab _ _)) (jab _ _)) hg2); have HBI := jac hbi; have HEI := jac hei; obtain ⟨n0, n1, n2, n3, n4⟩ := jai (n := ⟨op, nam, ⟨ia, il, ic⟩, out, ⟨ao, al, cap⟩⟩) (BX.out v2 (jaa G10.out GVA)); obtain ⟨y0, y1, y2⟩ := HC.out v2 (jaa G2.out GVA); obtain ⟨y3, y4, y5⟩ := HD.out v2 (jaa G2.out GVA); simp only at n0 n1 n2 n3 n4 y0 y1 y2 y3 y4 y5; clear hat hbi hei; (try (have ZA : v2.heap[W1.heap.size + 1]? = some (.cells #[.int .i64 0, .slice none 0 0, .slice none 0 0] 32 (0, 0)) := (by have h := jag (heap_alloc_new (W1.drew.alloc (.cells #[.int .i64 qt, .slice qa ql qc, .slice sa sn sc, .int .i64 pt, .slice pa pl pc, .slice ra rn rc] 32)) (.cells #[.int .i64 0, .slice none 0 0, .slice none 0 0] 32)) hg2; simpa using h); have ZA0 := (cell_of_row _ _ 0 _ _ (0, 0) ZA).trans rfl; have ZA1 := (cell_of_row _ _ 1 _ _ (0, 0) ZA).trans rfl; have ZA2 := (cell_of_row _ _ 2 _ _ (0, 0) ZA).trans rfl; obtain ⟨ZA3, ZA4, ZA5⟩ := ja0 ZA)); (try (have ZB : v2.heap[W1.heap.size]? = some (.cells #[.int .i64 0, .slice none 0 0, .slice none 0 0] 32 (0, 0)) := (by have h := jag (heap_alloc_new W1.drew (.cells #[.int .i64 0, .slice none 0 0, .slice none 0 0] 32)) (jaa (jab _ _) hg2); simpa using h); have ZB0 := (cell_of_row _ _ 0 _ _ (0, 0) ZB).trans rfl; have ZB1 := (cell_of_row _ _ 1 _ _ (0, 0) ZB).trans rfl; have ZB2 := (cell_of_row _ _ 2 _ _ (0, 0) ZB).trans rfl; obtain ⟨ZB3, ZB4, ZB5⟩ := ja0 ZB))) | fail)
          ·have GV := jac GVA
           obtain ⟨F, hF⟩ : ∃ F, F = v2.alloc (.cells #[.int .i64 t1, .slice ba bl bc, .slice ea en ec] 32) := ⟨_, rfl⟩
           have FB : Hid (F.heap[v2.heap.size]? = some (.cells #[.int .i64 t1, .slice ba bl bc, .slice ea en ec] 32 (0, 0))) := by show _ = _; rw [hF]; exact heap_alloc_new v2 _
           have FG : Hid (W1.grownBy F none) := by show W1.grownBy F none; rw [hF]; exact jaa GV.out (jab _ _)
           have FBI : Hid (IsInts F (Sl.v ⟨ba, bl, bc⟩) (rL R2)) := by show IsInts F _ _; rw [hF]; exact HBI.out.more (jab _ _)
           have FEI : Hid (IsInts F (Sl.v ⟨ea, en, ec⟩) (rZ R2)) := by show IsInts F _ _; rw [hF]; exact HEI.out.more (jab _ _)
           rw [← hF]
           clear hF GVA n0 n1 n2 n3 n4 y0 y1 y2 y3 y4 y5 e1 e2 e5 e6 e7 e8 e9 e10
           obtain ⟨a0, a1, a2⟩ : F.cell? ⟨v1.heap.size, 0, none⟩ = some (.int .i64 t1) ∧ F.cell? ⟨v1.heap.size, 1, none⟩ = some (.slice da dn dc) ∧ F.cell? ⟨v1.heap.size, 2, none⟩ = some (.slice ta tn tc) := ⟨(cell_of_row _ _ 0 _ _ (0, 0) (BA.out F FG.out)).trans rfl, (cell_of_row _ _ 1 _ _ (0, 0) (BA.out F FG.out)).trans rfl, (cell_of_row _ _ 2 _ _ (0, 0) (BA.out F FG.out)).trans rfl⟩
           have b0 := (cell_of_row _ _ 0 _ _ (0, 0) FB.out).trans rfl
           have b1 := (cell_of_row _ _ 1 _ _ (0, 0) FB.out).trans rfl
           have b3 := (cell_of_row _ _ 2 _ _ (0, 0) FB.out).trans rfl
           have hD := HAI.out.more (jaa G11.out FG.out)
           have hT := HTI.out.more (jaa G11.out FG.out)
           have hE := FBI.out
           have hF := FEI.out
           rw [HL2.out] at hD
           rw [HZ2.out] at hT
           have SA := jac (jdg t1 _ _ _ _ (rL R2) (rZ R2) F hD hT hE hF)
           simp only [Sl.v] at SA
           clear hD hT hE hF
           go_wp2_with (first | (go_at_call 9; refine SA.out.mono ?_; rintro e w5 ⟨rfl, hg5⟩) | fail)
           refine (LV.out w5 (jaa (jaa G2.out FG.out) hg5)).mono ?_
           rintro e w6 ⟨rfl, hg6⟩
           go_wp2
           go_ret
           exact ⟨rfl, jbe (jaa (jaa (jaa G2.out FG.out) hg5) hg6)⟩
          ·have GV := jac GVA
           obtain ⟨hX, gX⟩ := jbx (.int .i64 t1) (.slice ba bl bc) (.slice ea en ec) ZA
           obtain ⟨F, hF⟩ : ∃ F, F = ((v2.setCell ⟨W1.heap.size + 1, 0, none⟩ (.int .i64 t1)).setCell ⟨W1.heap.size + 1, 1, none⟩ (.slice ba bl bc)).setCell ⟨W1.heap.size + 1, 2, none⟩ (.slice ea en ec) := ⟨_, rfl⟩
           rw [← hF] at hX gX ⊢
           have FB := jac hX
           have FG := jac (jaD GV.out gX (by omega))
           have FBI : Hid (IsInts F (Sl.v ⟨ba, bl, bc⟩) (rL R2)) := HBI.out.kept fun b' hb' e' => gX.block b' hb' (fun e3 => (HBO.out b' (by have e4 := Option.some.inj e3; simp; omega)).1 e')
           have FEI : Hid (IsInts F (Sl.v ⟨ea, en, ec⟩) (rZ R2)) := HEI.out.kept fun b' hb' e' => gX.block b' hb' (fun e3 => (HBO.out b' (by have e4 := Option.some.inj e3; simp; omega)).2 e')
           clear hF hX gX GVA ZA ZA0 ZA1 ZA2 ZA3 ZA4 ZA5 n0 n1 n2 n3 n4 y0 y1 y2 y3 y4 y5 e1 e2 e5 e6 e7 e8 e9 e10
           obtain ⟨a0, a1, a2⟩ : F.cell? ⟨v1.heap.size, 0, none⟩ = some (.int .i64 t1) ∧ F.cell? ⟨v1.heap.size, 1, none⟩ = some (.slice da dn dc) ∧ F.cell? ⟨v1.heap.size, 2, none⟩ = some (.slice ta tn tc) := ⟨(cell_of_row _ _ 0 _ _ (0, 0) (BA.out F FG.out)).trans rfl, (cell_of_row _ _ 1 _ _ (0, 0) (BA.out F FG.out)).trans rfl, (cell_of_row _ _ 2 _ _ (0, 0) (BA.out F FG.out)).trans rfl⟩
           have b0 := (cell_of_row _ _ 0 _ _ (0, 0) FB.out).trans rfl
           have b1 := (cell_of_row _ _ 1 _ _ (0, 0) FB.out).trans rfl
           have b3 := (cell_of_row _ _ 2 _ _ (0, 0) FB.out).trans rfl
           have hD := HAI.out.more (jaa G11.out FG.out)
           have hT := HTI.out.more (jaa G11.out FG.out)
           have hE := FBI.out
           have hF := FEI.out
           rw [HL2.out] at hD
           rw [HZ2.out] at hT
           have SA := jac (jdg t1 _ _ _ _ (rL R2) (rZ R2) F hD hT hE hF)
           simp only [Sl.v] at SA
           clear hD hT hE hF
           go_wp2_with (first | (go_at_call 9; refine SA.out.mono ?_; rintro e w5 ⟨rfl, hg5⟩) | fail)
           refine (LV.out w5 (jaa (jaa G2.out FG.out) hg5)).mono ?_
           rintro e w6 ⟨rfl, hg6⟩
           go_wp2
           go_ret
           exact ⟨rfl, jbe (jaa (jaa (jaa G2.out FG.out) hg5) hg6)⟩
          ·have GV := jac GVA
           obtain ⟨hX, gX⟩ := jbx (.int .i64 t1) (.slice ba bl bc) (.slice ea en ec) ZB
           obtain ⟨F, hF⟩ : ∃ F, F = ((v2.setCell ⟨W1.heap.size, 0, none⟩ (.int .i64 t1)).setCell ⟨W1.heap.size, 1, none⟩ (.slice ba bl bc)).setCell ⟨W1.heap.size, 2, none⟩ (.slice ea en ec) := ⟨_, rfl⟩
           rw [← hF] at hX gX ⊢
           have FB := jac hX
           have FG := jac (jaD GV.out gX (by omega))
           have FBI : Hid (IsInts F (Sl.v ⟨ba, bl, bc⟩) (rL R2)) := HBI.out.kept fun b' hb' e' => gX.block b' hb' (fun e3 => (HBO.out b' (by have e4 := Option.some.inj e3; simp; omega)).1 e')
           have FEI : Hid (IsInts F (Sl.v ⟨ea, en, ec⟩) (rZ R2)) := HEI.out.kept fun b' hb' e' => gX.block b' hb' (fun e3 => (HBO.out b' (by have e4 := Option.some.inj e3; simp; omega)).2 e')
           clear hF hX gX GVA ZB ZB0 ZB1 ZB2 ZB3 ZB4 ZB5 n0 n1 n2 n3 n4 y0 y1 y2 y3 y4 y5 e1 e2 e5 e6 e7 e8 e9 e10
           obtain ⟨a0, a1, a2⟩ : F.cell? ⟨v1.heap.size, 0, none⟩ = some (.int .i64 t1) ∧ F.cell? ⟨v1.heap.size, 1, none⟩ = some (.slice da dn dc) ∧ F.cell? ⟨v1.heap.size, 2, none⟩ = some (.slice ta tn tc) := ⟨(cell_of_row _ _ 0 _ _ (0, 0) (BA.out F FG.out)).trans rfl, (cell_of_row _ _ 1 _ _ (0, 0) (BA.out F FG.out)).trans rfl, (cell_of_row _ _ 2 _ _ (0, 0) (BA.out F FG.out)).trans rfl⟩
           have b0 := (cell_of_row _ _ 0 _ _ (0, 0) FB.out).trans rfl
           have b1 := (cell_of_row _ _ 1 _ _ (0, 0) FB.out).trans rfl
           have b3 := (cell_of_row _ _ 2 _ _ (0, 0) FB.out).trans rfl
           have hD := HAI.out.more (jaa G11.out FG.out)
           have hT := HTI.out.more (jaa G11.out FG.out)
           have hE := FBI.out
           have hF := FEI.out
           rw [HL2.out] at hD
           rw [HZ2.out] at hT
           have SA := jac (jdg t1 _ _ _ _ (rL R2) (rZ R2) F hD hT hE hF)
           simp only [Sl.v] at SA
           clear hD hT hE hF
           go_wp2_with (first | (go_at_call 9; refine SA.out.mono ?_; rintro e w5 ⟨rfl, hg5⟩) | fail)
           refine (LV.out w5 (jaa (jaa G2.out FG.out) hg5)).mono ?_
           rintro e w6 ⟨rfl, hg6⟩
           go_wp2
           go_ret
           exact ⟨rfl, jbe (jaa (jaa (jaa G2.out FG.out) hg5) hg6)⟩
theorem jqI (n : Nod) (u : Sl) (ps : List (Ten × Tq)) (w : World) (hl : Laid w) (hv : TensIn w u.v ps) (h : ps.length ≠ 2) :
    Calls Tryz.prog 5 #[jaz n, .slice u.a u.n u.c] w fun e w' => e = .returned (.bool true) ∧ Below w.heap.size w w' := by
     have LV := jac (fun (wx : World) (hx : w.grownBy wx none) => jhM wx (hl.more hx))
     have SM := jac (fun (wx : World) (hx : w.grownBy wx none) => jfW u _ wx (hv.more hx))
     obtain ⟨xa, xc, e1, q1, q2, q3⟩ := hv.vals.form
     rw [List.length_map] at e1 q1 q3
     clear hl hv
     obtain ⟨op, nam, ⟨ia, il, ic⟩, out, ⟨ao, al, cap⟩⟩ := n
     obtain ⟨ua, un, uc⟩ := u
     simp only [Sl.v, Value.slice.injEq] at e1
     obtain ⟨rfl, rfl, rfl⟩ := e1
     unfold jaz
     simp only at SM ⊢
     obtain ⟨w0, hw0⟩ : ∃ w0, w0 = w.alloc (.cells #[.string op, .string nam, .slice ia il ic, .string out, .slice ao al cap] 25) := ⟨_, rfl⟩
     have g0 : Hid (w.grownBy w0 none) := by show w.grownBy w0 none; rw [hw0]; exact jab _ _
     have S1 := jac (SM.out w0 g0.out)
     have b1 : ((ps.length : Int) != 2) = true := by simpa using (fun e => h (by omega) : ¬ (ps.length : Int) = 2)
     clear h SM
     go_enter Tryz.func5, Tryz.ntmps5
     go_wp2_with fail
     rw [← hw0]
     clear hw0
     refine S1.out.mono ?_
     rintro e w1 ⟨bs, rfl, hgs⟩
     have G1 := jac (jaa g0.out hgs)
     have L1 := jac (LV.out w1 G1.out)
     clear hgs S1
     cases bs with
     | false =>
      go_wp2_with fail
      refine L1.out.mono ?_
      rintro e w2 ⟨rfl, hg2⟩
      go_wp2
      go_ret
      exact ⟨rfl, jbe (jaa G1.out hg2)⟩
     | true =>
      go_wp2_with fail
      refine L1.out.mono ?_
      rintro e w2 ⟨rfl, hg2⟩
      go_wp2
      go_ret
      exact ⟨rfl, jbe (jaa G1.out hg2)⟩
theorem joZ (n : Nod) (ins : List ByteArray) (A : At) (u : Sl) (ps : List (Ten × Tq)) (w : World) (hl : Laid w) (hn : NodeAll w n ins A) (_hf : A.xs.length ≤ 1048576) (_hi : ins.length ≤ 1048576) (hv : TensIn w u.v ps) (_hvl : ps.length ≤ 1048576) :
    Calls Tryz.prog 5 #[jaz n, .slice u.a u.n u.c] w fun e w' => e = .returned (.bool true) ∧ Below w.heap.size w w' := by
     by_cases h0 : ps.length = 2
     ·match ps, h0 with
      | [(P, (x, xs)), (Q, (y, ys))], _ => exact jqH n ins A u P Q x y xs ys w hl hn hv
     ·exact jqI n u ps w hl hv h0
end Go.Proofs.YteigfipgmghgmaaGreatDoor
