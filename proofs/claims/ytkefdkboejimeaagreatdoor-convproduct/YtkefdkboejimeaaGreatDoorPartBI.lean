/- A part. -/
import Derived.Test.YtkefdkboejimeaaGreatDoorPartAY
import Derived.Test.YtkefdkboejimeaaGreatDoorPartBH
import Derived.Test.YtkefdkboejimeaaGreatDoorPartBC
import Derived.Test.YtkefdkboejimeaaGreatDoorPartAZ
import Derived.Test.YtkefdkboejimeaaGreatDoorPartAB
import Derived.Test.YtkefdkboejimeaaGreatDoorPartAQ
import Derived.Test.YtkefdkboejimeaaGreatDoorPartAW
import Derived.Test.YtkefdkboejimeaaGreatDoorPartAR
import Derived.Test.YtkefdkboejimeaaGreatDoorPartAT
import Derived.Deep.RegionHeld3
set_option maxHeartbeats 8000000
set_option maxRecDepth 100000
namespace Go.Proofs.YtkefdkboejimeaaGreatDoor
open Go.RowKit
theorem jof : Rng 0 := by unfold Rng; omega
theorem jlC (n : Int) : Rng (wrap64 n) := by
 unfold Rng wrap64
 omega
theorem jpn (o : Option Nat) (h : ∀ r, o = some r → r < 4294967296) : Rng (Nu.tobO o) := by
 unfold Rng
 cases o with
 | none => simp [Nu.tobO]
 | some r =>
  have := h r rfl
  simp only [Nu.tobO, Nu.tob]
  split
  ·omega
  ·omega
theorem jnE {op : BinOp} {x y r : Nat} (h : floatBits op .f32 x y = some r) : r < 4294967296 := by
 have := floatBits_wf h
 simpa [Lit.wf] using this
theorem jg2 (t n : Int) (h : Rng n) : Rng (Nu.wrapT t n) := by
 unfold Nu.wrapT
 split
 ·exact jlC _
 ·exact h
theorem jiL (b : Nat) (h : b < 4294967296) : Rng (Nu.tob b) := by
 unfold Rng
 simp only [Nu.tob]
 split <;> omega
theorem jpo (t x y : Int) : Rng (Nu.bin 0 t x y).1 := by
 unfold Nu.bin
 split
 ·split
  ·exact jpn _ fun r h => jnE h
  ·split
   ·exact jof
   ·exact jg2 _ _ (jlC _)
 ·exact jof
theorem jpp (t x y : Int) (hx : Rng x) (hy : Rng y) : Rng (Nu.bin 4 t x y).1 := by
 unfold Nu.bin
 split
 ·split
  ·show Rng (Nu.maxF (Nu.fb x) (Nu.fb y))
   unfold Nu.maxF
   have h1 := jiL (Nu.fb x) (Nu.fb_lt x)
   have h2 := jiL (Nu.fb y) (Nu.fb_lt y)
   split
   ·unfold Rng; omega
   ·exact h2
   ·exact h1
   ·split
    ·exact h2
    ·exact h1
  ·split
   ·exact jof
   ·refine jg2 _ _ ?_
    unfold Nu.maxI
    split
    ·exact hy
    ·exact hx
 ·exact jof
theorem jiM {g : Int → Int → Int} (hg : ∀ x y, Rng x → Rng y → Rng (g x y)) : ∀ (ys : List Int) (z : Int), Rng z → (∀ y ∈ ys, Rng y) → Rng (ys.foldl g z)
 | [], z, h, _ => h
 | y :: ys, z, h, hy => jiM hg ys _ (hg z y h (hy y (by simp))) (fun q hq => hy q (by simp [hq]))
def addL (t : Int) (ys : List Int) : Int := ys.foldl (fun x y => (Nu.bin 0 t x y).1) 0
def jbE (t : Int) (ys : List Int) : Int := maxL (fun x y => (Nu.bin 4 t x y).1) ys
def firstL (t : Int) (ys : List Int) : Int := argL (fun x y => (Nu.bin 11 t x y).1) ys
theorem je4 (t : Int) (ys : List Int) (h : ∀ y ∈ ys, Rng y) : Rng (jbE t ys) := by
 unfold jbE maxL
 refine jiM (fun x y => jpp t x y) _ _ ?_ (fun y hy => h y (List.mem_of_mem_tail hy))
 cases ys with
 | nil => exact jof
 | cons a l => exact h a (by simp)
end Go.Proofs.YtkefdkboejimeaaGreatDoor
namespace Go.Proofs.YtkefdkboejimeaaGreatDoor
open Go.RowKit
theorem jiN (n : Nod) (u : Sl) (R0 : R (Int × List Int)) (M : List Int → R (List Int)) (w : World) (h1 : ∀ c, R0 = .error c → c ≠ 0) (h2 : ∀ l c, M l = .error c → c ≠ 0)
    (NC : ∀ wx, w.grownBy wx none → Calls Tryz.prog 24 #[jaL n, .slice u.a u.n u.c] wx (jju n.out wx R0))
    (MC : ∀ (wx : World) (ty : Int) (dv : Sl) (l : List Int), w.grownBy wx none → R0 = .ok (ty, l) → IsInts wx dv.v l → Calls Tryz.prog 15 #[jaL n, .slice u.a u.n u.c, .agg #[.string n.out, .int .i64 ty, .slice dv.a dv.n dv.c]] wx (EvQ wx (M l))) :
    Calls Tryz.prog 14 #[jaL n, .slice u.a u.n u.c, .func (.func 15) #[] #[]] w (DoQ w (doR R0 M)) := by
     have H1 := jae h1
     have H2 := jae h2
     have HMC := jae MC
     clear h1 h2 MC
     obtain ⟨w0, hw0⟩ : ∃ w0, w0 = (w.alloc (.cells #[.string n.op, .string n.name, .slice n.iv.a n.iv.n n.iv.c, .string n.out, .slice n.av.a n.av.n n.av.c] 35)).alloc (.cells #[.int .i64 0, .slice none 0 0, .slice none 0 0] 25) := ⟨_, rfl⟩
     have g0 : Hid (w.grownBy w0 none) := by show w.grownBy w0 none; rw [hw0]; exact jaa (jab _ _) (jab _ _)
     have hbx := jax w (.cells #[.string n.op, .string n.name, .slice n.iv.a n.iv.n n.iv.c, .string n.out, .slice n.av.a n.av.n n.av.c] 35) (.cells #[.int .i64 0, .slice none 0 0, .slice none 0 0] 25)
     rw [← hw0] at hbx
     have BN : Hid (∀ wx, w0.grownBy wx none → wx.heap[w.heap.size]? = some (.cells #[.string n.op, .string n.name, .slice n.iv.a n.iv.n n.iv.c, .string n.out, .slice n.av.a n.av.n n.av.c] 35 (0, 0))) := fun wx hg => jad hbx.1 hg
     have BX : Hid (∀ wx, w0.grownBy wx none → wx.heap[w.heap.size + 1]? = some (.cells #[.int .i64 0, .slice none 0 0, .slice none 0 0] 25 (0, 0))) := fun wx hg => jad hbx.2 hg
     have Z0 : Hid (w.heap.size + 1 < w0.heap.size) := (Array.getElem?_eq_some_iff.1 hbx.2).1
     have N1 := jae (NC w0 g0.out)
     clear hbx NC
     obtain ⟨op, nam, ⟨ia, il, ic⟩, out, ⟨ao, al, cap⟩⟩ := n
     obtain ⟨ua, un, uc⟩ := u
     unfold jaL at HMC N1 ⊢
     simp only at HMC N1 BN hw0 ⊢
     go_enter Tryz.func14, Tryz.ntmps14
     go_wp2_with fail
     rw [← hw0]
     clear hw0
     refine N1.out.mono ?_
     rintro e w1 ⟨hg1, hq⟩
     have G1 := jae hg1
     cases R0 with
     | error c =>
      obtain rfl := hq
      have hc := H1.out c rfl
      have bc : (c != 0) = true := by simpa using hc
      obtain ⟨w2, hw2⟩ : ∃ w2, w2 = w1.alloc (.cells #[.string ⟨#[]⟩, .int .i64 0, .slice none 0 0] 53) := ⟨_, rfl⟩
      have g2 : w1.grownBy w2 none := by rw [hw2]; exact jab _ _
      have B1 := BX.out w2 (jaa hg1 g2)
      obtain ⟨f0, f1, f2⟩ := jaJ B1
      have c0 : w2.cell? ⟨w.heap.size + 1, 0, none⟩ = some (.int .i64 0) := (cell_of_row _ _ 0 _ _ (0, 0) B1).trans rfl
      have c1 : w2.cell? ⟨w.heap.size + 1, 1, none⟩ = some (.slice none 0 0) := (cell_of_row _ _ 1 _ _ (0, 0) B1).trans rfl
      have c2 : w2.cell? ⟨w.heap.size + 1, 2, none⟩ = some (.slice none 0 0) := (cell_of_row _ _ 2 _ _ (0, 0) B1).trans rfl
      obtain ⟨hX, gX⟩ := ja5 (.int .i64 0) (.slice none 0 0) (.slice none 0 0) B1
      have HX := jae hX
      have GX := jae (jas (jaa g0.out (jaa hg1 g2)) gX (by omega))
      rw [hw2] at f0 f1 f2 c0 c1 c2 HX GX
      clear hX gX B1 hc hg1 g2 hw2
      go_wp2
      refine bodyPost_ret (jbk rfl _ _ (w.heap.size + 1) rfl HX.out) rfl ?_
      exact jdB rfl GX.out
     | ok rr =>
      obtain ⟨ty, l⟩ := rr
      obtain ⟨⟨s1, s2, s3⟩, rfl, ho⟩ := hq
      obtain ⟨w2, hw2⟩ : ∃ w2, w2 = w1.alloc (.cells #[.string out, .int .i64 ty, .slice s1 s2 s3] 53) := ⟨_, rfl⟩
      have g2 : w1.grownBy w2 none := by rw [hw2]; exact jab _ _
      have hB2 := heap_alloc_new w1 (.cells #[.string out, .int .i64 ty, .slice s1 s2 s3] 53)
      rw [← hw2] at hB2
      have BV : Hid (∀ wx, w2.grownBy wx none → wx.heap[w1.heap.size]? = some (.cells #[.string out, .int .i64 ty, .slice s1 s2 s3] 53 (0, 0))) := fun wx hg => jad hB2 hg
      have HO := jae ho
      obtain ⟨n0, n1, n2, n3, n4⟩ := jai (n := ⟨op, nam, ⟨ia, il, ic⟩, out, ⟨ao, al, cap⟩⟩) (BN.out w2 (jaa hg1 g2))
      have M1 := jae (HMC.out w2 ty ⟨s1, s2, s3⟩ l (jaa g0.out (jaa hg1 g2)) rfl (ho.ints.more g2))
      have G2 := jae (jaa hg1 g2)
      have G12 := jae g2
      simp only at n0 n1 n2 n3 n4 M1
      rw [hw2] at n0 n1 n2 n3 n4
      clear ho hg1 g2 hB2
      go_wp2_with fail
      rw [← hw2]
      clear hw2 n0 n1 n2 n3 n4
      refine M1.out.mono ?_
      rintro e w3 ⟨hg3, hq⟩
      have B3 := BX.out w3 (jaa G2.out hg3)
      have G3 := jae (jaa g0.out (jaa G2.out hg3))
      obtain ⟨f0, f1, f2⟩ := jaJ B3
      have c0 : w3.cell? ⟨w.heap.size + 1, 0, none⟩ = some (.int .i64 0) := (cell_of_row _ _ 0 _ _ (0, 0) B3).trans rfl
      have c1 : w3.cell? ⟨w.heap.size + 1, 1, none⟩ = some (.slice none 0 0) := (cell_of_row _ _ 1 _ _ (0, 0) B3).trans rfl
      have c2 : w3.cell? ⟨w.heap.size + 1, 2, none⟩ = some (.slice none 0 0) := (cell_of_row _ _ 2 _ _ (0, 0) B3).trans rfl
      obtain ⟨mr, hmr⟩ : ∃ mr, mr = M l := ⟨_, rfl⟩
      rw [← hmr] at hq
      have ED : Hid (doR (.ok (ty, l)) M = mr.map fun zs => (ty, l, zs)) := by rw [hmr]; rfl
      cases mr with
      | error c =>
       obtain rfl := hq
       have hc := H2.out l c hmr.symm
       have bc : (c != 0) = true := by simpa using hc
       obtain ⟨hX, gX⟩ := ja5 (.int .i64 0) (.slice none 0 0) (.slice none 0 0) B3
       have HX := jae hX
       have GX := jae (jas G3.out gX (by omega))
       clear hX gX B3 hc hg3 hmr
       go_wp2
       refine bodyPost_ret (jbk rfl _ _ (w.heap.size + 1) rfl HX.out) rfl ?_
       exact jdB ED.out GX.out
      | ok zs =>
       obtain ⟨⟨t1, t2, t3⟩, rfl, ht⟩ := hq
       have bv := BV.out w3 hg3
       have v1 : w3.cell? ⟨w1.heap.size, 1, none⟩ = some (.int .i64 ty) := (cell_of_row _ _ 1 _ _ (0, 0) bv).trans rfl
       have v2 : w3.cell? ⟨w1.heap.size, 2, none⟩ = some (.slice s1 s2 s3) := (cell_of_row _ _ 2 _ _ (0, 0) bv).trans rfl
       obtain ⟨hX, gX⟩ := ja5 (.int .i64 ty) (.slice s1 s2 s3) (.slice t1 t2 t3) B3
       have HX := jae hX
       have GX := jae (jas G3.out gX (by omega))
       have z0 := Z0.out
       have z1 := g0.out.size
       have z2 := G2.out.size
       have OD := jae (((HO.out.more (jaa G12.out hg3) (by cases (Sl.v ⟨s1, s2, s3⟩).ownBlock <;> simp)).base_le (b' := w0.heap.size) (Nat.le_refl _)).more gX (jcE HO.out.1 (by omega)))
       have OT : Hid (jaI _ w2.heap.size (Sl.v ⟨t1, t2, t3⟩) zs) := ht.more gX (jcE ht.1 (by omega))
       clear hX gX B3 hg3 hmr bv ht z0 z1 z2
       go_wp2
       refine bodyPost_ret (jbk rfl _ _ (w.heap.size + 1) rfl HX.out) rfl ?_
       exact jjD (d := ⟨s1, s2, s3⟩) (t := ⟨t1, t2, t3⟩) ED.out GX.out (OD.out.base_le (by have := g0.out.size; omega)) ⟨ja6 OT.out.1 (by have := g0.out.size; have := G2.out.size; omega), OT.out.2⟩
theorem jlD (n : Nod) (u : Sl) (r : R (Int × List Int × List Int)) (w : World) (BC : ∀ wx, w.grownBy wx none → Calls Tryz.prog 14 #[jaL n, .slice u.a u.n u.c, .func (.func 15) #[] #[]] wx (DoQ wx r)) :
    Calls Tryz.prog 9 #[jaL n, .slice u.a u.n u.c] w (DoQ w r) := by
     obtain ⟨w0, hw0⟩ : ∃ w0, w0 = (w.alloc (.cells #[.string n.op, .string n.name, .slice n.iv.a n.iv.n n.iv.c, .string n.out, .slice n.av.a n.av.n n.av.c] 35)).alloc (.cells #[.int .i64 0, .slice none 0 0, .slice none 0 0] 25) := ⟨_, rfl⟩
     have g0 : Hid (w.grownBy w0 none) := by show w.grownBy w0 none; rw [hw0]; exact jaa (jab _ _) (jab _ _)
     have hbx := jax w (.cells #[.string n.op, .string n.name, .slice n.iv.a n.iv.n n.iv.c, .string n.out, .slice n.av.a n.av.n n.av.c] 35) (.cells #[.int .i64 0, .slice none 0 0, .slice none 0 0] 25)
     rw [← hw0] at hbx
     have BX : Hid (∀ wx, w0.grownBy wx none → wx.heap[w.heap.size + 1]? = some (.cells #[.int .i64 0, .slice none 0 0, .slice none 0 0] 25 (0, 0))) := fun wx hg => jad hbx.2 hg
     have Z0 : Hid (w.heap.size + 1 < w0.heap.size) := (Array.getElem?_eq_some_iff.1 hbx.2).1
     have N1 := jae (BC w0 g0.out)
     clear hbx BC
     obtain ⟨op, nam, ⟨ia, il, ic⟩, out, ⟨ao, al, cap⟩⟩ := n
     obtain ⟨ua, un, uc⟩ := u
     unfold jaL at N1 ⊢
     simp only at N1 hw0 ⊢
     go_enter Tryz.func9, Tryz.ntmps9
     go_wp2_with fail
     rw [← hw0]
     clear hw0
     refine N1.out.mono ?_
     rintro e w3 ⟨hg3, hq⟩
     have B3 := BX.out w3 hg3
     have G3 := jae (jaa g0.out hg3)
     obtain ⟨f0, f1, f2⟩ := jaJ B3
     have c0 : w3.cell? ⟨w.heap.size + 1, 0, none⟩ = some (.int .i64 0) := (cell_of_row _ _ 0 _ _ (0, 0) B3).trans rfl
     have c1 : w3.cell? ⟨w.heap.size + 1, 1, none⟩ = some (.slice none 0 0) := (cell_of_row _ _ 1 _ _ (0, 0) B3).trans rfl
     have c2 : w3.cell? ⟨w.heap.size + 1, 2, none⟩ = some (.slice none 0 0) := (cell_of_row _ _ 2 _ _ (0, 0) B3).trans rfl
     cases r with
     | error c =>
      obtain rfl := hq
      obtain ⟨hX, gX⟩ := ja5 (.int .i64 0) (.slice none 0 0) (.slice none 0 0) B3
      have HX := jae hX
      have GX := jae (jas G3.out gX (by omega))
      clear hX gX B3 hg3
      go_wp2
      refine bodyPost_ret (jbk rfl _ _ (w.heap.size + 1) rfl HX.out) rfl ?_
      exact jdB rfl GX.out
     | ok rr =>
      obtain ⟨ty, l, zs⟩ := rr
      obtain ⟨⟨ty', ⟨s1, s2, s3⟩, ⟨t1, t2, t3⟩⟩, e1, rfl, hd, ht⟩ := hq
      simp only at e1
      subst e1
      obtain ⟨hX, gX⟩ := ja5 (.int .i64 ty') (.slice s1 s2 s3) (.slice t1 t2 t3) B3
      have HX := jae hX
      have GX := jae (jas G3.out gX (by omega))
      have OD := jae (hd.more gX (jcE hd.1 Z0.out))
      have OT := jae (ht.more gX (jcE ht.1 Z0.out))
      clear hX gX B3 hg3 hd ht
      unfold jdL
      go_wp2
      refine bodyPost_ret (jbk rfl _ _ (w.heap.size + 1) rfl HX.out) rfl ?_
      exact jjD (d := ⟨s1, s2, s3⟩) (t := ⟨t1, t2, t3⟩) rfl GX.out (OD.out.base_le (by have := g0.out.size; omega)) ⟨ja6 OT.out.1 (by have := g0.out.size; omega), OT.out.2⟩
end Go.Proofs.YtkefdkboejimeaaGreatDoor
namespace Go.Proofs.YtkefdkboejimeaaGreatDoor
open Go.RowKit
def jog (t : Int) (x : List Int) (ts : R Int) (d : R (List Int)) : R (Int × List Int) :=
 (jhd t).bind fun _ => (ja9 x).bind fun _ => ts.bind fun t' => d.bind fun d => (ja9 d).bind fun _ => .ok (t', d)
theorem jqc (v0 : Val) (x : List Int) (ts : R Int) (d : R (List Int)) : jbo 0 true [(v0, x)] ts d [] = jog v0.ty x ts d := by
 unfold jbo jog
 simp only [jhB, jaz, if_true, jek, jda, jdo]
 rfl
theorem jnF {t ty : Int} {x l : List Int} {ts : R Int} {d : R (List Int)} (h : jog t x ts d = .ok (ty, l)) : ja3 x = 0 ∧ ts = .ok ty ∧ d = .ok l ∧ ja3 l = 0 := by
 unfold jog at h
 obtain ⟨_, -, h⟩ := jaG h
 obtain ⟨_, hx, h⟩ := jaG h
 obtain ⟨t', ht, h⟩ := jaG h
 obtain ⟨d', hd, h⟩ := jaG h
 obtain ⟨_, hc, h⟩ := jaG h
 cases h
 exact ⟨jbR hx, ht, hd, jbR hc⟩
theorem jcH {α β : Type} {c : Int} {r : R α} {f : α → R β} (h : r.bind f = .error c) : r = .error c ∨ ∃ a, r = .ok a ∧ f a = .error c := by
 cases r with
 | error c' => exact .inl (by cases h; rfl)
 | ok a => exact .inr ⟨a, rfl, h⟩
theorem jb1 {b : Bool} {c : Int} (h : jaz b = .error c) : c ≠ 0 := by
 unfold jaz at h
 split at h
 ·cases h
 ·cases h; decide
theorem jpq (t : Int) (x : List Int) (ts : R Int) (d : R (List Int)) (ht : ∀ c, ts = .error c → c ≠ 0) (hd : ∀ c, d = .error c → c ≠ 0) : ∀ c, jog t x ts d = .error c → c ≠ 0 := by
 intro c h
 unfold jog at h
 rcases jcH h with h | ⟨_, -, h⟩
 ·exact jlB h
 rcases jcH h with h | ⟨_, -, h⟩
 ·exact jga h
 rcases jcH h with h | ⟨_, -, h⟩
 ·exact ht _ h
 rcases jcH h with h | ⟨_, -, h⟩
 ·exact hd _ h
 rcases jcH h with h | ⟨_, -, h⟩
 ·exact jga h
 ·cases h
def tySame (t : Int) : R Int := (jaz (t != 9)).bind fun _ => .ok t
def tyArg (t : Int) : R Int := (jaz (t != 9)).bind fun _ => .ok 7
def jlE (t : Int) : R Int := (jaz (t == 1)).bind fun _ => .ok 1
theorem jnG (t : Int) : ∀ c, jlE t = .error c → c ≠ 0 := fun c h => by
 rcases jcH h with h | ⟨_, -, h⟩
 ·exact jb1 h
 ·cases h
theorem routG (n : Nod) (A : At) (i1 : ByteArray) (u : Sl) (v0 : Val) (x : List Int) (w : World) (hl : Laid w) (hni : NodeIn w n [i1] A.xs A.cs) (hck : jbl (jcf n.op) n.op [i1] n.out A.xs A.cs = 0) (hth : jdp (A.xs.find? (isA ⟨#[116, 104, 101, 110]⟩ 3)) = []) (ho : n.out.size ≤ 1048576) (hv : ValsIn w u.v [(v0, x)]) (ts : R Int) (d : R (List Int))
    (TM : jek [(v0, x)] = .ok () → ∀ wx, w.grownBy wx none → Calls Tryz.prog 121 #[jaL n, .slice u.a u.n u.c] wx (jbj wx ts fun t v _ => v = .int .i64 t ∧ jaV t = true))
    (DM : jek [(v0, x)] = .ok () → ∀ wx, w.grownBy wx none → Calls Tryz.prog 122 #[jaL n, .slice u.a u.n u.c] wx (jbj wx d jc8)) :
    Calls Tryz.prog 53 #[jaL n, .slice u.a u.n u.c] w (jju n.out w (jog v0.ty x ts d)) := by
     refine jf0 n u _ w fun wx hx => ?_
     have key := jcB n A [i1] u [(v0, x)] wx (hl.more hx) (hni.more hx) (hv.more hx) (by omega) _ _ (fun hc hll hin wy hy => TM hin wy (jaa hx hy)) (fun hc hll hin wy hy => DM hin wy (jaa hx hy))
     rw [hck, hth] at key
     have e := jqc v0 x ts d
     refine key.mono fun e' w' he => ?_
     rw [← e]
     exact jbq he fun r v _ e2 => e2
end Go.Proofs.YtkefdkboejimeaaGreatDoor
