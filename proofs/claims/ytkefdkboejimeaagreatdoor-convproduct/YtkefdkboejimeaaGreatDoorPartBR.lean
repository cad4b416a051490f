/- A part. -/
import Derived.Test.YtkefdkboejimeaaGreatDoorPartBO
import Derived.Test.YtkefdkboejimeaaGreatDoorPartBI
import Derived.Test.YtkefdkboejimeaaGreatDoorPartBQ
import Derived.Test.YtkefdkboejimeaaGreatDoorPartAL
import Derived.Test.YtkefdkboejimeaaGreatDoorPartBH
set_option maxHeartbeats 8000000
set_option maxRecDepth 100000
namespace Go.Proofs.YtkefdkboejimeaaGreatDoor
open Go.RowKit
theorem jc6 {A : At} {x K : List Int} {al : Nat} {a : Int} (ha : al = 0 ∨ al = 1) (hs : A.ints ⟨#[115, 116, 114, 105, 100, 101, 115]⟩ [1, 1] = [1, 1]) (hl : A.ints ⟨#[100, 105, 108, 97, 116, 105, 111, 110, 115]⟩ [1, 1] = [1, 1]) (hp : A.ints ⟨#[112, 97, 100, 115]⟩ [0, 0, 0, 0] = [0, 0, 0, 0]) (h : jay A x K al = .ok a) : K.getD al 0 ≤ x.getD (2 + al) 0 ∧ a = x.getD (2 + al) 0 - K.getD al 0 + 1 := by
 unfold jay jcO jaN at h
 rw [hs, hl, hp] at h
 have e1 : jaz (decide (([1, 1] : List Int).length = 2)) = .ok () := rfl
 have e2 : jaz (([1, 1] : List Int).all (fun x => decide (1 ≤ x ∧ x ≤ 100))) = .ok () := rfl
 have e3 : jaz (decide (([0, 0, 0, 0] : List Int).length = 4)) = .ok () := rfl
 have e4 : jaz (([0, 0, 0, 0] : List Int).all (fun x => decide (0 ≤ x ∧ x ≤ 100))) = .ok () := rfl
 rw [e1, e2, e3, e4] at h
 rcases ha with rfl | rfl
 ·change (jaz (decide (0 ≤ x.getD (2 + 0) 0 + 0 + 0 - 1 * (K.getD 0 0 - 1) - 1))).bind (fun _ => .ok ((x.getD (2 + 0) 0 + 0 + 0 - 1 * (K.getD 0 0 - 1) - 1) / 1 + 1)) = .ok a at h
  obtain ⟨_, h1, h⟩ := jaG h
  cases h
  have h2 := jd1 h1
  rw [decide_eq_true_eq] at h2
  rw [Int.ediv_one]
  omega
 ·change (jaz (decide (0 ≤ x.getD (2 + 1) 0 + 0 + 0 - 1 * (K.getD 1 0 - 1) - 1))).bind (fun _ => .ok ((x.getD (2 + 1) 0 + 0 + 0 - 1 * (K.getD 1 0 - 1) - 1) / 1 + 1)) = .ok a at h
  obtain ⟨_, h1, h⟩ := jaG h
  cases h
  have h2 := jd1 h1
  rw [decide_eq_true_eq] at h2
  rw [Int.ediv_one]
  omega
structure PoolD (x K l : List Int) (D0 D1 H W kh kw oh ow : Nat) : Prop where
 ex : x = [(D0 : Int), D1, H, W]
 ek : K = [(kh : Int), kw]
 el : l = [(D0 : Int), D1, oh, ow]
 e1 : oh + kh = H + 1
 e2 : ow + kw = W + 1
 d0 : 1 ≤ D0
 d1 : 1 ≤ D1
 k1 : 1 ≤ kh
 k2 : 1 ≤ kw
 o1 : 1 ≤ oh
 o2 : 1 ≤ ow
theorem je8 {x : List Int} (h : x.length = 4) : x = [x.getD 0 0, x.getD 1 0, x.getD 2 0, x.getD 3 0] := by
 match x, h with
 | [_, _, _, _], _ => rfl
theorem jnP {x : List Int} (h : x.length = 2) : x = [x.getD 0 0, x.getD 1 0] := by
 match x, h with
 | [_, _], _ => rfl
theorem jnQ {A : At} {x l : List Int} (hf : Fine x) (hs : A.ints ⟨#[115, 116, 114, 105, 100, 101, 115]⟩ [1, 1] = [1, 1]) (hl : A.ints ⟨#[100, 105, 108, 97, 116, 105, 111, 110, 115]⟩ [1, 1] = [1, 1]) (hp : A.ints ⟨#[112, 97, 100, 115]⟩ [0, 0, 0, 0] = [0, 0, 0, 0]) (h : jbi A x = .ok l) : ∃ D0 D1 H W kh kw oh ow : Nat, PoolD x (A.ints ⟨#[107, 101, 114, 110, 101, 108, 95, 115, 104, 97, 112, 101]⟩ []) l D0 D1 H W kh kw oh ow := by
 unfold jbi at h
 change (jaz (decide (x.length = 4))).bind _ = _ at h
 obtain ⟨_, h1, h⟩ := jaG h
 have h4 := jd1 h1
 rw [decide_eq_true_eq] at h4
 change (jaN (A.ints ⟨#[107, 101, 114, 110, 101, 108, 95, 115, 104, 97, 112, 101]⟩ []) 2 1).bind _ = _ at h
 obtain ⟨K, h2, h⟩ := jaG h
 obtain ⟨eK, lK, bK⟩ := jcm h2
 change (jcO A).bind _ = _ at h
 obtain ⟨pads, -, h⟩ := jaG h
 change (jaz _).bind _ = _ at h
 obtain ⟨_, -, h⟩ := jaG h
 change (jay A x K 0).bind _ = _ at h
 obtain ⟨a, ha, h⟩ := jaG h
 change (jay A x K 1).bind _ = _ at h
 obtain ⟨b, hb, h⟩ := jaG h
 cases h
 obtain ⟨a1, a2⟩ := jc6 (.inl rfl) hs hl hp ha
 obtain ⟨b1, b2⟩ := jc6 (.inr rfl) hs hl hp hb
 have p0 : 1 ≤ x.getD 0 0 := hf.pos _ (by rw [List.getD, List.getElem?_eq_getElem (by omega)]; exact List.getElem_mem _)
 have p1 : 1 ≤ x.getD 1 0 := hf.pos _ (by rw [List.getD, List.getElem?_eq_getElem (by omega)]; exact List.getElem_mem _)
 have k0 : 1 ≤ K.getD 0 0 := (bK _ (by rw [List.getD, List.getElem?_eq_getElem (by omega)]; exact List.getElem_mem _)).1
 have k1 : 1 ≤ K.getD 1 0 := (bK _ (by rw [List.getD, List.getElem?_eq_getElem (by omega)]; exact List.getElem_mem _)).1
 refine ⟨(x.getD 0 0).toNat, (x.getD 1 0).toNat, (x.getD 2 0).toNat, (x.getD 3 0).toNat, (K.getD 0 0).toNat, (K.getD 1 0).toNat, a.toNat, b.toNat, ?_⟩
 simp only [Nat.reduceAdd] at a1 a2 b1 b2
 rw [← eK]
 refine ⟨?_, ?_, ?_, by omega, by omega, by omega, by omega, by omega, by omega, by omega, by omega⟩
 ·rw [Int.toNat_of_nonneg (by omega), Int.toNat_of_nonneg (by omega), Int.toNat_of_nonneg (by omega), Int.toNat_of_nonneg (by omega)]
  exact je8 h4
 ·rw [Int.toNat_of_nonneg (by omega), Int.toNat_of_nonneg (by omega)]
  exact jnP lK
 ·rw [Int.toNat_of_nonneg (by omega), Int.toNat_of_nonneg (by omega), Int.toNat_of_nonneg (by omega), Int.toNat_of_nonneg (by omega)]
theorem jcW {l : List Int} {m : Nat} {b : Int} {c : Int} (h : jaN l m b = .error c) : c ≠ 0 := by
 unfold jaN at h
 change (jaz _).bind _ = _ at h
 rcases jcH h with h | ⟨_, -, h⟩
 ·exact jb1 h
 change (jaz _).bind _ = _ at h
 rcases jcH h with h | ⟨_, -, h⟩
 ·exact jb1 h
 ·cases h
theorem jdK {A : At} {x K : List Int} {al : Nat} {c : Int} (h : jay A x K al = .error c) : c ≠ 0 := by
 unfold jay at h
 change (jaN _ _ _).bind _ = _ at h
 rcases jcH h with h | ⟨_, -, h⟩
 ·exact jcW h
 change (jaN _ _ _).bind _ = _ at h
 rcases jcH h with h | ⟨_, -, h⟩
 ·exact jcW h
 change (jcO _).bind _ = _ at h
 rcases jcH h with h | ⟨_, -, h⟩
 ·exact jcW h
 change (jaz _).bind _ = _ at h
 rcases jcH h with h | ⟨_, -, h⟩
 ·exact jb1 h
 ·cases h
theorem jlU (A : At) (x : List Int) : ∀ c, jbi A x = .error c → c ≠ 0 := by
 intro c h
 unfold jbi at h
 change (jaz _).bind _ = _ at h
 rcases jcH h with h | ⟨_, -, h⟩
 ·exact jb1 h
 change (jaN _ _ _).bind _ = _ at h
 rcases jcH h with h | ⟨_, -, h⟩
 ·exact jcW h
 change (jcO _).bind _ = _ at h
 rcases jcH h with h | ⟨_, -, h⟩
 ·exact jcW h
 change (jaz _).bind _ = _ at h
 rcases jcH h with h | ⟨_, -, h⟩
 ·exact jb1 h
 change (jay _ _ _ _).bind _ = _ at h
 rcases jcH h with h | ⟨_, -, h⟩
 ·exact jdK h
 change (jay _ _ _ _).bind _ = _ at h
 rcases jcH h with h | ⟨_, -, h⟩
 ·exact jdK h
 ·cases h
def jpt (f : List Int → Int) (x K l xs : List Int) : List Int := jcy f xs (x.getD 0 0 * x.getD 1 0).toNat (x.getD 2 0).toNat (x.getD 3 0).toNat (K.getD 0 0).toNat (K.getD 1 0).toNat (l.getD 2 0).toNat (l.getD 3 0).toNat
theorem jnR {f : List Int → Int} {x K l : List Int} {D0 D1 H W kh kw oh ow : Nat} (h : PoolD x K l D0 D1 H W kh kw oh ow) (xs : List Int) : jpt f x K l xs = jcy f xs (D0 * D1) H W kh kw oh ow := by
 obtain ⟨rfl, rfl, rfl, -, -, -, -, -, -, -, -⟩ := h
 unfold jpt
 simp only [List.getD_cons_zero, List.getD_cons_succ, Int.toNat_natCast]
 rw [← Int.natCast_mul, Int.toNat_natCast]
def jpu (f : List Int → Int) (A : At) (t : Int) (x xs : List Int) : R (Int × List Int × List Int) :=
 doR (jcC [tq t x xs] (jog t x (jlE t) (jbi A x))) fun l => .ok (jpt f x (A.ints ⟨#[107, 101, 114, 110, 101, 108, 95, 115, 104, 97, 112, 101]⟩ []) l xs)
theorem jg7 {x xs : List Int} {D0 D1 H W : Nat} (ex : x = [(D0 : Int), D1, H, W]) (h : (xs.length : Int) = jaF x) : xs.length = D0 * D1 * (H * W) := by
 subst ex
 have e : jaF [(D0 : Int), D1, H, W] = ((D0 * D1 * (H * W) : Nat) : Int) := by simp [jaF, Int.mul_assoc]
 rw [e] at h
 exact Int.ofNat.inj h
theorem jpv (n : Nod) (A : At) (s : Sl) (v0 : Val) (x : List Int) (w : World) (hop : n.op ∈ ([⟨#[77, 97, 120, 80, 111, 111, 108]⟩, ⟨#[65, 118, 101, 114, 97, 103, 101, 80, 111, 111, 108]⟩, ⟨#[71, 108, 111, 98, 97, 108, 65, 118, 101, 114, 97, 103, 101, 80, 111, 111, 108]⟩] : List ByteArray)) (hn : NodeOk w n A) (hv : ValsIn w s.v [(v0, x)]) (hin : jek [(v0, x)] = .ok ()) : Calls Tryz.prog 121 #[jaL n, .slice s.a s.n s.c] w (jbj w (jlE v0.ty) fun t v _ => v = .int .i64 t ∧ jaV t = true) := by
 refine (jdX n A s [(v0, x)] w (by simp only [List.mem_cons, List.not_mem_nil, or_false] at hop ⊢; rcases hop with h | h | h <;> simp [h]) hn hv (by simp) (by simp) (jqb hin).1).mono fun e w' he => ?_
 have he2 : jbj w (jlE v0.ty) (fun t v _ => v = .int .i64 t) e w' := he
 exact jbq he2 fun t v e1 e2 => ⟨e2, by
  obtain ⟨_, -, e1⟩ := jaG e1
  cases e1
  rfl⟩
theorem jqe (n : Nod) (A : At) (i1 : ByteArray) (hop : n.op = ⟨#[77, 97, 120, 80, 111, 111, 108]⟩) (u : Sl) (T0 : Ten) (x xs : List Int) (w : World) (hl : Laid w) (hni : NodeIn w n [i1] A.xs A.cs) (hno : NodeOk w n A) (hck : jbl (jcf n.op) n.op [i1] n.out A.xs A.cs = 0) (hth : jdp (A.xs.find? (isA ⟨#[116, 104, 101, 110]⟩ 3)) = []) (ho : n.out.size ≤ 1048576) (hv : TensIn w u.v [(T0, (x, xs))]) (hs : A.ints ⟨#[115, 116, 114, 105, 100, 101, 115]⟩ [1, 1] = [1, 1]) (hdl : A.ints ⟨#[100, 105, 108, 97, 116, 105, 111, 110, 115]⟩ [1, 1] = [1, 1]) (hpd : A.ints ⟨#[112, 97, 100, 115]⟩ [0, 0, 0, 0] = [0, 0, 0, 0]) (hk : ∀ d, A.ints ⟨#[107, 101, 114, 110, 101, 108, 95, 115, 104, 97, 112, 101]⟩ d = A.ints ⟨#[107, 101, 114, 110, 101, 108, 95, 115, 104, 97, 112, 101]⟩ []) :
    Calls Tryz.prog 9 #[jaL n, .slice u.a u.n u.c] w (DoQ w (jpu (jbE 1) A T0.ty x xs)) := by
     refine jlD _ u _ w fun wx hx => jiN _ u _ _ wx (je2 (jpq _ _ _ _ (jnG _) (jlU _ _))) (fun l => jjF _) (fun wy hy => ?_) (fun wy ty dv l hy hr hd => ?_)
     ·have hg := jaa hx hy
      refine jdz n u [(T0, (x, xs))] _ wy (hv.more hg) (by simp) fun wz s vs hz hvs h1 h2 => ?_
      obtain ⟨v0, rfl, e0⟩ := jiH h1 h2
      have hgz := jaa hg hz
      have key := routG n A i1 s v0 x wz (hl.more hgz) (hni.more hgz) hck hth ho hvs (jlE v0.ty) (jbi A x) (fun hin wq hq => jpv n A s v0 x wq (by rw [hop]; simp) (hno.more (jaa hgz hq)) (hvs.more hq) hin) (fun hin wq hq => jhS n A s v0 x wq (by rw [hop]; simp) (hno.more (jaa hgz hq)) (hvs.more hq) (jaH (jqb hin).2))
      rw [e0] at key
      exact key
     ·have hg := jaa hx hy
      obtain ⟨hall, hr⟩ := jdC hr
      obtain ⟨c1, -, hp, c3⟩ := jnF hr
      simp only [tq, okT, List.all_cons, List.all_nil, Bool.and_true, beq_iff_eq] at hall
      obtain ⟨D0, D1, H, W, kh, kw, oh, ow, P⟩ := jnQ (jaH c1) hs hdl hpd hp
      have hxl := jg7 P.ex (jci hall).2
      have hle : xs.length ≤ 65536 := by have h1 := (jci hall).2; have h2 := (jaH c1).le; omega
      rw [jnR P]
      have hvy := hv.more hg
      rw [P.ex] at hvy
      rw [P.el] at hd
      exact jnN n A hop u T0 D0 D1 H W kh kw oh ow (D0 * D1) xs _ ty dv wy (hno.more hg) hvy hd (by rw [hk, P.ek]) hs hdl hpd rfl hxl (Nat.mul_le_mul P.d0 P.d1) P.e1 P.e2 P.k1 P.k2 P.o1 P.o2 hle
end Go.Proofs.YtkefdkboejimeaaGreatDoor
namespace Go.Proofs.YtkefdkboejimeaaGreatDoor
open Go.RowKit
theorem jnS (n : Nod) (A : At) (hop : n.op = ⟨#[67, 111, 110, 118]⟩) (u : Sl) (T0 T1 : Ten) (C M H W kh kw oh ow : Nat) (xs ys : List Int) (nam0 : ByteArray) (vty : Int) (dv : Sl) (w : World) (hno : NodeOk w n A) (hv : TensIn w u.v [(T0, ([1, (C : Int), H, W], xs)), (T1, ([(M : Int), C, kh, kw], ys))]) (hd : IsInts w dv.v [1, (M : Int), oh, ow]) (lx : xs.length = C * (H * W)) (ly : ys.length = (M * C) * (kh * kw)) (hgr : A.int ⟨#[103, 114, 111, 117, 112]⟩ 1 = 1) (hs : A.ints ⟨#[115, 116, 114, 105, 100, 101, 115]⟩ [1, 1] = [1, 1]) (hl : A.ints ⟨#[100, 105, 108, 97, 116, 105, 111, 110, 115]⟩ [1, 1] = [1, 1]) (hp : A.ints ⟨#[112, 97, 100, 115]⟩ [0, 0, 0, 0] = [0, 0, 0, 0]) (C1 : 1 ≤ C) (M1 : 1 ≤ M) (e1 : oh + kh = H + 1) (e2 : ow + kw = W + 1) (k1 : 1 ≤ kh) (k2 : 1 ≤ kw) (o1 : 1 ≤ oh) (o2 : 1 ≤ ow) (hbx : xs.length ≤ 65536) (hby : ys.length ≤ 65536) (hbo : M * (oh * ow) ≤ 65536) :
    Calls Tryz.prog 15 #[jaL n, .slice u.a u.n u.c, .agg #[.string nam0, .int .i64 vty, .slice dv.a dv.n dv.c]] w (EvQ w (.ok (jcd xs ys H W kh kw oh ow C M))) := by
     obtain ⟨za, zn, zc⟩ := dv
     have EC : Hid (∀ wx : World, w.grownBy wx none → Calls Tryz.prog 25 #[jaL n, .slice u.a u.n u.c, .slice za zn zc] wx fun e w' => ∃ s : Sl, e = .returned (.slice s.a s.n s.c) ∧ jaI w' wx.heap.size s.v (jcd xs ys H W kh kw oh ow C M) ∧ wx.grownBy w' none) := fun wx hx => jge n A u T0 T1 C M H W kh kw oh ow xs ys ⟨za, zn, zc⟩ wx (hno.more hx) (hv.more hx) (hd.more hx) lx ly hgr hs hl hp C1 M1 e1 e2 k1 k2 o1 o2 hbx hby hbo
     obtain ⟨R0, hR0⟩ : ∃ R0, R0 = (jcd xs ys H W kh kw oh ow C M) := ⟨_, rfl⟩
     simp only
     rw [← hR0] at EC ⊢
     obtain ⟨ua, un, uc⟩ := u
     obtain ⟨op, nam, ⟨ia, il, ic⟩, out, ⟨ao, al, cap⟩⟩ := n
     simp only at hop
     subst hop
     unfold jaL at EC ⊢
     simp only at EC ⊢
     obtain ⟨w0, hw0⟩ : ∃ w0, w0 = (w.alloc (.cells #[.string ⟨#[67, 111, 110, 118]⟩, .string nam, .slice ia il ic, .string out, .slice ao al cap] 35)).alloc (.cells #[.string nam0, .int .i64 vty, .slice za zn zc] 53) := ⟨_, rfl⟩
     have g0 : w.grownBy w0 none := by rw [hw0]; exact jaa (jab _ _) (jab _ _)
     have hbox := jax w (.cells #[.string ⟨#[67, 111, 110, 118]⟩, .string nam, .slice ia il ic, .string out, .slice ao al cap] 35) (.cells #[.string nam0, .int .i64 vty, .slice za zn zc] 53)
     rw [← hw0] at hbox
     obtain ⟨n0, n1, n2, n3, n4⟩ := jai (n := ⟨⟨#[67, 111, 110, 118]⟩, nam, ⟨ia, il, ic⟩, out, ⟨ao, al, cap⟩⟩) hbox.1
     obtain ⟨v0, v1, v2⟩ := jal hbox.2
     have EC2 := jae (EC.out w0 g0)
     have G0 := jae g0
     clear hbox hv hno hd lx ly hgr hs hl hp g0 hR0 v0 v1 EC
     rw [hw0] at n0 n1 n2 n3 n4 v2
     go_enter Tryz.func15, Tryz.ntmps15
     go_wp2_with fail
     rw [← hw0]
     clear hw0 n0 n1 n2 n3 n4 v2
     refine EC2.out.mono ?_
     rintro e w2 ⟨⟨sa, sn, sc⟩, rfl, os, g2⟩
     have hz := G0.out.size
     have OS := jae (show jaI w2 w.heap.size (Sl.v ⟨sa, sn, sc⟩) R0 from ⟨jbD os.1 hz, os.2⟩)
     have G2 := jae (jaa G0.out g2)
     clear os g2 hz
     go_wp2
     go_ret2
     exact ⟨G2.out, ⟨sa, sn, sc⟩, rfl, OS.out⟩
structure ConvD (x y l : List Int) (D0 C M H W kh kw oh ow : Nat) : Prop where
 ex : x = [(D0 : Int), C, H, W]
 ey : y = [(M : Int), C, kh, kw]
 el : l = [(D0 : Int), M, oh, ow]
 e1 : oh + kh = H + 1
 e2 : ow + kw = W + 1
 d0 : 1 ≤ D0
 c1 : 1 ≤ C
 m1 : 1 ≤ M
 k1 : 1 ≤ kh
 k2 : 1 ≤ kw
 o1 : 1 ≤ oh
 o2 : 1 ≤ ow
theorem jcX {x : List Int} (hf : Fine x) {k : Nat} (h : k < x.length) : 1 ≤ x.getD k 0 := hf.pos _ (by rw [List.getD, List.getElem?_eq_getElem h]; exact List.getElem_mem _)
theorem jiP {A : At} {x y l : List Int} (hf : Fine x) (hfy : Fine y) (hgr : A.int ⟨#[103, 114, 111, 117, 112]⟩ 1 = 1) (hs : A.ints ⟨#[115, 116, 114, 105, 100, 101, 115]⟩ [1, 1] = [1, 1]) (hl : A.ints ⟨#[100, 105, 108, 97, 116, 105, 111, 110, 115]⟩ [1, 1] = [1, 1]) (hp : A.ints ⟨#[112, 97, 100, 115]⟩ [0, 0, 0, 0] = [0, 0, 0, 0]) (h : jaK A x y none = .ok l) : ∃ D0 C M H W kh kw oh ow : Nat, ConvD x y l D0 C M H W kh kw oh ow := by
 unfold jaK at h
 rw [hgr] at h
 change (jaz (decide (x.length = 4 ∧ y.length = 4))).bind _ = _ at h
 obtain ⟨_, h1, h⟩ := jaG h
 have h4 := jd1 h1
 rw [decide_eq_true_eq] at h4
 obtain ⟨h4, h5⟩ := h4
 change (jaz true).bind _ = _ at h
 obtain ⟨_, -, h⟩ := jaG h
 change (jaz _).bind _ = _ at h
 obtain ⟨_, -, h⟩ := jaG h
 change (jaz (decide (x.getD 1 0 % 1 = 0 ∧ y.getD 0 0 % 1 = 0 ∧ x.getD 1 0 / 1 = y.getD 1 0))).bind _ = _ at h
 obtain ⟨_, h2, h⟩ := jaG h
 have h6 := jd1 h2
 rw [decide_eq_true_eq, Int.ediv_one] at h6
 have h7 := h6.2.2
 change (jay A x [y.getD 2 0, y.getD 3 0] 0).bind _ = _ at h
 obtain ⟨a, ha, h⟩ := jaG h
 change (jay A x [y.getD 2 0, y.getD 3 0] 1).bind _ = _ at h
 obtain ⟨b, hb, h⟩ := jaG h
 cases h
 obtain ⟨a1, a2⟩ := jc6 (.inl rfl) hs hl hp ha
 obtain ⟨b1, b2⟩ := jc6 (.inr rfl) hs hl hp hb
 simp only [Nat.reduceAdd, List.getD_cons_zero, List.getD_cons_succ] at a1 a2 b1 b2
 have p0 := jcX hf (k := 0) (by omega)
 have p1 := jcX hf (k := 1) (by omega)
 have q0 := jcX hfy (k := 0) (by omega)
 have q2 := jcX hfy (k := 2) (by omega)
 have q3 := jcX hfy (k := 3) (by omega)
 refine ⟨(x.getD 0 0).toNat, (x.getD 1 0).toNat, (y.getD 0 0).toNat, (x.getD 2 0).toNat, (x.getD 3 0).toNat, (y.getD 2 0).toNat, (y.getD 3 0).toNat, a.toNat, b.toNat, ?_⟩
 refine ⟨?_, ?_, ?_, by omega, by omega, by omega, by omega, by omega, by omega, by omega, by omega, by omega⟩
 ·rw [Int.toNat_of_nonneg (by omega), Int.toNat_of_nonneg (by omega), Int.toNat_of_nonneg (by omega), Int.toNat_of_nonneg (by omega)]
  exact je8 h4
 ·rw [Int.toNat_of_nonneg (by omega), Int.toNat_of_nonneg (by omega), Int.toNat_of_nonneg (by omega), Int.toNat_of_nonneg (by omega), h7]
  exact je8 h5
 ·rw [Int.toNat_of_nonneg (by omega), Int.toNat_of_nonneg (by omega), Int.toNat_of_nonneg (by omega), Int.toNat_of_nonneg (by omega)]
theorem jd8 (A : At) (x y : List Int) : Nz (jaK A x y none) := by
 intro c h
 unfold jaK at h
 change (jaz _).bind _ = _ at h
 rcases hq : jaz (decide (x.length = 4 ∧ y.length = 4)) with e | a
 ·rw [hq] at h; cases h; exact jb1 hq
 rw [hq] at h
 change (jaz true).bind _ = _ at h
 change (jaz (decide (1 ≤ A.int ⟨#[103, 114, 111, 117, 112]⟩ 1))).bind _ = _ at h
 rcases hq : jaz (decide (1 ≤ A.int ⟨#[103, 114, 111, 117, 112]⟩ 1)) with e | a
 ·rw [hq] at h; cases h; exact jb1 hq
 rw [hq] at h
 change (jaz _).bind _ = _ at h
 rcases hq : jaz (decide (x.getD 1 0 % A.int ⟨#[103, 114, 111, 117, 112]⟩ 1 = 0 ∧ y.getD 0 0 % A.int ⟨#[103, 114, 111, 117, 112]⟩ 1 = 0 ∧ x.getD 1 0 / A.int ⟨#[103, 114, 111, 117, 112]⟩ 1 = y.getD 1 0)) with e | a
 ·rw [hq] at h; cases h; exact jb1 hq
 rw [hq] at h
 change (jay A x [y.getD 2 0, y.getD 3 0] 0).bind _ = _ at h
 rcases hq : jay A x [y.getD 2 0, y.getD 3 0] 0 with e | a
 ·rw [hq] at h; cases h; exact jdK hq
 rw [hq] at h
 change (jay A x [y.getD 2 0, y.getD 3 0] 1).bind _ = _ at h
 rcases hq : jay A x [y.getD 2 0, y.getD 3 0] 1 with e | a
 ·rw [hq] at h; cases h; exact jdK hq
 rw [hq] at h
 cases h
def cvX (x y l xs ys : List Int) : List Int := jcd xs ys (x.getD 2 0).toNat (x.getD 3 0).toNat (y.getD 2 0).toNat (y.getD 3 0).toNat (l.getD 2 0).toNat (l.getD 3 0).toNat (x.getD 1 0).toNat (y.getD 0 0).toNat
theorem joi {x y l : List Int} {D0 C M H W kh kw oh ow : Nat} (h : ConvD x y l D0 C M H W kh kw oh ow) (xs ys : List Int) : cvX x y l xs ys = jcd xs ys H W kh kw oh ow C M := by
 obtain ⟨rfl, rfl, rfl, -, -, -, -, -, -, -, -, -⟩ := h
 unfold cvX
 simp only [List.getD_cons_zero, List.getD_cons_succ, Int.toNat_natCast]
def cvG (tx ty : Int) (x y xs ys : List Int) : R (Int × List Int × List Int) :=
 doR (jcC [tq tx x xs, tq ty y ys] (jly tx ty x y (jaK ⟨⟨#[67, 111, 110, 118]⟩, [], []⟩ x y none))) fun l => .ok (cvX x y l xs ys)
theorem coutA (out : ByteArray) (iv : Sl) (i1 i2 : ByteArray) (hck : jbl (jcf ⟨#[67, 111, 110, 118]⟩) ⟨#[67, 111, 110, 118]⟩ [i1, i2] out [] [] = 0) (ho : out.size ≤ 1048576) (u : Sl) (v0 v1 : Val) (x y : List Int) (w : World) (hl : Laid w) (hi : jb8 w iv.v [i1, i2]) (hv : ValsIn w u.v [(v0, x), (v1, y)]) :
    Calls Tryz.prog 53 #[jaL ⟨⟨#[67, 111, 110, 118]⟩, ⟨#[]⟩, iv, out, jbQ⟩, .slice u.a u.n u.c] w (jju out w (jly v0.ty v1.ty x y (jaK ⟨⟨#[67, 111, 110, 118]⟩, [], []⟩ x y none))) := by
     refine jf0 ⟨⟨#[67, 111, 110, 118]⟩, ⟨#[]⟩, iv, out, jbQ⟩ u _ w fun wx hx => ?_
     have key := jcB ⟨⟨#[67, 111, 110, 118]⟩, ⟨#[]⟩, iv, out, jbQ⟩ ⟨⟨#[67, 111, 110, 118]⟩, [], []⟩ [i1, i2] u [(v0, x), (v1, y)] wx (hl.more hx) (jh2 wx ⟨#[67, 111, 110, 118]⟩ out iv _ (hi.more hx)) (hv.more hx) (by show out.size ≤ _; omega) _ _ (fun hc hll hin wy hy => ((jdX ⟨⟨#[67, 111, 110, 118]⟩, ⟨#[]⟩, iv, out, jbQ⟩ ⟨⟨#[67, 111, 110, 118]⟩, [], []⟩ u [(v0, x), (v1, y)] wy (by simp) (jcV wy ⟨#[67, 111, 110, 118]⟩ out iv) (hv.more (jaa hx hy)) (by simp) (by simp) (jpC hin).1).mono fun e w' he => jbq he fun t v e1 e2 => ⟨e2, by
      obtain ⟨_, -, e1⟩ := jaG e1
      obtain ⟨_, -, e1⟩ := jaG e1
      cases e1
      rfl⟩)) (fun hc hll hin wy hy => jlT ⟨⟨#[67, 111, 110, 118]⟩, ⟨#[]⟩, iv, out, jbQ⟩ ⟨⟨#[67, 111, 110, 118]⟩, [], []⟩ u (v0, x) (v1, y) [] wy rfl (jcV wy ⟨#[67, 111, 110, 118]⟩ out iv) (hv.more (jaa hx hy)) (by simp) (fun p hp => by
       simp only [List.mem_cons, List.not_mem_nil, or_false] at hp
       rcases hp with rfl | rfl
       ·exact jaH (jpC hin).2.1
       ·exact jaH (jpC hin).2.2))
     rw [show jbl (jcf (Nod.op ⟨⟨#[67, 111, 110, 118]⟩, ⟨#[]⟩, iv, out, jbQ⟩)) (Nod.op ⟨⟨#[67, 111, 110, 118]⟩, ⟨#[]⟩, iv, out, jbQ⟩) [i1, i2] (Nod.out ⟨⟨#[67, 111, 110, 118]⟩, ⟨#[]⟩, iv, out, jbQ⟩) (At.xs ⟨⟨#[67, 111, 110, 118]⟩, [], []⟩) (At.cs ⟨⟨#[67, 111, 110, 118]⟩, [], []⟩) = 0 from hck] at key
     have e := job v0 v1 x y (jaK ⟨⟨#[67, 111, 110, 118]⟩, [], []⟩ x y none)
     refine key.mono fun e' w' he => ?_
     rw [← e]
     exact jbq he fun r v _ e2 => e2
theorem joj (out : ByteArray) (iv : Sl) (i1 i2 : ByteArray) (hck : jbl (jcf ⟨#[67, 111, 110, 118]⟩) ⟨#[67, 111, 110, 118]⟩ [i1, i2] out [] [] = 0) (ho : out.size ≤ 1048576) (u : Sl) (T0 T1 : Ten) (x y xs ys : List Int) (w : World) (hl : Laid w) (hi : jb8 w iv.v [i1, i2]) (hv : TensIn w u.v [(T0, (x, xs)), (T1, (y, ys))]) (hx0 : x.getD 0 0 = 1) :
    Calls Tryz.prog 9 #[jaL ⟨⟨#[67, 111, 110, 118]⟩, ⟨#[]⟩, iv, out, jbQ⟩, .slice u.a u.n u.c] w (DoQ w (cvG T0.ty T1.ty x y xs ys)) := by
     refine jlD _ u _ w fun wx hx => jiN _ u _ _ wx (je2 (jh4 _ _ _ _ _ (jd8 _ _ _))) (fun l => jjF _) (fun wy hy => ?_) (fun wy ty dv l hy hr hd => ?_)
     ·refine jdz ⟨⟨#[67, 111, 110, 118]⟩, ⟨#[]⟩, iv, out, jbQ⟩ u [(T0, (x, xs)), (T1, (y, ys))] _ wy (hv.more (jaa hx hy)) (by simp) fun wz s vs hz hvs h1 h2 => ?_
      obtain ⟨v0, v1, rfl, e0, e1⟩ := jg0 h1 h2
      have key := coutA out iv i1 i2 hck ho s v0 v1 x y wz (hl.more (jaa (jaa hx hy) hz)) (hi.more (jaa (jaa hx hy) hz)) hvs
      rw [e0, e1] at key
      exact key
     ·have hvy := hv.more (jaa hx hy)
      obtain ⟨hall, hr⟩ := jdC hr
      obtain ⟨-, -, -, cx, cy, hp, cl⟩ := jf9 hr
      simp only [tq, okT, List.all_cons, List.all_nil, Bool.and_true, Bool.and_eq_true, beq_iff_eq] at hall
      obtain ⟨D0, C, M, H, W, kh, kw, oh, ow, P⟩ := jiP (jaH cx) (jaH cy) (by kernel_rfl) (by kernel_rfl) (by kernel_rfl) (by kernel_rfl) hp
      have lx := jg7 P.ex (jci hall.1).2
      have ly := jg7 P.ey (jci hall.2).2
      have hbx : xs.length ≤ 65536 := by have h1 := (jci hall.1).2; have h2 := (jaH cx).le; omega
      have hby : ys.length ≤ 65536 := by have h1 := (jci hall.2).2; have h2 := (jaH cy).le; omega
      have D1 : D0 = 1 := by
       have h9 := hx0
       rw [P.ex] at h9
       simp only [List.getD_cons_zero] at h9
       omega
      subst D1
      have hbo : M * (oh * ow) ≤ 65536 := by
       have h2 := (jaH cl).le
       rw [P.el] at h2
       have e : jaF [((1 : Nat) : Int), M, oh, ow] = ((M * (oh * ow) : Nat) : Int) := by simp [jaF]
       rw [e] at h2
       omega
      rw [Nat.one_mul] at lx
      rw [joi P]
      rw [P.ex, P.ey] at hvy
      rw [P.el] at hd
      exact jnS ⟨⟨#[67, 111, 110, 118]⟩, ⟨#[]⟩, iv, out, jbQ⟩ ⟨⟨#[67, 111, 110, 118]⟩, [], []⟩ rfl u T0 T1 C M H W kh kw oh ow xs ys _ ty dv wy (jcV wy ⟨#[67, 111, 110, 118]⟩ out iv) hvy hd lx ly (by kernel_rfl) (by kernel_rfl) (by kernel_rfl) (by kernel_rfl) P.c1 P.m1 P.e1 P.e2 P.k1 P.k2 P.o1 P.o2 hbx hby hbo
end Go.Proofs.YtkefdkboejimeaaGreatDoor
namespace Go.Proofs.YtkefdkboejimeaaGreatDoor
theorem jnT (W h v : Nat) : wpl W 1 1 h v = [(0, h * W + v)] := by
 simp [wpl]
theorem jfA : ∀ (a b : List Int) (s x y : Int), a.length = b.length → jcI s (a ++ [x]) (b ++ [y]) = jdR (jcI s a b) (jht x y)
 | [], [], _, _, _, _ => rfl
 | [], _ :: _, _, _, _, h => by cases h
 | _ :: _, [], _, _, _, h => by cases h
 | p :: a, q :: b, s, x, y, h => by
  show jcI (jdR s (jht p q)) (a ++ [x]) (b ++ [y]) = jdR (jcI (jdR s (jht p q)) a b) (jht x y)
  exact jfA a b _ x y (Nat.succ.inj h)
def jpw (xs : List Int) (S p k : Nat) : List Int := (List.range k).map fun c => xs.getD (c * S + p) 0
def jlV (ys : List Int) (C m k : Nat) : List Int := (List.range k).map fun c => ys.getD (m * C + c) 0
theorem jg8 (xs ys : List Int) (S C m p : Nat) (hp : p < S) : ∀ k, k ≤ C → jcg (jbp xs S C) (jcD ys 1 C m) [(0, p)] k = jcI 0 (jpw xs S p k) (jlV ys C m k)
 | 0, _ => rfl
 | k + 1, hk => by
  have ih := jg8 xs ys S C m p hp k (by omega)
  have e1 : (jbp xs S C).getD k [] = jdT xs S k := by simp [jbp, List.getD, show k < C by omega]
  have e2 : (jcD ys 1 C m).getD k [] = jdT ys 1 (m * C + k) := by simp [jcD, List.getD, show k < C by omega]
  have e3 : jpw xs S p (k + 1) = jpw xs S p k ++ [xs.getD (k * S + p) 0] := by simp [jpw, List.range_succ]
  have e4 : jlV ys C m (k + 1) = jlV ys C m k ++ [ys.getD (m * C + k) 0] := by simp [jlV, List.range_succ]
  rw [e3, e4, jfA _ _ _ _ _ (by simp [jpw, jlV]), ← ih]
  show jdR (jcg (jbp xs S C) (jcD ys 1 C m) [(0, p)] k) (jht (((jbp xs S C).getD k []).getD p 0) (((jcD ys 1 C m).getD k []).getD 0 0)) = _
  rw [e1, e2, jkg hp, jkg (by omega), Nat.mul_one, Nat.add_zero]
theorem jg9 (g : Nat → Int) (W : Nat) : ∀ H, jbG (fun h v => g (h * W + v)) H W = (List.range (H * W)).map g
 | 0 => by simp [jbG]
 | H + 1 => by
  have ih := jg9 g W H
  have e : jbG (fun h v => g (h * W + v)) (H + 1) W = jbG (fun h v => g (h * W + v)) H W ++ (List.range W).map (fun v => g (H * W + v)) := by simp [jbG, List.range_succ]
  rw [e, ih, Nat.succ_mul, List.range_add, List.map_append, List.map_map]
  rfl
theorem jh8 {f g : Nat → Nat → Int} {oh ow : Nat} (h : ∀ i k, i < oh → k < ow → f i k = g i k) : jbG f oh ow = jbG g oh ow := by
 unfold jbG
 refine congrArg List.flatten (List.map_congr_left fun i hi => List.map_congr_left fun k hk => ?_)
 exact h i k (List.mem_range.1 hi) (List.mem_range.1 hk)
theorem jqf (xs ys : List Int) (P C M p m : Nat) (hp : p < P) (hm : m < M) : (jeB xs ys 1 P C M).getD (p * M + m) 0 = jcI 0 ((xs.drop (p * C)).take C) ((ys.drop (m * C)).take C) := by
 rw [jkb]
 have h := joB (blk xs 0 P C) (blk ys 0 M C) p (by rw [jaR]; exact hp)
 rw [jaR, joC _ _ _ _ _ hp] at h
 have e1 : (((tms (blk xs 0 P C) (blk ys 0 M C)).drop (p * M)).take M).getD m 0 = (tms (blk xs 0 P C) (blk ys 0 M C)).getD (p * M + m) 0 := by
  simp only [List.getD]
  rw [List.getElem?_take_of_lt hm, List.getElem?_drop]
 rw [← e1, h]
 simp [blk, List.getD, hm]
theorem jlW {ys : List Int} {C M m : Nat} (hl : ys.length = M * C) (hm : m < M) : (ys.drop (m * C)).take C = jlV ys C m C := by
 have h2 := Nat.mul_le_mul_right C hm
 rw [Nat.succ_mul] at h2
 refine List.ext_getElem (by simp [jlV]; omega) fun i h1 h3 => ?_
 have hi : i < C := by simp [jlV] at h3; exact h3
 simp [jlV, List.getD, show m * C + i < ys.length by omega]
theorem jh9 (xs ys : List Int) (H W C M : Nat) (hl : ys.length = M * C) : jcd xs ys H W 1 1 H W C M = trn (H * W) M (jeB (trn C (H * W) xs) (trn C M (trn M C ys)) 1 (H * W) C M) := by
 rw [joD M C ys hl]
 unfold jcd trn
 refine congrArg List.flatten (List.map_congr_left fun m hm => ?_)
 have hm := List.mem_range.1 hm
 rw [jh8 (g := fun h v => (fun p => jcI 0 (jpw xs (H * W) p C) (jlV ys C m C)) (h * W + v)) (fun h v hh hv => ?_), jg9 (fun p => jcI 0 (jpw xs (H * W) p C) (jlV ys C m C)) W H]
 ·refine List.map_congr_left fun p hp => ?_
  have hp := List.mem_range.1 hp
  show _ = (jeB (trn C (H * W) xs) ys 1 (H * W) C M).getD (p * M + m) 0
  rw [jqf _ _ _ _ _ _ _ hp hm, jkc _ _ _ _ hp, jlW hl hm]
  rfl
 ·rw [jnT, jg8 xs ys (H * W) C m (h * W + v) ?_ C (Nat.le_refl _)]
  have h2 := Nat.mul_le_mul_right W hh
  rw [Nat.succ_mul] at h2
  omega
end Go.Proofs.YtkefdkboejimeaaGreatDoor
namespace Go.Proofs.YtkefdkboejimeaaGreatDoor
theorem jlX {k b : Nat} {xs : List Int} (cx : ja3 [(k : Int), (b : Int)] = 0) (cl : ja3 [(b : Int), (k : Int)] = 0) (px : pbE 1 [(k : Int), (b : Int)] xs = 0) : trR 1 [(k : Int), (b : Int)] xs = .ok (1, [(b : Int), (k : Int)], trn k b xs) := by
 have hn : jcC [tq 1 [(k : Int), (b : Int)] xs] (jl0 1 [(k : Int), (b : Int)] (jaQ ⟨⟨#[84, 114, 97, 110, 115, 112, 111, 115, 101]⟩, [], []⟩ [(k : Int), (b : Int)])) = .ok (1, [(b : Int), (k : Int)]) := by
  unfold jcC
  rw [if_pos (by simp [tq, okT, px]), je3]
  unfold jl0
  rw [show ja9 [(k : Int), (b : Int)] = .ok (jaF [(k : Int), (b : Int)]) from if_pos cx]
  show (Except.bind (ja9 [(b : Int), (k : Int)]) fun _ => (Except.ok (1, [(b : Int), (k : Int)]) : R (Int × List Int))) = _
  rw [show ja9 [(b : Int), (k : Int)] = .ok (jaF [(b : Int), (k : Int)]) from if_pos cl]
  rfl
 unfold trR doR
 rw [hn]
 simp only [jod cx (jci px).2, Except.map]
theorem jd3 {a b : Nat} (ha : 1 ≤ a) (hb : 1 ≤ b) (h : a * b ≤ 65536) : ja3 [(a : Int), (b : Int)] = 0 := by
 refine jhg (fun z hz => ?_) (by simp) ?_
 ·simp only [List.mem_cons, List.not_mem_nil, or_false] at hz
  rcases hz with rfl | rfl <;> omega
 ·have e : jaF [(a : Int), (b : Int)] = ((a * b : Nat) : Int) := by simp [jaF]
  rw [e]
  omega
theorem jha {a b : Nat} {xs : List Int} (hc : ja3 [(a : Int), (b : Int)] = 0) (hl : xs.length = a * b) (ha : ∀ z ∈ xs, Nu.chk 1 z = true) : pbE 1 [(a : Int), (b : Int)] xs = 0 := by
 refine pb_mk hc ?_ (List.all_eq_true.2 ha)
 rw [hl]
 simp [jaF]
theorem jlY {k b : Nat} {xs : List Int} (h : ∀ z ∈ xs, Nu.chk 1 z = true) : ∀ z ∈ trn k b xs, Nu.chk 1 z = true := by
 intro z hz
 unfold trn at hz
 obtain ⟨j, -, hz⟩ := List.mem_flatMap.1 hz
 obtain ⟨i, -, rfl⟩ := List.mem_map.1 hz
 by_cases hi : i * b + j < xs.length
 ·rw [List.getD, List.getElem?_eq_getElem hi, Option.getD_some]
  exact h _ (List.getElem_mem _)
 ·rw [List.getD, List.getElem?_eq_none (by omega)]
  decide
theorem jhb {xs ys : List Int} {C M H W P : Nat} (hP : P = H * W) (C1 : 1 ≤ C) (M1 : 1 ≤ M) (P1 : 1 ≤ P) (b1 : C * P ≤ 65536) (b2 : M * C ≤ 65536) (b3 : M * P ≤ 65536) (lx : xs.length = C * P) (ly : ys.length = M * C) (hx : ∀ z ∈ xs, Nu.chk 1 z = true) (hy : ∀ z ∈ ys, Nu.chk 1 z = true) :
    ∃ B : List Int, trR 1 [(C : Int), (P : Int)] xs = .ok (1, [(P : Int), (C : Int)], trn C P xs) ∧ trR 1 [(M : Int), (C : Int)] ys = .ok (1, [(C : Int), (M : Int)], trn M C ys) ∧ mmR 1 1 [(P : Int), (C : Int)] [(C : Int), (M : Int)] (trn C P xs) (trn M C ys) = .ok (1, [(P : Int), (M : Int)], B) ∧ trR 1 [(P : Int), (M : Int)] B = .ok (1, [(M : Int), (P : Int)], jcd xs ys H W 1 1 H W C M) := by
     have c1 := jd3 C1 P1 b1
     have c2 := jd3 P1 C1 (by rw [Nat.mul_comm]; exact b1)
     have c3 := jd3 M1 C1 b2
     have c4 := jd3 C1 M1 (by rw [Nat.mul_comm]; exact b2)
     have c5 := jd3 M1 P1 b3
     have c6 := jd3 P1 M1 (by rw [Nat.mul_comm]; exact b3)
     have lt : (trn M C ys).length = C * M := jc1 _ _ _
     refine ⟨jeB (trn C P xs) (ytL [(C : Int), (M : Int)] (trn M C ys)) 1 P C M, jlX c1 c2 (jha c1 lx hx), jlX c3 c4 (jha c3 ly hy), mm_ok ⟨rfl, rfl, by simp, c2, c4, c6⟩ (jha c2 (jc1 _ _ _) (jlY hx)) (jha c4 lt (jlY hy)), ?_⟩
     have lm : (jeB (trn C P xs) (ytL [(C : Int), (M : Int)] (trn M C ys)) 1 P C M).length = P * M := by rw [jkb, jbL, jaR, jaR]
     rw [jlX c6 c5 (jha c6 lm (fun z hz => (jka _ _ _ _ _ _ z hz).1)), jod c4 (by rw [lt]; simp [jaF]), jh9 xs ys H W C M ly, hP]
theorem je9 {tx ty t : Int} {x y xs ys l zs : List Int} (hx0 : x.getD 0 0 = 1) (hy2 : y.getD 2 0 = 1) (hy3 : y.getD 3 0 = 1) (h : cvG tx ty x y xs ys = .ok (t, l, zs)) :
    ∃ (C M H W P : Nat) (B : List Int), x = [1, (C : Int), H, W] ∧ y = [(M : Int), C, 1, 1] ∧ tx = 1 ∧ ty = 1 ∧ P = H * W ∧ P ≤ 65536 ∧ xs.length = C * P ∧ ys.length = M * C ∧ zs.length = M * P ∧ trR 1 [(C : Int), (P : Int)] xs = .ok (1, [(P : Int), (C : Int)], trn C P xs) ∧ trR 1 [(M : Int), (C : Int)] ys = .ok (1, [(C : Int), (M : Int)], trn M C ys) ∧ mmR 1 1 [(P : Int), (C : Int)] [(C : Int), (M : Int)] (trn C P xs) (trn M C ys) = .ok (1, [(P : Int), (M : Int)], B) ∧ trR 1 [(P : Int), (M : Int)] B = .ok (1, [(M : Int), (P : Int)], zs) := by
     unfold cvG doR at h
     split at h
     ·rename_i ty' l' hn
      obtain ⟨hall, ho⟩ := jdC hn
      obtain ⟨-, rfl, rfl, cx, cy, hp, cl⟩ := jf9 ho
      cases h
      simp only [tq, okT, List.all_cons, List.all_nil, Bool.and_true, Bool.and_eq_true, beq_iff_eq] at hall
      obtain ⟨D0, C, M, H, W, kh, kw, oh, ow, Q⟩ := jiP (jaH cx) (jaH cy) (by kernel_rfl) (by kernel_rfl) (by kernel_rfl) (by kernel_rfl) hp
      have lx := jg7 Q.ex (jci hall.1).2
      have ly := jg7 Q.ey (jci hall.2).2
      have hbx : xs.length ≤ 65536 := by have h1 := (jci hall.1).2; have h2 := (jaH cx).le; omega
      have hby : ys.length ≤ 65536 := by have h1 := (jci hall.2).2; have h2 := (jaH cy).le; omega
      have h2 := (jaH cl).le
      rw [Q.ex] at hx0
      rw [Q.ey] at hy2 hy3
      simp only [List.getD_cons_zero, List.getD_cons_succ] at hx0 hy2 hy3
      obtain rfl : D0 = 1 := by omega
      obtain rfl : kh = 1 := by omega
      obtain rfl : kw = 1 := by omega
      obtain rfl : oh = H := by have := Q.e1; omega
      obtain rfl : ow = W := by have := Q.e2; omega
      rw [Q.el, show jaF [((1 : Nat) : Int), M, oh, ow] = ((M * (oh * ow) : Nat) : Int) from by simp [jaF]] at h2
      rw [Nat.one_mul] at lx
      rw [Nat.mul_one] at ly
      have P1 : 1 ≤ oh * ow := Nat.mul_le_mul Q.o1 Q.o2
      rw [joi Q]
      obtain ⟨B, r1, r2, r3, r4⟩ := jhb (H := oh) (W := ow) rfl Q.c1 Q.m1 P1 (by omega) (by omega) (by omega) lx ly (List.all_eq_true.1 (jiK hall.1).2) (List.all_eq_true.1 (jiK hall.2).2)
      exact ⟨C, M, oh, ow, oh * ow, B, Q.ex, Q.ey, rfl, rfl, rfl, by have h9 := Nat.le_mul_of_pos_left (oh * ow) Q.c1; omega, lx, ly, by rw [je6], r1, r2, r3, r4⟩
     ·cases h
end Go.Proofs.YtkefdkboejimeaaGreatDoor
