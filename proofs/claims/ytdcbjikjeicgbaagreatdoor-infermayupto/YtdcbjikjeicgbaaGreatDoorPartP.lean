/- Joined texts: IConvD, IAll, IOpen, GLit, ILive, IErr. -/
import Derived.Test.YtdcbjikjeicgbaaGreatDoorIConv2J
import Derived.Test.YtdcbjikjeicgbaaGreatDoorIConv3J
import Derived.Test.YtdcbjikjeicgbaaGreatDoorPartL
import Derived.Test.YtdcbjikjeicgbaaGreatDoorITyJ
import Derived.Test.YtdcbjikjeicgbaaGreatDoorITy2J
import Derived.Test.YtdcbjikjeicgbaaGreatDoorIDmJ
import Derived.Test.YtdcbjikjeicgbaaGreatDoorPartO
import Derived.Test.YtdcbjikjeicgbaaGreatDoorPartN
import Derived.Test.YtdcbjikjeicgbaaGreatDoorPartE
import Derived.Test.YtdcbjikjeicgbaaGreatDoorPartF
/- The dims of a Conv. -/
namespace Go.Proofs.YtdcbjikjeicgbaaGreatDoor
open Go.RowKit

set_option maxRecDepth 100000 in
set_option maxHeartbeats 4000000 in
theorem convl_any (n : Nod) (A : At) (u : Sl) (p0 p1 : Val × List Int) (rest : List (Val × List Int)) (w : World) (hn : NodeOk w n A) (hv : ValsIn w u.v (p0 :: p1 :: rest)) (hl : ¬ (p0.2.length = 4 ∧ p1.2.length = 4)) : Calls Tryz.prog 114 #[nval n, .slice u.a u.n u.c] w (Ended w (.error 4 : R (List Int)) DimsQ) := by
  obtain ⟨xa, xc, e1, q1, q2, q3⟩ := hv.vals.form
  rw [List.length_map] at e1 q1 q3
  obtain ⟨ua, un, uc⟩ := u
  simp only [Sl.v, Value.slice.injEq] at e1
  obtain ⟨rfl, rfl, rfl⟩ := e1
  obtain ⟨b, off, rfl⟩ := hv.vals.addr (k := 0) (by simp)
  obtain ⟨-, z0⟩ := hv.at 0 (by simp)
  obtain ⟨-, z1⟩ := hv.at 1 (by simp)
  rw [Nat.zero_mul, Nat.add_zero] at z0
  simp only [List.getElem_cons_zero, List.getElem_cons_succ, Nat.one_mul] at z0 z1
  have HX := hide (hv.dims p0 (by simp))
  have HK := hide (hv.dims p1 (by simp))
  obtain ⟨⟨vn0, vt0, ⟨d0a, d0n, d0c⟩⟩, x⟩ := p0
  obtain ⟨⟨vn1, vt1, ⟨d1a, d1n, d1c⟩⟩, k⟩ := p1
  simp only at z0 z1 HX HK hl
  obtain ⟨xx, xcc, ex, f1, f2, f3⟩ := HX.out.sl
  simp only [Sl.v, Value.slice.injEq] at ex
  obtain ⟨rfl, rfl, rfl⟩ := ex
  obtain ⟨kx, kcc, ek, g1, g2, g3⟩ := HK.out.sl
  simp only [Sl.v, Value.slice.injEq] at ek
  obtain ⟨rfl, rfl, rfl⟩ := ek
  obtain ⟨m, hm⟩ : ∃ m, m = ((((⟨vn0, vt0, ⟨d0a, x.length, d0c⟩⟩, x) : Val × List Int) :: (⟨vn1, vt1, ⟨d1a, k.length, d1c⟩⟩, k) :: rest) : List (Val × List Int)).length := ⟨_, rfl⟩
  have hm0 : 0 < m := by rw [hm]; simp
  have hm1 : 1 < m := by rw [hm]; simp
  have hm0' : (0 : Int) < (m : Int) := by omega
  have hm1' : (1 : Int) < (m : Int) := by omega
  rw [← hm] at q1 q3 ⊢
  have Z0 := hide z0
  have Z1 := hide z1
  clear hv z0 z1 hm
  have NK := hide hn
  obtain ⟨op, nam, ⟨ia, il, ic⟩, out, ⟨ao, al, cap⟩⟩ := n
  unfold nval
  simp only
  obtain ⟨w0, hw0⟩ : ∃ w0, w0 = w.alloc (.cells #[.string op, .string nam, .slice ia il ic, .string out, .slice ao al cap] 25) := ⟨_, rfl⟩
  have g0 : Hid (w.grownBy w0 none) := by show w.grownBy w0 none; rw [hw0]; exact grown_new _ _
  have hb0 := heap_alloc_new w (.cells #[.string op, .string nam, .slice ia il ic, .string out, .slice ao al cap] 25)
  rw [← hw0] at hb0
  have BX : Hid (∀ wx, w0.grownBy wx none → wx.heap[w.heap.size]? = some (.cells #[.string op, .string nam, .slice ia il ic, .string out, .slice ao al cap] 25 (0, 0))) := fun wx hg => box_kept hb0 hg
  clear hb0 hn
  have y0 := cell_still Z0.out g0.out
  have y1 := cell_still Z1.out g0.out
  by_cases hx4 : x.length = 4
  · have bx : ((x.length : Int) == 4) = true := by simp [hx4]
    have bk : ((k.length : Int) == 4) = false := by simpa using (fun h => hl ⟨hx4, by omega⟩ : ¬ (k.length : Int) = 4)
    clear hl hx4
    go_enter Tryz.func114, Tryz.ntmps114
    go_wp2_with fail
    rw [← hw0]
    clear hw0
    go_quiet (fail)
    go_wp2_with (first | (go_at_call 45; refine (must_no _).mono ?_; rintro e w' ⟨rfl, rfl⟩) | fail)
    exact ⟨rfl, ended_err rfl (grown_drewQ g0.out _)⟩
  · have bx : ((x.length : Int) == 4) = false := by simpa using (fun h => hx4 (by omega) : ¬ (x.length : Int) = 4)
    clear hl hx4
    go_enter Tryz.func114, Tryz.ntmps114
    go_wp2_with fail
    rw [← hw0]
    clear hw0
    go_quiet (fail)
    go_wp2_with (first | (go_at_call 45; refine (must_no _).mono ?_; rintro e w' ⟨rfl, rfl⟩) | fail)
    exact ⟨rfl, ended_err rfl (grown_drewQ g0.out _)⟩

theorem convP_bad {A : At} {x k : List Int} {z : Option (List Int)} (h : ¬ (x.length = 4 ∧ k.length = 4)) : convolvedP A x k z = .error 4 := by
  unfold convolvedP
  rw [decide_eq_false h]
  rfl

theorem convP_two {A : At} {x k : List Int} (h : x.length = 4 ∧ k.length = 4) : convolvedP A x k none = convT A x k := by
  unfold convolvedP
  rw [decide_eq_true h]
  rfl

theorem convP_three {A : At} {x k z : List Int} (h : x.length = 4 ∧ k.length = 4) (hz : z.length = 1 ∧ z.getD 0 0 = k.getD 0 0) : convolvedP A x k (some z) = convT A x k := by
  unfold convolvedP
  simp only
  rw [decide_eq_true h, decide_eq_true hz]
  rfl

theorem convP_third {A : At} {x k z : List Int} (h : x.length = 4 ∧ k.length = 4) (hz : ¬ (z.length = 1 ∧ z.getD 0 0 = k.getD 0 0)) : convolvedP A x k (some z) = .error 4 := by
  unfold convolvedP
  simp only
  rw [decide_eq_true h, decide_eq_false hz]
  rfl

theorem conv_any (n : Nod) (A : At) (u : Sl) (p0 p1 : Val × List Int) (rest : List (Val × List Int)) (w : World) (hn : NodeOk w n A) (hv : ValsIn w u.v (p0 :: p1 :: rest)) (hr : rest.length ≤ 1) (hf : ∀ p ∈ p0 :: p1 :: rest, Fine p.2) : Calls Tryz.prog 114 #[nval n, .slice u.a u.n u.c] w (Ended w (convolvedP A p0.2 p1.2 (rest.head?.map (·.2))) DimsQ) := by
  by_cases h4 : p0.2.length = 4 ∧ p1.2.length = 4
  · match rest, hr with
    | [], _ =>
      show Calls _ _ _ _ (Ended w (convolvedP A p0.2 p1.2 none) DimsQ)
      rw [convP_two h4]
      exact conv2_any n A u p0 p1 w hn hv h4.1 h4.2 (hf p0 (by simp)) (hf p1 (by simp))
    | [p2], _ =>
      show Calls _ _ _ _ (Ended w (convolvedP A p0.2 p1.2 (some p2.2)) DimsQ)
      by_cases hz : p2.2.length = 1 ∧ p2.2.getD 0 0 = p1.2.getD 0 0
      · rw [convP_three h4 hz]
        exact conv3_any n A u p0 p1 p2 w hn hv h4.1 h4.2 (hf p0 (by simp)) (hf p1 (by simp)) hz
      · rw [convP_third h4 hz]
        exact convz_any n A u p0 p1 p2 w hn hv h4.1 h4.2 hz
  · rw [convP_bad h4]
    exact convl_any n A u p0 p1 rest w hn hv h4

set_option maxRecDepth 100000 in
set_option maxHeartbeats 4000000 in
theorem dims_Conv (n : Nod) (A : At) (u : Sl) (p0 p1 : Val × List Int) (rest : List (Val × List Int)) (w : World) (hop : n.op = ⟨#[67, 111, 110, 118]⟩) (hn : NodeOk w n A) (hv : ValsIn w u.v (p0 :: p1 :: rest)) (hr : rest.length ≤ 1) (hf : ∀ p ∈ p0 :: p1 :: rest, Fine p.2) : Calls Tryz.prog 49 #[nval n, .slice u.a u.n u.c] w (Ended w (convolvedP A p0.2 p1.2 (rest.head?.map (·.2))) DimsQ) := by
  obtain ⟨xa, xc, e1, q1, q2, q3⟩ := hv.vals.form
  rw [List.length_map] at e1 q1 q3
  obtain ⟨ua, un, uc⟩ := u
  simp only [Sl.v, Value.slice.injEq] at e1
  obtain ⟨rfl, rfl, rfl⟩ := e1
  obtain ⟨b, off, rfl⟩ := hv.vals.addr (k := 0) (by simp)
  obtain ⟨-, z0⟩ := hv.at 0 (by simp)
  rw [Nat.zero_mul, Nat.add_zero] at z0
  simp only [List.getElem_cons_zero] at z0
  have HV := hide hv
  have HF := hide hf
  clear hf
  obtain ⟨⟨vn0, vt0, ⟨d0a, d0n, d0c⟩⟩, x⟩ := p0
  simp only at z0
  have Z0 := hide z0
  obtain ⟨m, hm⟩ : ∃ m, m = ((((⟨vn0, vt0, ⟨d0a, d0n, d0c⟩⟩, x) : Val × List Int) :: p1 :: rest) : List (Val × List Int)).length := ⟨_, rfl⟩
  have hm0 : 0 < m := by rw [hm]; simp
  have hm0' : (0 : Int) < (m : Int) := by omega
  have HM := hide hm
  rw [← hm] at q1 q3 ⊢
  clear hv z0 hm
  have NK := hide hn
  obtain ⟨op, nam, ⟨ia, il, ic⟩, out, ⟨ao, al, cap⟩⟩ := n
  unfold nval
  simp only
  obtain ⟨w0, hw0⟩ : ∃ w0, w0 = w.alloc (.cells #[.string op, .string nam, .slice ia il ic, .string out, .slice ao al cap] 25) := ⟨_, rfl⟩
  have g0 : Hid (w.grownBy w0 none) := by show w.grownBy w0 none; rw [hw0]; exact grown_new _ _
  have hb0 := heap_alloc_new w (.cells #[.string op, .string nam, .slice ia il ic, .string out, .slice ao al cap] 25)
  rw [← hw0] at hb0
  have BX : Hid (∀ wx, w0.grownBy wx none → wx.heap[w.heap.size]? = some (.cells #[.string op, .string nam, .slice ia il ic, .string out, .slice ao al cap] 25 (0, 0))) := fun wx hg => box_kept hb0 hg
  clear hb0 hn
  simp only at hop
  subst hop
  have z0 : (w.alloc (.cells #[.string ⟨#[67, 111, 110, 118]⟩, .string nam, .slice ia il ic, .string out, .slice ao al cap] 25)).cell? ⟨b, off + 2, none⟩ = some (.slice d0a d0n d0c) := cell_still Z0.out (grown_new _ _)
  have C := hide (conv_any ⟨⟨#[67, 111, 110, 118]⟩, nam, ⟨ia, il, ic⟩, out, ⟨ao, al, cap⟩⟩ A ⟨some ⟨b, off, none⟩, m, uc⟩ _ p1 rest w0 (NK.out.more g0.out) (by rw [HM.out]; exact HV.out.more g0.out) hr HF.out)
  unfold nval at C
  simp only at C
  go_enter Tryz.func49, Tryz.ntmps49
  go_wp2_with fail
  rw [← hw0]
  clear hw0
  cases hk : convolvedP A x p1.2 (rest.head?.map (·.2)) with
  | error c =>
    rw [hk] at C
    have HK := hide hk
    clear hk
    refine C.out.mono ?_
    rintro e w' ⟨hg, rfl⟩
    exact ⟨rfl, ended_err (by first | exact HK.out | rfl) (grown_trans g0.out hg)⟩
  | ok zs =>
    rw [hk] at C
    have HK := hide hk
    clear hk
    refine C.out.mono ?_
    rintro e w' ⟨hg, v, rfl, ⟨s1, s2, s3⟩, rfl, hs⟩
    simp only [Sl.v]
    go_wp2
    go_ret
    exact ended_ok (by first | exact HK.out | rfl) (grown_trans g0.out hg) ⟨⟨s1, s2, s3⟩, rfl, hs⟩

end Go.Proofs.YtdcbjikjeicgbaaGreatDoor

/- What any operator makes: types and dims, put together by the rule table (mkIAll.py). -/
namespace Go.Proofs.YtdcbjikjeicgbaaGreatDoor
open Go.RowKit

/-- Of each operator how its type is found, and how its dims. -/
def grps : List (List UInt8 × Nat × Nat) := [
  ([73, 100, 101, 110, 116, 105, 116, 121], 10, 1),
  ([78, 101, 103], 10, 1),
  ([65, 98, 115], 10, 1),
  ([78, 111, 116], 10, 1),
  ([82, 101, 108, 117], 10, 1),
  ([83, 113, 114, 116], 10, 1),
  ([70, 108, 111, 111, 114], 10, 1),
  ([69, 120, 112], 10, 1),
  ([83, 105, 103, 109, 111, 105, 100], 10, 1),
  ([84, 97, 110, 104], 10, 1),
  ([65, 100, 100], 9, 2),
  ([83, 117, 98], 9, 2),
  ([77, 117, 108], 9, 2),
  ([68, 105, 118], 9, 2),
  ([77, 97, 120], 9, 2),
  ([77, 105, 110], 9, 2),
  ([65, 110, 100], 9, 2),
  ([79, 114], 9, 2),
  ([88, 111, 114], 9, 2),
  ([69, 113, 117, 97, 108], 8, 2),
  ([76, 101, 115, 115], 8, 2),
  ([71, 114, 101, 97, 116, 101, 114], 8, 2),
  ([77, 97, 116, 77, 117, 108], 7, 16),
  ([87, 104, 101, 114, 101], 2, 3),
  ([67, 108, 105, 112], 7, 1),
  ([67, 97, 115, 116], 1, 1),
  ([82, 101, 100, 117, 99, 101, 83, 117, 109], 5, 5),
  ([82, 101, 100, 117, 99, 101, 77, 97, 120], 5, 5),
  ([82, 101, 100, 117, 99, 101, 77, 101, 97, 110], 7, 5),
  ([65, 114, 103, 77, 97, 120], 6, 5),
  ([82, 101, 115, 104, 97, 112, 101], 3, 6),
  ([69, 120, 112, 97, 110, 100], 3, 7),
  ([84, 114, 97, 110, 115, 112, 111, 115, 101], 3, 8),
  ([67, 111, 110, 99, 97, 116], 3, 9),
  ([83, 108, 105, 99, 101], 3, 10),
  ([71, 97, 116, 104, 101, 114], 4, 11),
  ([80, 97, 100], 7, 12),
  ([83, 113, 117, 101, 101, 122, 101], 3, 13),
  ([85, 110, 115, 113, 117, 101, 101, 122, 101], 3, 14),
  ([70, 108, 97, 116, 116, 101, 110], 3, 15),
  ([83, 111, 102, 116, 109, 97, 120], 7, 4),
  ([71, 101, 109, 109], 7, 17),
  ([67, 111, 110, 118], 7, 18),
  ([77, 97, 120, 80, 111, 111, 108], 7, 19),
  ([65, 118, 101, 114, 97, 103, 101, 80, 111, 111, 108], 7, 19),
  ([71, 108, 111, 98, 97, 108, 65, 118, 101, 114, 97, 103, 101, 80, 111, 111, 108], 7, 20),
  ([66, 97, 116, 99, 104, 78, 111, 114, 109, 97, 108, 105, 122, 97, 116, 105, 111, 110], 7, 21),
  ([67, 111, 110, 115, 116, 97, 110, 116], 0, 0)]

def grp (op : ByteArray) : Nat × Nat := ((grps.find? (fun r => r.1 == op.toList)).map (·.2)).getD (99, 99)

/-- The dims of a Constant's value. -/
def valD (A : At) : List Int := match (A.xs.zip A.cs).find? (fun p => isA ⟨#[118, 97, 108, 117, 101]⟩ 4 p.1) with
  | some p => p.2.d
  | none => []

/-- The type of what comes out. -/
def typeG (A : At) (ts : List Int) : Nat → R Int
  | 0 => .ok (valA A).ty
  | 1 => (typP (wholeP (A.int ⟨#[116, 111]⟩ 0))).bind (fun _ => .ok (wholeP (A.int ⟨#[116, 111]⟩ 0)))
  | 2 => (mustP (ts.getD 0 0 == 9)).bind (fun _ => sameP ts.tail)
  | 3 => sameP ts
  | 4 => (mustP (ts.getD 1 0 == 6 || ts.getD 1 0 == 7)).bind (fun _ => .ok (ts.getD 0 0))
  | 5 => (mustP (ts.getD 0 0 != 9)).bind (fun _ => .ok (ts.getD 0 0))
  | 6 => (mustP (ts.getD 0 0 != 9)).bind (fun _ => .ok (7 : Int))
  | 7 => (sameP ts).bind (fun t => (mustP (t == 1)).bind (fun _ => .ok (1 : Int)))
  | 8 => (sameP ts).bind (fun t => (mustP (twoOK A.op.toList t)).bind (fun _ => .ok (9 : Int)))
  | 9 => (sameP ts).bind (fun t => (mustP (twoOK A.op.toList t)).bind (fun _ => .ok t))
  | 10 => (sameP ts).bind (fun t => (mustP (oneOK A.op.toList t)).bind (fun _ => .ok t))
  | _ => .error 5

/-- The dims of what comes out. -/
def dimsG (A : At) (D : List (List Int)) : Nat → R (List Int)
  | 0 => .ok (valD A)
  | 1 => .ok (D.getD 0 [])
  | 2 => spreadP (D.getD 0 []) (D.getD 1 [])
  | 3 => (spreadP (D.getD 0 []) (D.getD 1 [])).bind (fun l => spreadP l (D.getD 2 []))
  | 4 => (axesP (alongP A (D.getD 0 []).length) (D.getD 0 []).length).bind (fun _ => .ok (D.getD 0 []))
  | 5 => reducedP A (D.getD 0 [])
  | 6 => reshapedP (D.getD 0 []) (A.ints ⟨#[115, 104, 97, 112, 101]⟩ [])
  | 7 => spreadP (D.getD 0 []) ((A.ints ⟨#[115, 104, 97, 112, 101]⟩ []).map wholeP)
  | 8 => transposedP A (D.getD 0 [])
  | 9 => joinedP A (D.getD 0 []) D.tail
  | 10 => slicedP A (D.getD 0 [])
  | 11 => gatherP A (D.getD 0 []) (D.getD 1 [])
  | 12 => paddedP (D.getD 0 []) (A.ints ⟨#[112, 97, 100, 115]⟩ [])
  | 13 => squeezedP (D.getD 0 []) (A.ints ⟨#[97, 120, 101, 115]⟩ [])
  | 14 => unsqueezedP (D.getD 0 []) (A.ints ⟨#[97, 120, 101, 115]⟩ [])
  | 15 => flattenedP A (D.getD 0 [])
  | 16 => productP (D.getD 0 []) (D.getD 1 [])
  | 17 => gemmP A (D.getD 0 []) (D.getD 1 []) (D.drop 2).head?
  | 18 => convolvedP A (D.getD 0 []) (D.getD 1 []) (D.drop 2).head?
  | 19 => pooledP A (D.getD 0 [])
  | 20 => (mustP (decide ((D.getD 0 []).length = 4))).bind (fun _ => .ok [(D.getD 0 []).getD 0 0, (D.getD 0 []).getD 1 0, 1, 1])
  | 21 => normalizedP (D.getD 0 []) D.tail
  | _ => .error 5

def dimsOf (vs : List (Val × List Int)) : List (List Int) := vs.map (·.2)

/-- A node that comes in, with all that infer asks of it. -/
structure NodeAll (w : World) (n : Nod) (ins : List ByteArray) (A : At) : Prop where
  node : NodeIn w n ins A.xs A.cs
  op : A.op = n.op
  rng : ∀ a ∈ A.xs, -9223372036854775808 ≤ a.i ∧ a.i ≤ 9223372036854775807
  lens : ∀ c ∈ A.cs, c.i.length ≤ 1048576
  out : n.out.size ≤ 1048576

theorem NodeAll.more {w w' : World} {n : Nod} {ins : List ByteArray} {A : At} (h : NodeAll w n ins A) (hg : w.grownBy w' none) : NodeAll w' n ins A := ⟨h.node.more hg, h.op, h.rng, h.lens, h.out⟩

theorem NodeAll.ok {w : World} {n : Nod} {ins : List ByteArray} {A : At} (h : NodeAll w n ins A) : NodeOk w n A := ⟨h.op, h.node.av, h.node.has, h.rng⟩

theorem NodeAll.ints_len {w : World} {n : Nod} {ins : List ByteArray} {A : At} (h : NodeAll w n ins A) (nm : ByteArray) : (A.ints nm []).length ≤ 100000000 := by
  unfold At.ints intsV
  cases hf : (A.xs.zip A.cs).find? (fun p => isA nm 7 p.1) with
  | none => simp
  | some p =>
    have h1 := List.mem_of_find?_eq_some hf
    have h2 := h.lens p.2 (List.of_mem_zip h1).2
    simp only
    omega

theorem vinP_all : ∀ {vs : List (Val × List Int)}, vinP vs = .ok () → ∀ p ∈ vs, isTypeP p.1.ty = true ∧ Fine p.2
  | [], _, p, hp => by cases hp
  | q :: l, h, p, hp => by
    simp only [vinP] at h
    have h1 : isTypeP q.1.ty = true := by
      unfold typP at h
      by_cases e : isTypeP q.1.ty = true
      · exact e
      · rw [if_neg e] at h; cases h
    have e1 : typP q.1.ty = .ok () := by unfold typP; rw [if_pos h1]
    rw [e1] at h
    have h2 : cntE q.2 = 0 := by
      by_cases e : cntE q.2 = 0
      · exact e
      · have : countP q.2 = .error (cntE q.2) := by unfold countP; rw [if_neg e]
        rw [this] at h; cases h
    have e2 : countP q.2 = .ok (prod q.2) := by unfold countP; rw [if_pos h2]
    rw [e2] at h
    rcases List.mem_cons.1 hp with rfl | hp
    · exact ⟨h1, fine_of h2⟩
    · exact vinP_all h p hp

theorem ended_mono {α : Type} {w w' : World} {r : R α} {Q Q' : α → Value → World → Prop} {e : Ending} (h : Ended w r Q e w') (hq : ∀ a v, r = .ok a → Q a v w' → Q' a v w') : Ended w r Q' e w' := by
  cases r with
  | error c => exact h
  | ok a =>
    obtain ⟨hg, v, he, hv⟩ := h
    exact ⟨hg, v, he, hq a v rfl hv⟩

theorem sameP_mem {ts : List Int} {t : Int} (h : sameP ts = .ok t) (h0 : 0 < ts.length) : t ∈ ts := by
  cases ts with
  | nil => simp at h0
  | cons a l =>
    simp only [sameP] at h
    by_cases e : l.all (fun s => s == a) = true
    · rw [if_pos e] at h
      obtain rfl : a = t := by cases h; rfl
      simp
    · rw [if_neg e] at h; cases h

theorem bind_ok {α β : Type} {r : R α} {f : α → R β} {b : β} (h : r.bind f = .ok b) : ∃ a, r = .ok a ∧ f a = .ok b := by
  cases r with
  | error c => cases h
  | ok a => exact ⟨a, rfl, h⟩

theorem isT1 : isTypeP 1 = true := by decide
theorem isT7 : isTypeP 7 = true := by decide
theorem isT9 : isTypeP 9 = true := by decide

theorem typP_ok {t : Int} {u : Unit} (h : typP t = .ok u) : isTypeP t = true := by
  unfold typP at h
  by_cases e : isTypeP t = true
  · exact e
  · rw [if_neg e] at h; cases h

/-- The type that comes out is one. -/
theorem typeG_ok {A : At} {ts : List Int} {g : Nat} {t : Int} (h : typeG A ts g = .ok t) (hc : g = 0 → isTypeP (valA A).ty = true) (ht : ∀ s ∈ ts, isTypeP s = true) (hn : g ≠ 0 → g ≠ 1 → 0 < ts.length) (h3 : g = 2 → 1 < ts.length) : isTypeP t = true := by
  match g with
  | 0 => simp only [typeG] at h; cases h; exact hc rfl
  | 1 => obtain ⟨a, h1, h2⟩ := bind_ok h; cases h2; exact typP_ok h1
  | 2 =>
    obtain ⟨a, h1, h2⟩ := bind_ok h
    have := h3 rfl
    exact ht t (List.mem_of_mem_tail (sameP_mem h2 (by rw [List.length_tail]; omega)))
  | 3 => exact ht t (sameP_mem h (hn (by decide) (by decide)))
  | 4 => obtain ⟨a, h1, h2⟩ := bind_ok h; cases h2; exact ht _ (getD_mem (hn (by decide) (by decide)))
  | 5 => obtain ⟨a, h1, h2⟩ := bind_ok h; cases h2; exact ht _ (getD_mem (hn (by decide) (by decide)))
  | 6 => obtain ⟨a, h1, h2⟩ := bind_ok h; cases h2; exact isT7
  | 7 => obtain ⟨a, h1, h2⟩ := bind_ok h; obtain ⟨b, h3, h4⟩ := bind_ok h2; cases h4; exact isT1
  | 8 => obtain ⟨a, h1, h2⟩ := bind_ok h; obtain ⟨b, h3, h4⟩ := bind_ok h2; cases h4; exact isT9
  | 9 => obtain ⟨a, h1, h2⟩ := bind_ok h; obtain ⟨b, h3, h4⟩ := bind_ok h2; cases h4; exact ht _ (sameP_mem h1 (hn (by decide) (by decide)))
  | 10 => obtain ⟨a, h1, h2⟩ := bind_ok h; obtain ⟨b, h3, h4⟩ := bind_ok h2; cases h4; exact ht _ (sameP_mem h1 (hn (by decide) (by decide)))
  | n + 11 => simp [typeG] at h

theorem op_of_list {op : ByteArray} {l : List UInt8} (h : op.toList = l) : op = ⟨l.toArray⟩ := by
  rw [bytes_toList] at h
  cases op with
  | mk d => simp only at h; subst h; simp

theorem len_one {α : Type} {vs : List α} (h : vs.length = 1) : ∃ a, vs = [a] := by
  match vs, h with
  | [a], _ => exact ⟨a, rfl⟩

theorem len_two {α : Type} {vs : List α} (h : vs.length = 2) : ∃ a b, vs = [a, b] := by
  match vs, h with
  | [a, b], _ => exact ⟨a, b, rfl⟩

theorem len_three {α : Type} {vs : List α} (h : vs.length = 3) : ∃ a b c, vs = [a, b, c] := by
  match vs, h with
  | [a, b, c], _ => exact ⟨a, b, c, rfl⟩

theorem ints_nilI (w : World) : IsInts w (.slice none 0 0) [] := ⟨none, 0, rfl, by simp, by simp, by simp, fun _ => ⟨rfl, rfl⟩, fun h => by simp at h, fun z hz => by simp at hz⟩

/-- What typeMade and dimsMade are to do. -/
def MadeT (n : Nod) (A : At) (u : Sl) (vs : List (Val × List Int)) (w : World) (g : Nat) : Prop := Calls Tryz.prog 48 #[nval n, .slice u.a u.n u.c] w (Ended w (typeG A (tysOf vs) g) fun t v _ => v = .int .i64 t)
def MadeD (n : Nod) (A : At) (u : Sl) (vs : List (Val × List Int)) (w : World) (g : Nat) : Prop := Calls Tryz.prog 49 #[nval n, .slice u.a u.n u.c] w (Ended w (dimsG A (dimsOf vs) g) DimsQ)

section
variable {n : Nod} {ins : List ByteArray} {A : At} {u : Sl} {vs : List (Val × List Int)} {w : World}

theorem tm_same (hop : n.op ∈ ([⟨#[67, 111, 110, 99, 97, 116]⟩, ⟨#[82, 101, 115, 104, 97, 112, 101]⟩, ⟨#[69, 120, 112, 97, 110, 100]⟩, ⟨#[84, 114, 97, 110, 115, 112, 111, 115, 101]⟩, ⟨#[83, 108, 105, 99, 101]⟩, ⟨#[83, 113, 117, 101, 101, 122, 101]⟩, ⟨#[85, 110, 115, 113, 117, 101, 101, 122, 101]⟩, ⟨#[70, 108, 97, 116, 116, 101, 110]⟩] : List ByteArray)) (hn : NodeAll w n ins A) (hv : ValsIn w u.v vs) (ht : ∀ s ∈ tysOf vs, isTypeP s = true) (hl : 0 < vs.length) (hf : vs.length ≤ 1000000) : MadeT n A u vs w 3 := by
  exact type_same n A u vs w hop hn.ok hv hl hf ht

theorem tm_float (hop : n.op ∈ ([⟨#[67, 108, 105, 112]⟩, ⟨#[83, 111, 102, 116, 109, 97, 120]⟩, ⟨#[82, 101, 100, 117, 99, 101, 77, 101, 97, 110]⟩, ⟨#[80, 97, 100]⟩, ⟨#[77, 97, 116, 77, 117, 108]⟩, ⟨#[71, 101, 109, 109]⟩, ⟨#[67, 111, 110, 118]⟩, ⟨#[77, 97, 120, 80, 111, 111, 108]⟩, ⟨#[65, 118, 101, 114, 97, 103, 101, 80, 111, 111, 108]⟩, ⟨#[71, 108, 111, 98, 97, 108, 65, 118, 101, 114, 97, 103, 101, 80, 111, 111, 108]⟩, ⟨#[66, 97, 116, 99, 104, 78, 111, 114, 109, 97, 108, 105, 122, 97, 116, 105, 111, 110]⟩] : List ByteArray)) (hn : NodeAll w n ins A) (hv : ValsIn w u.v vs) (ht : ∀ s ∈ tysOf vs, isTypeP s = true) (hl : 0 < vs.length) (hf : vs.length ≤ 1000000) : MadeT n A u vs w 7 := by
  exact type_float n A u vs w hop hn.ok hv hl hf ht

theorem tm_two (hop : n.op ∈ ([⟨#[65, 100, 100]⟩, ⟨#[83, 117, 98]⟩, ⟨#[77, 117, 108]⟩, ⟨#[68, 105, 118]⟩, ⟨#[77, 97, 120]⟩, ⟨#[77, 105, 110]⟩, ⟨#[65, 110, 100]⟩, ⟨#[79, 114]⟩, ⟨#[88, 111, 114]⟩] : List ByteArray)) (hn : NodeAll w n ins A) (hv : ValsIn w u.v vs) (ht : ∀ s ∈ tysOf vs, isTypeP s = true) (hl : vs.length = 2) (hf : vs.length ≤ 1000000) : MadeT n A u vs w 9 := by
  unfold MadeT typeG
  rw [hn.op]
  exact type_two n A u vs w hop hn.ok hv hl hf ht

theorem tm_one (hop : n.op ∈ ([⟨#[73, 100, 101, 110, 116, 105, 116, 121]⟩, ⟨#[78, 101, 103]⟩, ⟨#[65, 98, 115]⟩, ⟨#[78, 111, 116]⟩, ⟨#[82, 101, 108, 117]⟩, ⟨#[83, 113, 114, 116]⟩, ⟨#[70, 108, 111, 111, 114]⟩, ⟨#[69, 120, 112]⟩, ⟨#[83, 105, 103, 109, 111, 105, 100]⟩, ⟨#[84, 97, 110, 104]⟩] : List ByteArray)) (hn : NodeAll w n ins A) (hv : ValsIn w u.v vs) (ht : ∀ s ∈ tysOf vs, isTypeP s = true) (hl : vs.length = 1) (hf : vs.length ≤ 1000000) : MadeT n A u vs w 10 := by
  unfold MadeT typeG
  rw [hn.op]
  exact type_one n A u vs w hop hn.ok hv hl hf ht

theorem dm_x (hop : n.op ∈ ([⟨#[73, 100, 101, 110, 116, 105, 116, 121]⟩, ⟨#[78, 101, 103]⟩, ⟨#[65, 98, 115]⟩, ⟨#[78, 111, 116]⟩, ⟨#[82, 101, 108, 117]⟩, ⟨#[83, 113, 114, 116]⟩, ⟨#[70, 108, 111, 111, 114]⟩, ⟨#[69, 120, 112]⟩, ⟨#[83, 105, 103, 109, 111, 105, 100]⟩, ⟨#[84, 97, 110, 104]⟩, ⟨#[67, 108, 105, 112]⟩, ⟨#[67, 97, 115, 116]⟩] : List ByteArray)) (hn : NodeAll w n ins A) (hv : ValsIn w u.v vs) (_hf : ∀ p ∈ vs, Fine p.2) (hl : vs.length = 1) : MadeD n A u vs w 1 := by
  obtain ⟨⟨v0, x⟩, rfl⟩ := len_one hl
  exact dims_x n A u v0 x w hop hn.ok hv

theorem dm_two (hop : n.op ∈ ([⟨#[65, 100, 100]⟩, ⟨#[83, 117, 98]⟩, ⟨#[77, 117, 108]⟩, ⟨#[68, 105, 118]⟩, ⟨#[77, 97, 120]⟩, ⟨#[77, 105, 110]⟩, ⟨#[65, 110, 100]⟩, ⟨#[79, 114]⟩, ⟨#[88, 111, 114]⟩, ⟨#[69, 113, 117, 97, 108]⟩, ⟨#[76, 101, 115, 115]⟩, ⟨#[71, 114, 101, 97, 116, 101, 114]⟩] : List ByteArray)) (hn : NodeAll w n ins A) (hv : ValsIn w u.v vs) (_hf : ∀ p ∈ vs, Fine p.2) (hl : vs.length = 2) : MadeD n A u vs w 2 := by
  obtain ⟨⟨v0, x⟩, ⟨v1, y⟩, rfl⟩ := len_two hl
  exact dims_two n A u v0 v1 x y w hop hn.ok hv

theorem dm_reduced (hop : n.op ∈ ([⟨#[82, 101, 100, 117, 99, 101, 83, 117, 109]⟩, ⟨#[82, 101, 100, 117, 99, 101, 77, 97, 120]⟩, ⟨#[82, 101, 100, 117, 99, 101, 77, 101, 97, 110]⟩, ⟨#[65, 114, 103, 77, 97, 120]⟩] : List ByteArray)) (hn : NodeAll w n ins A) (hv : ValsIn w u.v vs) (hf : ∀ p ∈ vs, Fine p.2) (hl : vs.length = 1) : MadeD n A u vs w 5 := by
  obtain ⟨⟨v0, x⟩, rfl⟩ := len_one hl
  exact dims_reduced n A u v0 x w hop hn.ok hv (hf (v0, x) (by simp))

theorem dm_transposed (hop : n.op ∈ ([⟨#[84, 114, 97, 110, 115, 112, 111, 115, 101]⟩] : List ByteArray)) (hn : NodeAll w n ins A) (hv : ValsIn w u.v vs) (hf : ∀ p ∈ vs, Fine p.2) (hl : vs.length = 1) : MadeD n A u vs w 8 := by
  obtain ⟨⟨v0, x⟩, rfl⟩ := len_one hl
  exact dims_transposed n A u v0 x w hop hn.ok hv (hf (v0, x) (by simp))

theorem dm_sliced (hop : n.op ∈ ([⟨#[83, 108, 105, 99, 101]⟩] : List ByteArray)) (hn : NodeAll w n ins A) (hv : ValsIn w u.v vs) (hf : ∀ p ∈ vs, Fine p.2) (hl : vs.length = 1) : MadeD n A u vs w 10 := by
  obtain ⟨⟨v0, x⟩, rfl⟩ := len_one hl
  exact dims_sliced n A u v0 x w hop hn.ok hv (hf (v0, x) (by simp))

theorem dm_flattened (hop : n.op ∈ ([⟨#[70, 108, 97, 116, 116, 101, 110]⟩] : List ByteArray)) (hn : NodeAll w n ins A) (hv : ValsIn w u.v vs) (hf : ∀ p ∈ vs, Fine p.2) (hl : vs.length = 1) : MadeD n A u vs w 15 := by
  obtain ⟨⟨v0, x⟩, rfl⟩ := len_one hl
  exact dims_flattened n A u v0 x w hop hn.ok hv (hf (v0, x) (by simp))

theorem dm_pooled (hop : n.op ∈ ([⟨#[77, 97, 120, 80, 111, 111, 108]⟩, ⟨#[65, 118, 101, 114, 97, 103, 101, 80, 111, 111, 108]⟩] : List ByteArray)) (hn : NodeAll w n ins A) (hv : ValsIn w u.v vs) (hf : ∀ p ∈ vs, Fine p.2) (hl : vs.length = 1) : MadeD n A u vs w 19 := by
  obtain ⟨⟨v0, x⟩, rfl⟩ := len_one hl
  exact dims_pooled n A u v0 x w hop hn.ok hv (hf (v0, x) (by simp))

theorem dm_product (hop : n.op ∈ ([⟨#[77, 97, 116, 77, 117, 108]⟩] : List ByteArray)) (hn : NodeAll w n ins A) (hv : ValsIn w u.v vs) (hf : ∀ p ∈ vs, Fine p.2) (hl : vs.length = 2) : MadeD n A u vs w 16 := by
  obtain ⟨⟨v0, x⟩, ⟨v1, y⟩, rfl⟩ := len_two hl
  exact dims_product n A u v0 v1 x y w hop hn.ok hv (hf (v0, x) (by simp)) (hf (v1, y) (by simp))

theorem dm_reshape (hop : n.op ∈ ([⟨#[82, 101, 115, 104, 97, 112, 101]⟩] : List ByteArray)) (hn : NodeAll w n ins A) (hv : ValsIn w u.v vs) (hf : ∀ p ∈ vs, Fine p.2) (hl : vs.length = 1) : MadeD n A u vs w 6 := by
  obtain ⟨⟨v0, x⟩, rfl⟩ := len_one hl
  exact dims_reshape n A u v0 x w hop hn.ok hv (hf (v0, x) (by simp)) (hn.ints_len _)

theorem dm_pad (hop : n.op ∈ ([⟨#[80, 97, 100]⟩] : List ByteArray)) (hn : NodeAll w n ins A) (hv : ValsIn w u.v vs) (hf : ∀ p ∈ vs, Fine p.2) (hl : vs.length = 1) : MadeD n A u vs w 12 := by
  obtain ⟨⟨v0, x⟩, rfl⟩ := len_one hl
  exact dims_pad n A u v0 x w hop hn.ok hv (hf (v0, x) (by simp))

theorem dm_squeeze (hop : n.op ∈ ([⟨#[83, 113, 117, 101, 101, 122, 101]⟩] : List ByteArray)) (hn : NodeAll w n ins A) (hv : ValsIn w u.v vs) (hf : ∀ p ∈ vs, Fine p.2) (hl : vs.length = 1) : MadeD n A u vs w 13 := by
  obtain ⟨⟨v0, x⟩, rfl⟩ := len_one hl
  exact dims_squeeze n A u v0 x w hop hn.ok hv (hf (v0, x) (by simp))

theorem dm_unsqueeze (hop : n.op ∈ ([⟨#[85, 110, 115, 113, 117, 101, 101, 122, 101]⟩] : List ByteArray)) (hn : NodeAll w n ins A) (hv : ValsIn w u.v vs) (hf : ∀ p ∈ vs, Fine p.2) (hl : vs.length = 1) : MadeD n A u vs w 14 := by
  obtain ⟨⟨v0, x⟩, rfl⟩ := len_one hl
  exact dims_unsqueeze n A u v0 x w hop hn.ok hv (hf (v0, x) (by simp)) (hn.ints_len _)

theorem madeT_Equal (hop : n.op = ⟨#[69, 113, 117, 97, 108]⟩) (hn : NodeAll w n ins A) (hv : ValsIn w u.v vs) (ht : ∀ s ∈ tysOf vs, isTypeP s = true) (hl : vs.length = 2) : MadeT n A u vs w 8 := by
  have ao : A.op.toList = [69, 113, 117, 97, 108] := by rw [hn.op, hop, bytes_toList]
  unfold MadeT typeG
  simp only [ao]
  exact type_Equal n A u vs w hop hn.ok hv hl (by omega) ht

theorem madeT_Less (hop : n.op = ⟨#[76, 101, 115, 115]⟩) (hn : NodeAll w n ins A) (hv : ValsIn w u.v vs) (ht : ∀ s ∈ tysOf vs, isTypeP s = true) (hl : vs.length = 2) : MadeT n A u vs w 8 := by
  have ao : A.op.toList = [76, 101, 115, 115] := by rw [hn.op, hop, bytes_toList]
  unfold MadeT typeG
  simp only [ao]
  exact type_Less n A u vs w hop hn.ok hv hl (by omega) ht

theorem madeT_Greater (hop : n.op = ⟨#[71, 114, 101, 97, 116, 101, 114]⟩) (hn : NodeAll w n ins A) (hv : ValsIn w u.v vs) (ht : ∀ s ∈ tysOf vs, isTypeP s = true) (hl : vs.length = 2) : MadeT n A u vs w 8 := by
  have ao : A.op.toList = [71, 114, 101, 97, 116, 101, 114] := by rw [hn.op, hop, bytes_toList]
  unfold MadeT typeG
  simp only [ao]
  exact type_Greater n A u vs w hop hn.ok hv hl (by omega) ht

theorem madeT_Where (hop : n.op = ⟨#[87, 104, 101, 114, 101]⟩) (hn : NodeAll w n ins A) (hv : ValsIn w u.v vs) (_ht : ∀ s ∈ tysOf vs, isTypeP s = true) (hl : vs.length = 3) : MadeT n A u vs w 2 := by
  obtain ⟨p0, p1, p2, rfl⟩ := len_three hl
  exact type_Where n A u p0 p1 p2 w hop hn.ok hv

theorem madeD_Where (hop : n.op = ⟨#[87, 104, 101, 114, 101]⟩) (hn : NodeAll w n ins A) (hv : ValsIn w u.v vs) (_hf : ∀ p ∈ vs, Fine p.2) (hl : vs.length = 3) : MadeD n A u vs w 3 := by
  obtain ⟨⟨v0, x⟩, ⟨v1, y⟩, ⟨v2, z⟩, rfl⟩ := len_three hl
  exact dims_Where n A u v0 v1 v2 x y z w hop hn.ok hv

theorem madeT_Cast (hop : n.op = ⟨#[67, 97, 115, 116]⟩) (hn : NodeAll w n ins A) (_hv : ValsIn w u.v vs) (_ht : ∀ s ∈ tysOf vs, isTypeP s = true) (_hl : vs.length = 1) : MadeT n A u vs w 1 := by
  exact type_Cast n A u w hop hn.ok

theorem madeT_ReduceSum (hop : n.op = ⟨#[82, 101, 100, 117, 99, 101, 83, 117, 109]⟩) (hn : NodeAll w n ins A) (hv : ValsIn w u.v vs) (ht : ∀ s ∈ tysOf vs, isTypeP s = true) (hl : vs.length = 1) : MadeT n A u vs w 5 := by
  exact type_ReduceSum n A u vs w hop hn.ok hv hl (by omega) ht

theorem madeT_ReduceMax (hop : n.op = ⟨#[82, 101, 100, 117, 99, 101, 77, 97, 120]⟩) (hn : NodeAll w n ins A) (hv : ValsIn w u.v vs) (ht : ∀ s ∈ tysOf vs, isTypeP s = true) (hl : vs.length = 1) : MadeT n A u vs w 5 := by
  exact type_ReduceMax n A u vs w hop hn.ok hv hl (by omega) ht

theorem madeT_ArgMax (hop : n.op = ⟨#[65, 114, 103, 77, 97, 120]⟩) (hn : NodeAll w n ins A) (hv : ValsIn w u.v vs) (ht : ∀ s ∈ tysOf vs, isTypeP s = true) (hl : vs.length = 1) : MadeT n A u vs w 6 := by
  exact type_ArgMax n A u vs w hop hn.ok hv hl (by omega) ht

theorem madeD_Expand (hop : n.op = ⟨#[69, 120, 112, 97, 110, 100]⟩) (hn : NodeAll w n ins A) (hv : ValsIn w u.v vs) (_hf : ∀ p ∈ vs, Fine p.2) (hl : vs.length = 1) : MadeD n A u vs w 7 := by
  obtain ⟨⟨v0, x⟩, rfl⟩ := len_one hl
  exact dims_Expand n A u v0 x w hop hn.ok hv 

theorem madeD_Concat (hop : n.op = ⟨#[67, 111, 110, 99, 97, 116]⟩) (hn : NodeAll w n ins A) (hv : ValsIn w u.v vs) (hf : ∀ p ∈ vs, Fine p.2) (hlo : 1 ≤ vs.length) (hhi : vs.length ≤ 20) : MadeD n A u vs w 9 := by
  match vs, hlo with
  | p0 :: rs, _ => exact dims_Concat n A u p0 rs w hop hn.ok hv (by simp at hhi; omega) hf

theorem madeT_Gather (hop : n.op = ⟨#[71, 97, 116, 104, 101, 114]⟩) (hn : NodeAll w n ins A) (hv : ValsIn w u.v vs) (ht : ∀ s ∈ tysOf vs, isTypeP s = true) (hl : vs.length = 2) : MadeT n A u vs w 4 := by
  exact type_Gather n A u vs w hop hn.ok hv hl (by omega) ht

theorem madeD_Gather (hop : n.op = ⟨#[71, 97, 116, 104, 101, 114]⟩) (hn : NodeAll w n ins A) (hv : ValsIn w u.v vs) (hf : ∀ p ∈ vs, Fine p.2) (hl : vs.length = 2) : MadeD n A u vs w 11 := by
  obtain ⟨⟨v0, x⟩, ⟨v1, y⟩, rfl⟩ := len_two hl
  exact dims_Gather n A u v0 v1 x y w hop hn.ok hv (hf (v0, x) (by simp)) (hf (v1, y) (by simp))

theorem madeD_Softmax (hop : n.op = ⟨#[83, 111, 102, 116, 109, 97, 120]⟩) (hn : NodeAll w n ins A) (hv : ValsIn w u.v vs) (hf : ∀ p ∈ vs, Fine p.2) (hl : vs.length = 1) : MadeD n A u vs w 4 := by
  obtain ⟨⟨v0, x⟩, rfl⟩ := len_one hl
  exact dims_Softmax n A u v0 x w hop hn.ok hv (hf (v0, x) (by simp))

theorem madeD_Gemm (hop : n.op = ⟨#[71, 101, 109, 109]⟩) (hn : NodeAll w n ins A) (hv : ValsIn w u.v vs) (_hf : ∀ p ∈ vs, Fine p.2) (hlo : 2 ≤ vs.length) (hhi : vs.length ≤ 3) : MadeD n A u vs w 17 := by
  match vs, hlo with
  | p0 :: p1 :: rest, _ =>
    have e : (((p0 :: p1 :: rest).map (·.2)).drop 2).head? = rest.head?.map (·.2) := by cases rest <;> rfl
    unfold MadeD dimsG dimsOf
    simp only [e]
    exact dims_Gemm n A u p0 p1 rest w hop hn.ok hv (by simp at hhi; omega)

theorem madeD_Conv (hop : n.op = ⟨#[67, 111, 110, 118]⟩) (hn : NodeAll w n ins A) (hv : ValsIn w u.v vs) (hf : ∀ p ∈ vs, Fine p.2) (hlo : 2 ≤ vs.length) (hhi : vs.length ≤ 3) : MadeD n A u vs w 18 := by
  match vs, hlo with
  | p0 :: p1 :: rest, _ =>
    have e : (((p0 :: p1 :: rest).map (·.2)).drop 2).head? = rest.head?.map (·.2) := by cases rest <;> rfl
    unfold MadeD dimsG dimsOf
    simp only [e]
    exact dims_Conv n A u p0 p1 rest w hop hn.ok hv (by simp at hhi; omega) hf

theorem madeD_GlobalAveragePool (hop : n.op = ⟨#[71, 108, 111, 98, 97, 108, 65, 118, 101, 114, 97, 103, 101, 80, 111, 111, 108]⟩) (hn : NodeAll w n ins A) (hv : ValsIn w u.v vs) (_hf : ∀ p ∈ vs, Fine p.2) (hl : vs.length = 1) : MadeD n A u vs w 20 := by
  obtain ⟨⟨v0, x⟩, rfl⟩ := len_one hl
  exact dims_GlobalAveragePool n A u v0 x w hop hn.ok hv 

theorem madeD_BatchNormalization (hop : n.op = ⟨#[66, 97, 116, 99, 104, 78, 111, 114, 109, 97, 108, 105, 122, 97, 116, 105, 111, 110]⟩) (hn : NodeAll w n ins A) (hv : ValsIn w u.v vs) (_hf : ∀ p ∈ vs, Fine p.2) (hl : vs.length = 5) : MadeD n A u vs w 21 := by
  match vs, hl with
  | p0 :: p1 :: rest, hl => exact dims_BatchNormalization n A u p0 p1 rest w hop hn.ok hv (by simp at hl; omega)

theorem madeT_Constant (hop : n.op = ⟨#[67, 111, 110, 115, 116, 97, 110, 116]⟩) (hn : NodeAll w n ins A) (_hv : ValsIn w u.v vs) (_ht : ∀ s ∈ tysOf vs, isTypeP s = true) (_hl : vs.length = 0) : MadeT n A u vs w 0 := by
  exact type_Constant n A u w hop hn.ok

theorem madeD_Constant (hop : n.op = ⟨#[67, 111, 110, 115, 116, 97, 110, 116]⟩) (hn : NodeAll w n ins A) (_hv : ValsIn w u.v vs) (_hf : ∀ p ∈ vs, Fine p.2) (_hl : vs.length = 0) : MadeD n A u vs w 0 := by
  rcases find_zip (P := isA ⟨#[118, 97, 108, 117, 101]⟩ 4) hn.node.has with ⟨e1, e2⟩ | ⟨a, c, e1, e2, e3⟩
  · have eD : valD A = [] := by unfold valD; rw [e2]
    have eV : valA A = noAtr := by unfold valA; rw [e1]; rfl
    unfold MadeD dimsG
    simp only [eD]
    exact dims_Constant n A u w hop hn.ok [] (by rw [eV]; exact ints_nilI w)
  · have eD : valD A = c.d := by unfold valD; rw [e2]
    have eV : valA A = a := by unfold valA; rw [e1]; rfl
    unfold MadeD dimsG
    simp only [eD]
    exact dims_Constant n A u w hop hn.ok c.d (by rw [eV]; exact e3.d)

end

theorem checkF_zero {op : ByteArray} {ins : List ByteArray} {out : ByteArray} {xs : List Atr} {cs : List Cont} (h : checkF (ruleF op) op ins out xs cs = 0) : ∃ r ∈ rules, r.1 = op.toList ∧ r.2.1 ≤ (ins.length : Int) ∧ (ins.length : Int) ≤ r.2.2.1 := by
  have h1 : checkE (ruleF op) ins out xs = 0 := by
    by_cases e : checkE (ruleF op) ins out xs = 0
    · exact e
    · rw [checkF_no rfl e] at h; exact absurd h e
  unfold ruleF at h1
  cases hf : rules.find? (fun r => r.1 == op.toList) with
  | none => rw [hf] at h1; simp [checkE] at h1
  | some r =>
    rw [hf] at h1
    obtain ⟨l, lo, hi, rs⟩ := r
    simp only [Option.map_some, checkE] at h1
    have hm := List.mem_of_find?_eq_some hf
    have he := List.find?_some hf
    refine ⟨_, hm, by simpa using he, ?_, ?_⟩
    · by_cases e : (ins.length : Int) < lo
      · rw [if_pos e] at h1; simp at h1
      · simp only; omega
    · by_cases e : (ins.length : Int) < lo
      · rw [if_pos e] at h1; simp at h1
      · rw [if_neg e] at h1
        by_cases e2 : hi < (ins.length : Int)
        · rw [if_pos e2] at h1; simp at h1
        · simp only; omega

theorem chk_zero (t : Int) : chk t 0 = isTypeP t := by
  unfold chk isTypeP
  by_cases h1 : t = 1
  · subst h1; decide
  · by_cases h6 : t = 6
    · subst h6; decide
    · by_cases h7 : t = 7
      · subst h7; decide
      · by_cases h9 : t = 9
        · subst h9; decide
        · simp [h1, h6, h7, h9]

theorem const_type {A : At} {op : ByteArray} {ins : List ByteArray} {out : ByteArray} {w : World} {n : Nod} (hn : NodeIn w n ins A.xs A.cs) (h : checkF (ruleF op) op ins out A.xs A.cs = 0) (ho : op.toList = [67, 111, 110, 115, 116, 97, 110, 116]) : isTypeP (valA A).ty = true := by
  have h1 : checkE (ruleF op) ins out A.xs = 0 := by
    by_cases e : checkE (ruleF op) ins out A.xs = 0
    · exact e
    · rw [checkF_no rfl e] at h; exact absurd h e
  unfold checkF at h
  rw [if_neg (by simp [h1]), if_pos (by simp [ho])] at h
  have key : ∀ ty d t, pbE ty d t = 0 → isTypeP ty = true := by
    intro ty d t hp
    unfold pbE at hp
    by_cases e : chk ty 0 = false
    · rw [if_pos e] at hp; simp at hp
    · have e' : chk ty 0 = true := by simpa using e
      rw [← chk_zero]
      exact e'
  rcases find_zip (P := isA ⟨#[118, 97, 108, 117, 101]⟩ 4) hn.has with ⟨e1, e2⟩ | ⟨a, c, e1, e2, e3⟩
  · have eV : valA A = noAtr := by unfold valA; rw [e1]; rfl
    unfold constE at h
    rw [e2] at h
    exact absurd (key _ _ _ h) (by decide)
  · have eV : valA A = a := by unfold valA; rw [e1]; rfl
    unfold constE at h
    rw [e2] at h
    rw [eV]
    exact key _ _ _ h

/-- For each operator: the group it belongs to, and what is made. -/
def Each (r : List UInt8 × Int × Int × List Ra) : Prop := ∀ (n : Nod) (ins : List ByteArray) (A : At) (u : Sl) (vs : List (Val × List Int)) (w : World), n.op.toList = r.1 → NodeAll w n ins A → ValsIn w u.v vs → (∀ s ∈ tysOf vs, isTypeP s = true) → (∀ p ∈ vs, Fine p.2) → r.2.1 ≤ (vs.length : Int) → (vs.length : Int) ≤ r.2.2.1 → MadeT n A u vs w (grp n.op).1 ∧ MadeD n A u vs w (grp n.op).2 ∧ ((grp n.op).1 = 0 → n.op.toList = [67, 111, 110, 115, 116, 97, 110, 116]) ∧ ((grp n.op).1 ≠ 0 → (grp n.op).1 ≠ 1 → 0 < vs.length) ∧ ((grp n.op).1 = 2 → 1 < vs.length)

theorem each_of {l : List UInt8} {lo hi : Int} {ra : List Ra} (t d : Nat) (hg : ((grps.find? (fun r => r.1 == l)).map (·.2)).getD (99, 99) = (t, d)) (hc : t = 0 → l = [67, 111, 110, 115, 116, 97, 110, 116]) (hp : t ≠ 0 → t ≠ 1 → 0 < lo) (hw : t = 2 → 1 < lo)
    (HT : ∀ (n : Nod) (ins : List ByteArray) (A : At) (u : Sl) (vs : List (Val × List Int)) (w : World), n.op = ⟨l.toArray⟩ → NodeAll w n ins A → ValsIn w u.v vs → (∀ s ∈ tysOf vs, isTypeP s = true) → lo ≤ (vs.length : Int) → (vs.length : Int) ≤ hi → MadeT n A u vs w t)
    (HD : ∀ (n : Nod) (ins : List ByteArray) (A : At) (u : Sl) (vs : List (Val × List Int)) (w : World), n.op = ⟨l.toArray⟩ → NodeAll w n ins A → ValsIn w u.v vs → (∀ p ∈ vs, Fine p.2) → lo ≤ (vs.length : Int) → (vs.length : Int) ≤ hi → MadeD n A u vs w d) : Each (l, lo, hi, ra) := by
  intro n ins A u vs w ho hn hv ht hf h1 h2
  have hop : n.op = ⟨l.toArray⟩ := op_of_list ho
  have hgg : grp n.op = (t, d) := by unfold grp; rw [ho]; exact hg
  rw [hgg]
  simp only at h1 h2 ho ⊢
  exact ⟨HT n ins A u vs w hop hn hv ht h1 h2, HD n ins A u vs w hop hn hv hf h1 h2, fun h => ho.trans (hc h), fun h h' => by have := hp h h'; omega, fun h => by have := hw h; omega⟩

set_option maxRecDepth 100000 in
theorem each_all : ∀ r ∈ rules, Each r := by
  unfold rules
  simp only [List.forall_mem_cons]
  exact ⟨each_of 10 1 rfl (by decide) (by decide) (by decide) (fun n ins A u vs w hop hn hv ht h1 h2 => tm_one (by rw [hop]; exact List.mem_of_getElem? (i := 0) rfl) hn hv ht (by omega) (by omega)) (fun n ins A u vs w hop hn hv hf h1 h2 => dm_x (by rw [hop]; exact List.mem_of_getElem? (i := 0) rfl) hn hv hf (by omega)),
    each_of 10 1 rfl (by decide) (by decide) (by decide) (fun n ins A u vs w hop hn hv ht h1 h2 => tm_one (by rw [hop]; exact List.mem_of_getElem? (i := 1) rfl) hn hv ht (by omega) (by omega)) (fun n ins A u vs w hop hn hv hf h1 h2 => dm_x (by rw [hop]; exact List.mem_of_getElem? (i := 1) rfl) hn hv hf (by omega)),
    each_of 10 1 rfl (by decide) (by decide) (by decide) (fun n ins A u vs w hop hn hv ht h1 h2 => tm_one (by rw [hop]; exact List.mem_of_getElem? (i := 2) rfl) hn hv ht (by omega) (by omega)) (fun n ins A u vs w hop hn hv hf h1 h2 => dm_x (by rw [hop]; exact List.mem_of_getElem? (i := 2) rfl) hn hv hf (by omega)),
    each_of 10 1 rfl (by decide) (by decide) (by decide) (fun n ins A u vs w hop hn hv ht h1 h2 => tm_one (by rw [hop]; exact List.mem_of_getElem? (i := 3) rfl) hn hv ht (by omega) (by omega)) (fun n ins A u vs w hop hn hv hf h1 h2 => dm_x (by rw [hop]; exact List.mem_of_getElem? (i := 3) rfl) hn hv hf (by omega)),
    each_of 10 1 rfl (by decide) (by decide) (by decide) (fun n ins A u vs w hop hn hv ht h1 h2 => tm_one (by rw [hop]; exact List.mem_of_getElem? (i := 4) rfl) hn hv ht (by omega) (by omega)) (fun n ins A u vs w hop hn hv hf h1 h2 => dm_x (by rw [hop]; exact List.mem_of_getElem? (i := 4) rfl) hn hv hf (by omega)),
    each_of 10 1 rfl (by decide) (by decide) (by decide) (fun n ins A u vs w hop hn hv ht h1 h2 => tm_one (by rw [hop]; exact List.mem_of_getElem? (i := 5) rfl) hn hv ht (by omega) (by omega)) (fun n ins A u vs w hop hn hv hf h1 h2 => dm_x (by rw [hop]; exact List.mem_of_getElem? (i := 5) rfl) hn hv hf (by omega)),
    each_of 10 1 rfl (by decide) (by decide) (by decide) (fun n ins A u vs w hop hn hv ht h1 h2 => tm_one (by rw [hop]; exact List.mem_of_getElem? (i := 6) rfl) hn hv ht (by omega) (by omega)) (fun n ins A u vs w hop hn hv hf h1 h2 => dm_x (by rw [hop]; exact List.mem_of_getElem? (i := 6) rfl) hn hv hf (by omega)),
    each_of 10 1 rfl (by decide) (by decide) (by decide) (fun n ins A u vs w hop hn hv ht h1 h2 => tm_one (by rw [hop]; exact List.mem_of_getElem? (i := 7) rfl) hn hv ht (by omega) (by omega)) (fun n ins A u vs w hop hn hv hf h1 h2 => dm_x (by rw [hop]; exact List.mem_of_getElem? (i := 7) rfl) hn hv hf (by omega)),
    each_of 10 1 rfl (by decide) (by decide) (by decide) (fun n ins A u vs w hop hn hv ht h1 h2 => tm_one (by rw [hop]; exact List.mem_of_getElem? (i := 8) rfl) hn hv ht (by omega) (by omega)) (fun n ins A u vs w hop hn hv hf h1 h2 => dm_x (by rw [hop]; exact List.mem_of_getElem? (i := 8) rfl) hn hv hf (by omega)),
    each_of 10 1 rfl (by decide) (by decide) (by decide) (fun n ins A u vs w hop hn hv ht h1 h2 => tm_one (by rw [hop]; exact List.mem_of_getElem? (i := 9) rfl) hn hv ht (by omega) (by omega)) (fun n ins A u vs w hop hn hv hf h1 h2 => dm_x (by rw [hop]; exact List.mem_of_getElem? (i := 9) rfl) hn hv hf (by omega)),
    each_of 9 2 rfl (by decide) (by decide) (by decide) (fun n ins A u vs w hop hn hv ht h1 h2 => tm_two (by rw [hop]; exact List.mem_of_getElem? (i := 0) rfl) hn hv ht (by omega) (by omega)) (fun n ins A u vs w hop hn hv hf h1 h2 => dm_two (by rw [hop]; exact List.mem_of_getElem? (i := 0) rfl) hn hv hf (by omega)),
    each_of 9 2 rfl (by decide) (by decide) (by decide) (fun n ins A u vs w hop hn hv ht h1 h2 => tm_two (by rw [hop]; exact List.mem_of_getElem? (i := 1) rfl) hn hv ht (by omega) (by omega)) (fun n ins A u vs w hop hn hv hf h1 h2 => dm_two (by rw [hop]; exact List.mem_of_getElem? (i := 1) rfl) hn hv hf (by omega)),
    each_of 9 2 rfl (by decide) (by decide) (by decide) (fun n ins A u vs w hop hn hv ht h1 h2 => tm_two (by rw [hop]; exact List.mem_of_getElem? (i := 2) rfl) hn hv ht (by omega) (by omega)) (fun n ins A u vs w hop hn hv hf h1 h2 => dm_two (by rw [hop]; exact List.mem_of_getElem? (i := 2) rfl) hn hv hf (by omega)),
    each_of 9 2 rfl (by decide) (by decide) (by decide) (fun n ins A u vs w hop hn hv ht h1 h2 => tm_two (by rw [hop]; exact List.mem_of_getElem? (i := 3) rfl) hn hv ht (by omega) (by omega)) (fun n ins A u vs w hop hn hv hf h1 h2 => dm_two (by rw [hop]; exact List.mem_of_getElem? (i := 3) rfl) hn hv hf (by omega)),
    each_of 9 2 rfl (by decide) (by decide) (by decide) (fun n ins A u vs w hop hn hv ht h1 h2 => tm_two (by rw [hop]; exact List.mem_of_getElem? (i := 4) rfl) hn hv ht (by omega) (by omega)) (fun n ins A u vs w hop hn hv hf h1 h2 => dm_two (by rw [hop]; exact List.mem_of_getElem? (i := 4) rfl) hn hv hf (by omega)),
    each_of 9 2 rfl (by decide) (by decide) (by decide) (fun n ins A u vs w hop hn hv ht h1 h2 => tm_two (by rw [hop]; exact List.mem_of_getElem? (i := 5) rfl) hn hv ht (by omega) (by omega)) (fun n ins A u vs w hop hn hv hf h1 h2 => dm_two (by rw [hop]; exact List.mem_of_getElem? (i := 5) rfl) hn hv hf (by omega)),
    each_of 9 2 rfl (by decide) (by decide) (by decide) (fun n ins A u vs w hop hn hv ht h1 h2 => tm_two (by rw [hop]; exact List.mem_of_getElem? (i := 6) rfl) hn hv ht (by omega) (by omega)) (fun n ins A u vs w hop hn hv hf h1 h2 => dm_two (by rw [hop]; exact List.mem_of_getElem? (i := 6) rfl) hn hv hf (by omega)),
    each_of 9 2 rfl (by decide) (by decide) (by decide) (fun n ins A u vs w hop hn hv ht h1 h2 => tm_two (by rw [hop]; exact List.mem_of_getElem? (i := 7) rfl) hn hv ht (by omega) (by omega)) (fun n ins A u vs w hop hn hv hf h1 h2 => dm_two (by rw [hop]; exact List.mem_of_getElem? (i := 7) rfl) hn hv hf (by omega)),
    each_of 9 2 rfl (by decide) (by decide) (by decide) (fun n ins A u vs w hop hn hv ht h1 h2 => tm_two (by rw [hop]; exact List.mem_of_getElem? (i := 8) rfl) hn hv ht (by omega) (by omega)) (fun n ins A u vs w hop hn hv hf h1 h2 => dm_two (by rw [hop]; exact List.mem_of_getElem? (i := 8) rfl) hn hv hf (by omega)),
    each_of 8 2 rfl (by decide) (by decide) (by decide) (fun n ins A u vs w hop hn hv ht h1 h2 => madeT_Equal hop hn hv ht (by omega)) (fun n ins A u vs w hop hn hv hf h1 h2 => dm_two (by rw [hop]; exact List.mem_of_getElem? (i := 9) rfl) hn hv hf (by omega)),
    each_of 8 2 rfl (by decide) (by decide) (by decide) (fun n ins A u vs w hop hn hv ht h1 h2 => madeT_Less hop hn hv ht (by omega)) (fun n ins A u vs w hop hn hv hf h1 h2 => dm_two (by rw [hop]; exact List.mem_of_getElem? (i := 10) rfl) hn hv hf (by omega)),
    each_of 8 2 rfl (by decide) (by decide) (by decide) (fun n ins A u vs w hop hn hv ht h1 h2 => madeT_Greater hop hn hv ht (by omega)) (fun n ins A u vs w hop hn hv hf h1 h2 => dm_two (by rw [hop]; exact List.mem_of_getElem? (i := 11) rfl) hn hv hf (by omega)),
    each_of 7 16 rfl (by decide) (by decide) (by decide) (fun n ins A u vs w hop hn hv ht h1 h2 => tm_float (by rw [hop]; exact List.mem_of_getElem? (i := 4) rfl) hn hv ht (by omega) (by omega)) (fun n ins A u vs w hop hn hv hf h1 h2 => dm_product (by rw [hop]; exact List.mem_of_getElem? (i := 0) rfl) hn hv hf (by omega)),
    each_of 2 3 rfl (by decide) (by decide) (by decide) (fun n ins A u vs w hop hn hv ht h1 h2 => madeT_Where hop hn hv ht (by omega)) (fun n ins A u vs w hop hn hv hf h1 h2 => madeD_Where hop hn hv hf (by omega)),
    each_of 7 1 rfl (by decide) (by decide) (by decide) (fun n ins A u vs w hop hn hv ht h1 h2 => tm_float (by rw [hop]; exact List.mem_of_getElem? (i := 0) rfl) hn hv ht (by omega) (by omega)) (fun n ins A u vs w hop hn hv hf h1 h2 => dm_x (by rw [hop]; exact List.mem_of_getElem? (i := 10) rfl) hn hv hf (by omega)),
    each_of 1 1 rfl (by decide) (by decide) (by decide) (fun n ins A u vs w hop hn hv ht h1 h2 => madeT_Cast hop hn hv ht (by omega)) (fun n ins A u vs w hop hn hv hf h1 h2 => dm_x (by rw [hop]; exact List.mem_of_getElem? (i := 11) rfl) hn hv hf (by omega)),
    each_of 5 5 rfl (by decide) (by decide) (by decide) (fun n ins A u vs w hop hn hv ht h1 h2 => madeT_ReduceSum hop hn hv ht (by omega)) (fun n ins A u vs w hop hn hv hf h1 h2 => dm_reduced (by rw [hop]; exact List.mem_of_getElem? (i := 0) rfl) hn hv hf (by omega)),
    each_of 5 5 rfl (by decide) (by decide) (by decide) (fun n ins A u vs w hop hn hv ht h1 h2 => madeT_ReduceMax hop hn hv ht (by omega)) (fun n ins A u vs w hop hn hv hf h1 h2 => dm_reduced (by rw [hop]; exact List.mem_of_getElem? (i := 1) rfl) hn hv hf (by omega)),
    each_of 7 5 rfl (by decide) (by decide) (by decide) (fun n ins A u vs w hop hn hv ht h1 h2 => tm_float (by rw [hop]; exact List.mem_of_getElem? (i := 2) rfl) hn hv ht (by omega) (by omega)) (fun n ins A u vs w hop hn hv hf h1 h2 => dm_reduced (by rw [hop]; exact List.mem_of_getElem? (i := 2) rfl) hn hv hf (by omega)),
    each_of 6 5 rfl (by decide) (by decide) (by decide) (fun n ins A u vs w hop hn hv ht h1 h2 => madeT_ArgMax hop hn hv ht (by omega)) (fun n ins A u vs w hop hn hv hf h1 h2 => dm_reduced (by rw [hop]; exact List.mem_of_getElem? (i := 3) rfl) hn hv hf (by omega)),
    each_of 3 6 rfl (by decide) (by decide) (by decide) (fun n ins A u vs w hop hn hv ht h1 h2 => tm_same (by rw [hop]; exact List.mem_of_getElem? (i := 1) rfl) hn hv ht (by omega) (by omega)) (fun n ins A u vs w hop hn hv hf h1 h2 => dm_reshape (by rw [hop]; exact List.mem_of_getElem? (i := 0) rfl) hn hv hf (by omega)),
    each_of 3 7 rfl (by decide) (by decide) (by decide) (fun n ins A u vs w hop hn hv ht h1 h2 => tm_same (by rw [hop]; exact List.mem_of_getElem? (i := 2) rfl) hn hv ht (by omega) (by omega)) (fun n ins A u vs w hop hn hv hf h1 h2 => madeD_Expand hop hn hv hf (by omega)),
    each_of 3 8 rfl (by decide) (by decide) (by decide) (fun n ins A u vs w hop hn hv ht h1 h2 => tm_same (by rw [hop]; exact List.mem_of_getElem? (i := 3) rfl) hn hv ht (by omega) (by omega)) (fun n ins A u vs w hop hn hv hf h1 h2 => dm_transposed (by rw [hop]; exact List.mem_of_getElem? (i := 0) rfl) hn hv hf (by omega)),
    each_of 3 9 rfl (by decide) (by decide) (by decide) (fun n ins A u vs w hop hn hv ht h1 h2 => tm_same (by rw [hop]; exact List.mem_of_getElem? (i := 0) rfl) hn hv ht (by omega) (by omega)) (fun n ins A u vs w hop hn hv hf h1 h2 => madeD_Concat hop hn hv hf (by omega) (by omega)),
    each_of 3 10 rfl (by decide) (by decide) (by decide) (fun n ins A u vs w hop hn hv ht h1 h2 => tm_same (by rw [hop]; exact List.mem_of_getElem? (i := 4) rfl) hn hv ht (by omega) (by omega)) (fun n ins A u vs w hop hn hv hf h1 h2 => dm_sliced (by rw [hop]; exact List.mem_of_getElem? (i := 0) rfl) hn hv hf (by omega)),
    each_of 4 11 rfl (by decide) (by decide) (by decide) (fun n ins A u vs w hop hn hv ht h1 h2 => madeT_Gather hop hn hv ht (by omega)) (fun n ins A u vs w hop hn hv hf h1 h2 => madeD_Gather hop hn hv hf (by omega)),
    each_of 7 12 rfl (by decide) (by decide) (by decide) (fun n ins A u vs w hop hn hv ht h1 h2 => tm_float (by rw [hop]; exact List.mem_of_getElem? (i := 3) rfl) hn hv ht (by omega) (by omega)) (fun n ins A u vs w hop hn hv hf h1 h2 => dm_pad (by rw [hop]; exact List.mem_of_getElem? (i := 0) rfl) hn hv hf (by omega)),
    each_of 3 13 rfl (by decide) (by decide) (by decide) (fun n ins A u vs w hop hn hv ht h1 h2 => tm_same (by rw [hop]; exact List.mem_of_getElem? (i := 5) rfl) hn hv ht (by omega) (by omega)) (fun n ins A u vs w hop hn hv hf h1 h2 => dm_squeeze (by rw [hop]; exact List.mem_of_getElem? (i := 0) rfl) hn hv hf (by omega)),
    each_of 3 14 rfl (by decide) (by decide) (by decide) (fun n ins A u vs w hop hn hv ht h1 h2 => tm_same (by rw [hop]; exact List.mem_of_getElem? (i := 6) rfl) hn hv ht (by omega) (by omega)) (fun n ins A u vs w hop hn hv hf h1 h2 => dm_unsqueeze (by rw [hop]; exact List.mem_of_getElem? (i := 0) rfl) hn hv hf (by omega)),
    each_of 3 15 rfl (by decide) (by decide) (by decide) (fun n ins A u vs w hop hn hv ht h1 h2 => tm_same (by rw [hop]; exact List.mem_of_getElem? (i := 7) rfl) hn hv ht (by omega) (by omega)) (fun n ins A u vs w hop hn hv hf h1 h2 => dm_flattened (by rw [hop]; exact List.mem_of_getElem? (i := 0) rfl) hn hv hf (by omega)),
    each_of 7 4 rfl (by decide) (by decide) (by decide) (fun n ins A u vs w hop hn hv ht h1 h2 => tm_float (by rw [hop]; exact List.mem_of_getElem? (i := 1) rfl) hn hv ht (by omega) (by omega)) (fun n ins A u vs w hop hn hv hf h1 h2 => madeD_Softmax hop hn hv hf (by omega)),
    each_of 7 17 rfl (by decide) (by decide) (by decide) (fun n ins A u vs w hop hn hv ht h1 h2 => tm_float (by rw [hop]; exact List.mem_of_getElem? (i := 5) rfl) hn hv ht (by omega) (by omega)) (fun n ins A u vs w hop hn hv hf h1 h2 => madeD_Gemm hop hn hv hf (by omega) (by omega)),
    each_of 7 18 rfl (by decide) (by decide) (by decide) (fun n ins A u vs w hop hn hv ht h1 h2 => tm_float (by rw [hop]; exact List.mem_of_getElem? (i := 6) rfl) hn hv ht (by omega) (by omega)) (fun n ins A u vs w hop hn hv hf h1 h2 => madeD_Conv hop hn hv hf (by omega) (by omega)),
    each_of 7 19 rfl (by decide) (by decide) (by decide) (fun n ins A u vs w hop hn hv ht h1 h2 => tm_float (by rw [hop]; exact List.mem_of_getElem? (i := 7) rfl) hn hv ht (by omega) (by omega)) (fun n ins A u vs w hop hn hv hf h1 h2 => dm_pooled (by rw [hop]; exact List.mem_of_getElem? (i := 0) rfl) hn hv hf (by omega)),
    each_of 7 19 rfl (by decide) (by decide) (by decide) (fun n ins A u vs w hop hn hv ht h1 h2 => tm_float (by rw [hop]; exact List.mem_of_getElem? (i := 8) rfl) hn hv ht (by omega) (by omega)) (fun n ins A u vs w hop hn hv hf h1 h2 => dm_pooled (by rw [hop]; exact List.mem_of_getElem? (i := 1) rfl) hn hv hf (by omega)),
    each_of 7 20 rfl (by decide) (by decide) (by decide) (fun n ins A u vs w hop hn hv ht h1 h2 => tm_float (by rw [hop]; exact List.mem_of_getElem? (i := 9) rfl) hn hv ht (by omega) (by omega)) (fun n ins A u vs w hop hn hv hf h1 h2 => madeD_GlobalAveragePool hop hn hv hf (by omega)),
    each_of 7 21 rfl (by decide) (by decide) (by decide) (fun n ins A u vs w hop hn hv ht h1 h2 => tm_float (by rw [hop]; exact List.mem_of_getElem? (i := 10) rfl) hn hv ht (by omega) (by omega)) (fun n ins A u vs w hop hn hv hf h1 h2 => madeD_BatchNormalization hop hn hv hf (by omega)),
    each_of 0 0 rfl (by decide) (by decide) (by decide) (fun n ins A u vs w hop hn hv ht h1 h2 => madeT_Constant hop hn hv ht (by omega)) (fun n ins A u vs w hop hn hv hf h1 h2 => madeD_Constant hop hn hv hf (by omega)), fun r hr => absurd hr (List.not_mem_nil)⟩

/-- What Out answers of any node and any values. -/
def outF (n : Nod) (ins : List ByteArray) (A : At) (vs : List (Val × List Int)) : R (Int × List Int) :=
  valueP (checkF (ruleF n.op) n.op ins n.out A.xs A.cs) (decide (vs.length = ins.length)) vs (typeG A (tysOf vs) (grp n.op).1) (dimsG A (dimsOf vs) (grp n.op).2) (thenL (A.xs.find? (isA ⟨#[116, 104, 101, 110]⟩ 3)))

theorem made_of {n : Nod} {ins : List ByteArray} {A : At} {u : Sl} {vs : List (Val × List Int)} {w : World} (hn : NodeAll w n ins A) (hv : ValsIn w u.v vs) (hc : checkF (ruleF n.op) n.op ins n.out A.xs A.cs = 0) (hl : vs.length = ins.length) (hi : vinP vs = .ok ()) : Calls Tryz.prog 48 #[nval n, .slice u.a u.n u.c] w (Ended w (typeG A (tysOf vs) (grp n.op).1) fun t v _ => v = .int .i64 t ∧ isTypeP t = true) ∧ Calls Tryz.prog 49 #[nval n, .slice u.a u.n u.c] w (Ended w (dimsG A (dimsOf vs) (grp n.op).2) DimsQ) := by
  obtain ⟨r, hr, h1, h2, h3⟩ := checkF_zero hc
  have hall := vinP_all hi
  have ht : ∀ s ∈ tysOf vs, isTypeP s = true := by
    intro s hs
    obtain ⟨p, hp, rfl⟩ := List.mem_map.1 hs
    exact (hall p hp).1
  rw [← hl] at h2 h3
  obtain ⟨a1, a2, a3, a4, a5⟩ := each_all r hr n ins A u vs w h1.symm hn hv ht (fun p hp => (hall p hp).2) h2 h3
  refine ⟨a1.mono fun e w' he => ended_mono he fun t v e1 e2 => ⟨e2, ?_⟩, a2⟩
  have hlen : (tysOf vs).length = vs.length := List.length_map ..
  exact typeG_ok e1 (fun h0 => const_type hn.node hc (a3 h0)) ht (fun x y => by rw [hlen]; exact a4 x y) (fun x => by rw [hlen]; exact a5 x)

theorem out_of (n : Nod) (ins : List ByteArray) (A : At) (u : Sl) (vs : List (Val × List Int)) (w : World) (hl : Laid w) (hn : NodeAll w n ins A) (hv : ValsIn w u.v vs) : Calls Tryz.prog 10 #[nval n, .slice u.a u.n u.c] w (AttQ n.out w (outF n ins A vs)) := by
  refine out_any n u _ w fun wx hx => ?_
  have ho := hn.out
  refine (valueof_any n A ins u vs wx (hl.more hx) (hn.more hx).node (hv.more hx) (by omega) (typeG A (tysOf vs) (grp n.op).1) (dimsG A (dimsOf vs) (grp n.op).2) (fun hc hll hi wy hy => (made_of (hn.more (grown_trans hx hy)) (hv.more (grown_trans hx hy)) hc hll hi).1) (fun hc hll hi wy hy => (made_of (hn.more (grown_trans hx hy)) (hv.more (grown_trans hx hy)) hc hll hi).2)).mono fun e w' he => ?_
  exact ended_mono he fun r v e1 e2 => e2
end Go.Proofs.YtdcbjikjeicgbaaGreatDoor

/- Nodes and values that come in, opened, with all that infer asks of them. -/
namespace Go.Proofs.YtdcbjikjeicgbaaGreatDoor
open Go.RowKit Go.ChangeShapes

section
variable {H : Type} {enc : TypeId × Value → H} {W : World}

set_option maxRecDepth 100000 in
theorem i64s_inL {n : Nat} {cs : List Value} {x : DataW H × List MemPlace} (hf : DataW.trod enc Tryz.prog W 0 (fun _ => true) true n 53 cs = some x) (hb : Rows.uptoBulk x.1 ≤ 1048576) : ∃ (s : Sl) (zs : List Int), cs = [.slice s.a s.n s.c] ∧ IsInts W s.v zs ∧ zs.length ≤ 1048576 := by
  obtain ⟨s, zs, e, h1, h2, h3⟩ := list_of (bytes := 8) (size := 1) (f := icell) (P := fun z => -9223372036854775808 ≤ z ∧ z ≤ 9223372036854775807) Tryz.underlying53 cellsI64 (by decide) icell_len (by decide) (fun h _ => i64_in h) hf hb
  exact ⟨s, zs, e, ints_isL h1 h2, h3⟩

set_option maxRecDepth 100000 in
theorem attr_inR {n : Nat} {cs : List Value} {x : DataW H × List MemPlace} (hf : DataW.trod enc Tryz.prog W 0 (fun _ => true) true n 57 cs = some x) (hb : Rows.uptoBulk x.1 ≤ 1048576) : ∃ a : Atr, cs = acells a ∧ (∃ c, Has W a c ∧ c.i.length ≤ 1048576) ∧ a.s.size ≤ 1048576 ∧ (-9223372036854775808 ≤ a.i ∧ a.i ≤ 9223372036854775807) := by
  obtain ⟨xs, n', -, hx, hl, hlen, hfs⟩ := DataW.trod_struct Tryz.underlying57 hf
  rw [cellsAttr] at hl
  match cs, hl with
  | [c0, c1, c2, c3, c4, c5, c6, c7, c8], _ =>
    match xs, hlen with
    | [y0, y1, y2, y3, y4, y5, y6], _ =>
      have h0 := hfs 0 _ rfl
      have h1 := hfs 1 _ rfl
      have h2 := hfs 2 _ rfl
      have h3 := hfs 3 _ rfl
      have h4 := hfs 4 _ rfl
      have h5 := hfs 5 _ rfl
      have h6 := hfs 6 _ rfl
      simp [cellsStr] at h0 h4
      simp [cellsInt] at h1
      simp [cellsI64] at h2 h3
      simp [cellsTen] at h5
      simp [cellsSL] at h6
      rw [hx] at hb
      simp only [List.map_cons, List.map_nil, Rows.uptoBulk, Rows.uptoBulkAll] at hb
      obtain ⟨nm, e0, -, -⟩ := DataW.trod_string Tryz.underlying9 h0
      obtain ⟨kd, e1, -, -⟩ := DataW.trod_int Tryz.underlying3 h1
      obtain ⟨f, e2, -, -⟩ := DataW.trod_int Tryz.underlying2 h2
      obtain ⟨i, e3, -, wi⟩ := DataW.trod_int Tryz.underlying2 h3
      obtain ⟨s, e4, hs⟩ := str_in (M := 1048576) h4 (by omega)
      obtain ⟨ty, d, t, ds, ts, e5, i1, i2⟩ := ten_in h5 (by omega)
      obtain ⟨u, us, e6, i3, l3⟩ := i64s_inL h6 (by omega)
      simp [scell] at e0 e1 e2 e3 e4 e5 e6
      obtain ⟨e5, e7, e8⟩ := e5
      subst e0 e1 e2 e3 e4 e5 e6 e7 e8
      exact ⟨⟨nm, kd, f, i, s, ty, d, t, u⟩, rfl, ⟨⟨ds, ts, us⟩, ⟨i1, i2, i3⟩, l3⟩, hs, wf_bounds wi⟩

theorem conts_ofL : ∀ {xs : List Atr}, (∀ a ∈ xs, ∃ c, Has W a c ∧ c.i.length ≤ 1048576) → ∃ cs : List Cont, (∀ (j : Nat) (a : Atr), xs[j]? = some a → ∃ c, cs[j]? = some c ∧ Has W a c) ∧ ∀ c ∈ cs, c.i.length ≤ 1048576
  | [], _ => ⟨[], (fun j a h => by simp at h), fun c hc => by cases hc⟩
  | x :: l, h => by
    obtain ⟨c, hc, hcl⟩ := h x (by simp)
    obtain ⟨cs, hcs, hl⟩ := conts_ofL (xs := l) (fun a ha => h a (by simp [ha]))
    refine ⟨c :: cs, fun j a hj => ?_, fun d hd => ?_⟩
    · cases j with
      | zero =>
        obtain rfl : x = a := by simpa using hj
        exact ⟨c, rfl, hc⟩
      | succ j => exact hcs j a (by simpa using hj)
    · rcases List.mem_cons.1 hd with rfl | hd
      · exact hcl
      · exact hl d hd

set_option maxRecDepth 100000 in
theorem nodeall_in {n : Nat} {cs : List Value} {x : DataW H × List MemPlace} (hf : DataW.trod enc Tryz.prog W 0 (fun _ => true) true n 25 cs = some x) (hb : Rows.uptoBulk x.1 ≤ 1048576) :
    ∃ (nd : Nod) (ins : List ByteArray) (A : At), cs = [.string nd.op, .string nd.name, .slice nd.iv.a nd.iv.n nd.iv.c, .string nd.out, .slice nd.av.a nd.av.n nd.av.c] ∧ NodeAll W nd ins A ∧ A.xs.length ≤ 1048576 ∧ ins.length ≤ 1048576 := by
  obtain ⟨xs, n', -, hx, hl, hlen, hfs⟩ := DataW.trod_struct Tryz.underlying25 hf
  rw [cellsNode] at hl
  match cs, hl with
  | [c0, c1, c2, c3, c4], _ =>
    match xs, hlen with
    | [y0, y1, y2, y3, y4], _ =>
      have h0 := hfs 0 _ rfl
      have h1 := hfs 1 _ rfl
      have h2 := hfs 2 _ rfl
      have h3 := hfs 3 _ rfl
      have h4 := hfs 4 _ rfl
      simp [cellsStr] at h0 h1 h3
      simp [cellsSS] at h2
      simp [cellsSA] at h4
      rw [hx] at hb
      simp only [List.map_cons, List.map_nil, Rows.uptoBulk, Rows.uptoBulkAll] at hb
      obtain ⟨op, e0, -, -⟩ := DataW.trod_string Tryz.underlying9 h0
      obtain ⟨nm, e1, -, -⟩ := DataW.trod_string Tryz.underlying9 h1
      obtain ⟨iv, ins, e2, i1, z1, z2⟩ := strs_in h2 (by omega)
      obtain ⟨ot, e3, zo⟩ := str_in (M := 1048576) h3 (by omega)
      have : Inhabited Atr := ⟨noAtr⟩
      obtain ⟨av, ats, e4, i2, hall, hlen⟩ := list_of (bytes := 136) (size := 9) (f := acells) (P := fun a => (∃ c, Has W a c ∧ c.i.length ≤ 1048576) ∧ a.s.size ≤ 1048576 ∧ (-9223372036854775808 ≤ a.i ∧ a.i ≤ 9223372036854775807)) Tryz.underlying23 cellsAttr (by decide) acells_len (by decide) (fun h hb => attr_inR h hb) h4 (by omega)
      obtain ⟨ks, hks, hkl⟩ := conts_ofL (fun a ha => (hall a ha).1)
      simp [scell] at e0 e1 e2 e3 e4
      subst e0 e1 e2 e3 e4
      exact ⟨⟨op, nm, iv, ot, av⟩, ins, ⟨op, ats, ks⟩, rfl, ⟨⟨i1, i2, hks, Nat.le_trans hlen (by decide), fun a ha => (hall a ha).2.1⟩, rfl, fun a ha => (hall a ha).2.2, hkl, zo⟩, hlen, z2⟩

set_option maxRecDepth 100000 in
theorem vals_in {n : Nat} {cs : List Value} {x : DataW H × List MemPlace} (hf : DataW.trod enc Tryz.prog W 0 (fun _ => true) true n 26 cs = some x) (hb : Rows.uptoBulk x.1 ≤ 1048576) : ∃ (s : Sl) (vs : List (Val × List Int)), cs = [.slice s.a s.n s.c] ∧ ValsIn W s.v vs ∧ vs.length ≤ 1048576 := by
  have : Inhabited Val := ⟨⟨⟨#[]⟩, 0, ⟨none, 0, 0⟩⟩⟩
  obtain ⟨s, us, e, h1, h2, h3⟩ := list_of (bytes := 48) (size := 3) (f := vcells) (P := fun v => (∃ ds, IsInts W v.dv.v ds) ∧ v.name.size ≤ 1048576) Tryz.underlying26 cellsVal (by decide) vcells_len (by decide) (fun h hb => value_in h hb) hf hb
  obtain ⟨ps, q, b⟩ := pairs_of (fun a ha => (h2 a ha).1)
  have hl := congrArg List.length q
  simp only [List.length_map] at hl
  exact ⟨s, ps, e, ⟨by rw [q]; exact h1, b⟩, by omega⟩
end
end Go.Proofs.YtdcbjikjeicgbaaGreatDoor

/- Lists that are laid down by a literal. -/
namespace Go.Proofs.YtdcbjikjeicgbaaGreatDoor
open Go.RowKit

abbrev nilS : Sl := ⟨none, 0, 0⟩

theorem lit_isLG {α : Type} {te : TypeId} {size bytes : Nat} {f : α → List Value} (hf : ∀ a, (f a).length = size) {w : World} {B : Nat} {xs : List α} {cur : Array Value} (hb : w.heap[B]? = some (.cells cur te (0, 0))) (hc : cur.toList = xs.flatMap f) (hs : cur.size = xs.length * size) (hl : xs.length * bytes ≤ 140737488351232) (hm : xs.length ≤ 1048576) :
    IsL bytes size f w (.slice (some ⟨B, 0, none⟩) xs.length xs.length) xs := by
  refine OwnsL.isL (te := te) (base := 0) hf ?_ hl
  refine ⟨by rw [← hc, Array.length_toList, hs], Or.inr ⟨B, xs.length, cur, rfl, Nat.zero_le _, hb, Nat.le_refl _, by simp only [maxLen]; omega, hs, ?_⟩⟩
  rw [hc, List.take_of_length_le (by rw [← hc, Array.length_toList, hs]; exact Nat.le_refl _)]

theorem ints_nil (w : World) : IsInts w (.slice none 0 0) [] := ⟨none, 0, rfl, by simp, by simp, by simp, fun _ => ⟨rfl, rfl⟩, fun h => by simp at h, fun z hz => by simp at hz⟩
end Go.Proofs.YtdcbjikjeicgbaaGreatDoor

/- The statements' own live, by the walk. -/
namespace Go.Proofs.YtdcbjikjeicgbaaGreatDoor
open Go.RowKit

theorem lit_ints (w : World) (zs : List Int) (hl : zs.length ≤ 1024) (hz : ∀ z ∈ zs, -1024 ≤ z ∧ z ≤ 1024) : IsInts (w.alloc (.cells (zs.map (Value.int .i64)).toArray 3)) (.slice (some ⟨w.heap.size, 0, none⟩) zs.length zs.length) zs := by
  refine Owns.ints (base := 0) ⟨⟨by simp, Or.inr ⟨w.heap.size, zs.length, _, rfl, Nat.zero_le _, heap_alloc_new w _, Nat.le_refl _, by simp only [maxLen]; omega, by simp, ?_⟩⟩, by omega, fun z h => by have := hz z h; omega⟩
  rw [List.take_of_length_le (by simp)]

theorem nodeall_bare (w : World) (op out : ByteArray) (iv : Sl) (ins : List ByteArray) (hi : IsStrs w iv.v ins) (ho : out.size ≤ 1048576) : NodeAll w ⟨op, ⟨#[]⟩, iv, out, nilS⟩ ins ⟨op, [], []⟩ :=
  ⟨⟨hi, OwnsL.isL (te := 57) (base := 0) acells_len (OwnsL.nil ..) (by simp), (fun j a h => by simp at h), by simp, (fun a h => by cases h)⟩, rfl, (fun a h => by cases h), (fun c h => by cases h), ho⟩

def mmVs (a b : Sl) : List (Val × List Int) := [(⟨⟨#[]⟩, 1, a⟩, [5, 2, 3]), (⟨⟨#[]⟩, 1, b⟩, [3, 4])]
def reVs : List (Val × List Int) := [(⟨⟨#[]⟩, 6, nilS⟩, [])]

theorem mm_out (s a b : Sl) : outF ⟨⟨#[77, 97, 116, 77, 117, 108]⟩, ⟨#[]⟩, s, ⟨#[99]⟩, nilS⟩ [⟨#[97]⟩, ⟨#[98]⟩] ⟨⟨#[77, 97, 116, 77, 117, 108]⟩, [], []⟩ (mmVs a b) = .ok (1, [5, 2, 4]) := by kernel_rfl

theorem re_out (s : Sl) : outF ⟨⟨#[82, 101, 108, 117]⟩, ⟨#[]⟩, s, ⟨#[99]⟩, nilS⟩ [⟨#[97]⟩] ⟨⟨#[82, 101, 108, 117]⟩, [], []⟩ reVs = .error 4 := by kernel_rfl

theorem four (w : World) (a b c d : Obj) : ∀ W, W = (((w.alloc a).alloc b).alloc c).alloc d →
    W.heap[w.heap.size]? = some a ∧ W.heap[w.heap.size + 1]? = some b ∧ W.heap[w.heap.size + 1 + 1]? = some c ∧ W.heap[w.heap.size + 1 + 1 + 1]? = some d ∧ w.grownBy W none := by
  rintro W rfl
  have z : ∀ (x : World) (o : Obj), (x.alloc o).heap.size = x.heap.size + 1 := fun x o => by simp
  have k1 := heap_alloc_new w a
  have k2 := heap_alloc_new (w.alloc a) b
  have k3 := heap_alloc_new ((w.alloc a).alloc b) c
  have k4 := heap_alloc_new (((w.alloc a).alloc b).alloc c) d
  rw [z] at k2
  rw [z, z] at k3
  rw [z, z, z] at k4
  have up : ∀ {x : World} {i : Nat} {o : Obj} (p : Obj), x.heap[i]? = some o → (x.alloc p).heap[i]? = some o := fun {x i o} p h => ((grown_new x p).block i (Array.getElem?_eq_some_iff.1 h).1 (by simp)).trans h
  exact ⟨up _ (up _ (up _ k1)), up _ (up _ k2), up _ k3, k4, grown_trans (grown_trans (grown_trans (grown_new _ _) (grown_new _ _)) (grown_new _ _)) (grown_new _ _)⟩

theorem mm_in (w : World) (W : World) (hW : W = (((w.alloc (.cells #[.string ⟨#[97]⟩, .string ⟨#[98]⟩] 9)).alloc (.cells #[.int .i64 5, .int .i64 2, .int .i64 3] 3)).alloc (.cells #[.int .i64 3, .int .i64 4] 3)).alloc (.cells #[.string ⟨#[]⟩, .int .i64 1, .slice (some ⟨w.heap.size + 1, 0, none⟩) 3 3, .string ⟨#[]⟩, .int .i64 1, .slice (some ⟨w.heap.size + 1 + 1, 0, none⟩) 2 2] 31)) :
    w.grownBy W none ∧ NodeAll W ⟨⟨#[77, 97, 116, 77, 117, 108]⟩, ⟨#[]⟩, ⟨some ⟨w.heap.size, 0, none⟩, 2, 2⟩, ⟨#[99]⟩, nilS⟩ [⟨#[97]⟩, ⟨#[98]⟩] ⟨⟨#[77, 97, 116, 77, 117, 108]⟩, [], []⟩ ∧ ValsIn W (.slice (some ⟨w.heap.size + 1 + 1 + 1, 0, none⟩) 2 2) (mmVs ⟨some ⟨w.heap.size + 1, 0, none⟩, 3, 3⟩ ⟨some ⟨w.heap.size + 1 + 1, 0, none⟩, 2, 2⟩) := by
  obtain ⟨h0, h1, h2, h3, hg⟩ := four w _ _ _ _ W hW
  have ii : ∀ (B : Nat) (zs : List Int), W.heap[B]? = some (.cells (zs.map (Value.int .i64)).toArray 3 (0, 0)) → zs.length ≤ 1024 → (∀ z ∈ zs, -1024 ≤ z ∧ z ≤ 1024) → IsInts W (.slice (some ⟨B, 0, none⟩) zs.length zs.length) zs := by
    intro B zs hb hl hz
    refine Owns.ints (base := 0) ⟨⟨by simp, Or.inr ⟨B, zs.length, _, rfl, Nat.zero_le _, hb, Nat.le_refl _, by simp only [maxLen]; omega, by simp, ?_⟩⟩, by omega, fun z h => by have := hz z h; omega⟩
    rw [List.take_of_length_le (by simp)]
  refine ⟨hg, nodeall_bare W _ _ _ _ (lit_isLG (te := 9) (bytes := 16) (xs := [⟨#[97]⟩, ⟨#[98]⟩]) scell_len h0 rfl rfl (Nat.le_of_ble_eq_true rfl) (Nat.le_of_ble_eq_true rfl)) (by decide), ⟨?_, fun p hp => ?_⟩⟩
  · exact lit_isLG (te := 31) (bytes := 48) (xs := (mmVs ⟨some ⟨w.heap.size + 1, 0, none⟩, 3, 3⟩ ⟨some ⟨w.heap.size + 1 + 1, 0, none⟩, 2, 2⟩).map (·.1)) vcells_len h3 rfl rfl (Nat.le_of_ble_eq_true rfl) (Nat.le_of_ble_eq_true rfl)
  · simp only [mmVs, List.mem_cons, List.not_mem_nil, or_false] at hp
    rcases hp with rfl | rfl
    · exact ii _ [5, 2, 3] h1 (by simp) (by simp)
    · exact ii _ [3, 4] h2 (by simp) (by simp)

theorem re_in (w : World) (W : World) (hW : W = (w.alloc (.cells #[.string ⟨#[97]⟩] 9)).alloc (.cells #[.string ⟨#[]⟩, .int .i64 6, .slice none 0 0] 31)) :
    w.grownBy W none ∧ NodeAll W ⟨⟨#[82, 101, 108, 117]⟩, ⟨#[]⟩, ⟨some ⟨w.heap.size, 0, none⟩, 1, 1⟩, ⟨#[99]⟩, nilS⟩ [⟨#[97]⟩] ⟨⟨#[82, 101, 108, 117]⟩, [], []⟩ ∧ ValsIn W (.slice (some ⟨w.heap.size + 1, 0, none⟩) 1 1) reVs := by
  subst hW
  obtain ⟨h0, h1⟩ := two_boxes w (.cells #[.string ⟨#[97]⟩] 9) (.cells #[.string ⟨#[]⟩, .int .i64 6, .slice none 0 0] 31)
  refine ⟨grown_trans (grown_new _ _) (grown_new _ _), nodeall_bare _ _ _ _ _ (lit_isLG (te := 9) (bytes := 16) (xs := [⟨#[97]⟩]) scell_len h0 rfl rfl (Nat.le_of_ble_eq_true rfl) (Nat.le_of_ble_eq_true rfl)) (by decide), ⟨?_, fun p hp => ?_⟩⟩
  · exact lit_isLG (te := 31) (bytes := 48) (xs := reVs.map (·.1)) vcells_len h1 rfl rfl (Nat.le_of_ble_eq_true rfl) (Nat.le_of_ble_eq_true rfl)
  · simp only [reVs, List.mem_cons, List.not_mem_nil, or_false] at hp
    subst hp
    exact ints_nil _

set_option maxRecDepth 100000 in
set_option maxHeartbeats 6400000 in
theorem ilive_any (w : World) (hl : Laid w) : Calls Tryz.prog 14 #[] w fun e w' => e = .returned (.bool true) ∧ w.grownBy w' none := by
  have HL := hide hl
  clear hl
  obtain ⟨W, hW⟩ : ∃ W, W = (((w.alloc (.cells #[.string ⟨#[97]⟩, .string ⟨#[98]⟩] 9)).alloc (.cells #[.int .i64 5, .int .i64 2, .int .i64 3] 3)).alloc (.cells #[.int .i64 3, .int .i64 4] 3)).alloc (.cells #[.string ⟨#[]⟩, .int .i64 1, .slice (some ⟨w.heap.size + 1, 0, none⟩) 3 3, .string ⟨#[]⟩, .int .i64 1, .slice (some ⟨w.heap.size + 1 + 1, 0, none⟩) 2 2] 31) := ⟨_, rfl⟩
  obtain ⟨gW, nW, vW⟩ := mm_in w W hW
  have GW := hide gW
  have O1 := hide (out_of _ _ _ ⟨some ⟨w.heap.size + 1 + 1 + 1, 0, none⟩, 2, 2⟩ _ W (HL.out.more gW) nW vW)
  rw [mm_out] at O1
  unfold nval nilS at O1
  simp only at O1
  clear gW nW vW
  go_enter Tryz.func14, Tryz.ntmps14
  go_wp2_with fail
  rw [← hW]
  clear hW
  refine O1.out.mono ?_
  rintro e w1 ⟨hg1, ⟨sa, sn, sc⟩, rfl, ho⟩
  have G1 := hide (grown_trans GW.out hg1)
  clear hg1 O1
  have HO := hide ho.ints
  clear ho
  unfold Sl.v at HO
  simp only at HO ⊢
  obtain ⟨w2, hw2⟩ : ∃ w2, w2 = w1.alloc (.cells #[.string ⟨#[99]⟩, .int .i64 1, .slice sa sn sc] 31) := ⟨_, rfl⟩
  have B2 := heap_alloc_new w1 (.cells #[.string ⟨#[99]⟩, .int .i64 1, .slice sa sn sc] 31)
  rw [← hw2] at B2
  have G2 : Hid (w1.grownBy w2 none) := by show w1.grownBy w2 none; rw [hw2]; exact grown_new _ _
  obtain ⟨V, hV⟩ : ∃ V, V = (w2.alloc (.cells #[.string ⟨#[97]⟩] 9)).alloc (.cells #[.string ⟨#[]⟩, .int .i64 6, .slice none 0 0] 31) := ⟨_, rfl⟩
  obtain ⟨gV, nV, vV⟩ := re_in w2 V hV
  have GV := hide gV
  have O2 := hide (out_of _ _ _ ⟨some ⟨w2.heap.size + 1, 0, none⟩, 1, 1⟩ _ V (HL.out.more (grown_trans (grown_trans G1.out G2.out) gV)) nV vV)
  rw [re_out, show w2.heap.size = w1.heap.size + 1 from by rw [hw2]; simp] at O2
  unfold nval nilS at O2
  simp only at O2
  have BB := hide B2
  clear gV nV vV B2
  go_wp2_with fail
  rw [← hw2, ← hV]
  clear hw2 hV
  refine O2.out.mono ?_
  rintro e w3 ⟨hg3, rfl⟩
  have G3 := hide (grown_trans GV.out hg3)
  clear hg3 O2
  have B4 := box_kept BB.out (grown_trans G3.out (grown_new w3 (.cells #[.string ⟨#[]⟩, .int .i64 0, .slice none 0 0] 31)))
  have c0 := (cell_of_row _ _ 0 _ _ (0, 0) B4).trans rfl
  have c1 := (cell_of_row _ _ 1 _ _ (0, 0) B4).trans rfl
  have c2 := (cell_of_row _ _ 2 _ _ (0, 0) B4).trans rfl
  have SA := hide (same_any _ _ [5, 2, 4] [5, 2, 4] ((w3.alloc (.cells #[.string ⟨#[]⟩, .int .i64 0, .slice none 0 0] 31)).alloc (.cells #[.int .i64 5, .int .i64 2, .int .i64 4] 3)) (HO.out.more (grown_trans (grown_trans (grown_trans G2.out G3.out) (grown_new _ _)) (grown_new _ _))) (lit_ints (w3.alloc (.cells #[.string ⟨#[]⟩, .int .i64 0, .slice none 0 0] 31)) [5, 2, 4] (by simp) (by simp)))
  obtain ⟨w5, hw5⟩ : ∃ w5, w5 = (w3.alloc (.cells #[.string ⟨#[]⟩, .int .i64 0, .slice none 0 0] 31)).alloc (.cells #[.int .i64 5, .int .i64 2, .int .i64 4] 3) := ⟨_, rfl⟩
  have G5 : Hid (w.grownBy w5 none) := by show w.grownBy w5 none; rw [hw5]; exact grown_trans (grown_trans (grown_trans (grown_trans G1.out G2.out) G3.out) (grown_new _ _)) (grown_new _ _)
  have Z5 : Hid ((w3.alloc (.cells #[.string ⟨#[]⟩, .int .i64 0, .slice none 0 0] 31)).heap.size = w3.heap.size + 1) := by show _ = _; simp
  rw [← hw5, Z5.out] at SA
  clear B4 BB Z5
  go_wp2_with fail
  rw [← hw5]
  clear hw5
  refine SA.out.mono ?_
  rintro e w6 ⟨rfl, hg6⟩
  rw [show decide True = true from rfl]
  go_wp2
  go_ret
  exact ⟨rfl, grown_trans G5.out hg6⟩
end Go.Proofs.YtdcbjikjeicgbaaGreatDoor

/- What infer answers, in plain facts: errors are not nought; names and places make no difference; two in either order. -/
namespace Go.Proofs.YtdcbjikjeicgbaaGreatDoor

/-- An error is never nought. -/
def NZ {α : Type} (r : R α) : Prop := ∀ c, r = .error c → c ≠ 0

theorem NZ.ok {α : Type} {a : α} : NZ (.ok a : R α) := fun c h => by cases h
theorem NZ.err {α : Type} {c : Int} (h : c ≠ 0) : NZ (.error c : R α) := fun d e => by cases e; exact h
theorem NZ.bind {α β : Type} {r : R α} {f : α → R β} (h : NZ r) (hf : ∀ a, r = .ok a → NZ (f a)) : NZ (r.bind f) := by
  cases r with
  | error c => exact fun d e => h d (by cases e; rfl)
  | ok a => exact hf a rfl
theorem NZ.must {b : Bool} : NZ (mustP b) := by
  unfold mustP
  split
  · exact .ok
  · exact .err (by decide)
theorem NZ.stop {e : Int} : NZ (stopP e) := by
  unfold stopP
  split
  · exact .ok
  · exact .err (by assumption)
theorem NZ.typ {t : Int} : NZ (typP t) := by
  unfold typP
  split
  · exact .ok
  · exact .err (by decide)
theorem NZ.count {zs : List Int} : NZ (countP zs) := by
  unfold countP
  split
  · exact .ok
  · exact .err (by assumption)
theorem NZ.spread {a b : List Int} : NZ (spreadP a b) := by
  unfold spreadP
  split
  · exact .ok
  · exact .err (by assumption)
theorem NZ.axis {a : Int} {r : Nat} : NZ (axisP a r) := by
  unfold axisP
  split
  · exact .ok
  · exact .err (by decide)
theorem NZ.axes {l : List Int} {r : Nat} : NZ (axesP l r) := by
  unfold axesP
  split
  · exact .ok
  · exact .err (by decide)
theorem NZ.isOn {x : Int} : NZ (isOnP x) := by
  unfold isOnP
  split
  · exact .ok
  · split
    · exact .ok
    · exact .err (by decide)
theorem NZ.same {l : List Int} : NZ (sameP l) := by
  cases l with
  | nil => exact .ok
  | cons t l =>
    simp only [sameP]
    split
    · exact .ok
    · exact .err (by decide)

theorem NZ.shape {x : List Int} {count : Int} : ∀ {l : List Int} {i : Nat} {left : Option Nat} {known : Int} {dims : List Int}, NZ (shapeP x count l i left known dims)
  | [], _, _, _, _ => .ok
  | d :: l, i, left, known, dims => by
    unfold shapeP
    refine NZ.bind ?_ fun a _ => NZ.bind .must fun _ _ => NZ.bind .must fun _ _ => NZ.shape
    split
    · split
      · exact .ok
      · exact .err (by decide)
    · split
      · split
        · exact .ok
        · exact .err (by decide)
      · exact .ok

theorem NZ.map {α β : Type} {r : R α} {f : α → β} (h : NZ r) : NZ (r.map f) := by
  cases r with
  | error c => exact fun d e => h d (by cases e; rfl)
  | ok a => exact .ok

theorem NZ.perm {x : List Int} : ∀ {l : List Int}, NZ (permL x l)
  | [] => .ok
  | p :: l => by
    unfold permL
    split
    · exact NZ.map NZ.perm
    · exact .err (by decide)

theorem NZ.join {a : Nat} : ∀ {l : List (List Int)} {d : List Int}, NZ (joinL a l d)
  | [], _ => .ok
  | _ :: _, _ => NZ.bind .must fun _ _ => NZ.bind .must fun _ _ => NZ.join

theorem NZ.slice {x : List Int} : ∀ {al ss es d : List Int}, NZ (sliceL x al ss es d)
  | [], _, _, _ => by unfold sliceL; exact .ok
  | _ :: _, [], _, _ => by unfold sliceL; exact .ok
  | _ :: _, _ :: _, [], _ => by unfold sliceL; exact .ok
  | _ :: _, _ :: _, _ :: _, _ => NZ.bind .axis fun _ _ => NZ.bind .must fun _ _ => NZ.slice

theorem NZ.pad {r : Nat} : ∀ {l : List Int} {i : Nat} {d : List Int}, NZ (padL r l i d)
  | [], _, _ => .ok
  | _ :: _, _, _ => NZ.bind .must fun _ _ => NZ.pad

theorem NZ.squeeze : ∀ {l : List Int} {g : List Bool}, NZ (squeezeL l g)
  | [], _ => by unfold squeezeL; exact .ok
  | _ :: _, [] => by unfold squeezeL; exact .ok
  | d :: l, g :: gs => by
    unfold squeezeL
    split
    · split
      · exact NZ.squeeze
      · exact .err (by decide)
    · exact NZ.map NZ.squeeze

theorem NZ.within {l : List Int} {m : Nat} {b : Int} : NZ (withinP l m b) := NZ.bind .must fun _ _ => NZ.bind .must fun _ _ => .ok

theorem NZ.places {A : At} {x k : List Int} {n : Nat} : NZ (placesP A x k n) := NZ.bind .within fun _ _ => NZ.bind .within fun _ _ => NZ.bind .within fun _ _ => NZ.bind .must fun _ _ => .ok

theorem NZ.product {x y : List Int} : NZ (productP x y) := NZ.bind .must fun _ _ => NZ.bind .must fun _ _ => NZ.bind .spread fun _ _ => .ok

theorem NZ.turned {x : List Int} {t : Int} : NZ (turnedP x t) := NZ.bind .must fun _ _ => NZ.bind .isOn fun _ _ => .ok

theorem NZ.gemm {A : At} {x y : List Int} {z : Option (List Int)} : NZ (gemmP A x y z) := by
  refine NZ.bind .turned fun _ _ => NZ.bind .turned fun _ _ => NZ.bind .product fun _ _ => ?_
  cases z with
  | none => exact .ok
  | some c => exact NZ.bind .spread fun _ _ => NZ.bind .must fun _ _ => .ok

theorem NZ.conv {A : At} {x y : List Int} {z : Option (List Int)} : NZ (convolvedP A x y z) := NZ.bind .must fun _ _ => NZ.bind .must fun _ _ => NZ.bind .must fun _ _ => NZ.bind .must fun _ _ => NZ.bind .places fun _ _ => NZ.bind .places fun _ _ => .ok

theorem NZ.dims {A : At} {D : List (List Int)} {g : Nat} : NZ (dimsG A D g) := by
  match g with
  | 0 => exact .ok
  | 1 => exact .ok
  | 2 => exact .spread
  | 3 => exact NZ.bind .spread fun _ _ => .spread
  | 4 => exact NZ.bind .axes fun _ _ => .ok
  | 5 => exact NZ.bind .isOn fun _ _ => NZ.bind .axes fun _ _ => .ok
  | 6 => exact NZ.bind .count fun _ _ => NZ.bind .shape fun _ _ => NZ.bind .must fun _ _ => .ok
  | 7 => exact .spread
  | 8 => exact NZ.bind .must fun _ _ => NZ.bind .axes fun _ _ => .perm
  | 9 => exact NZ.bind .axis fun _ _ => .join
  | 10 => exact NZ.bind .must fun _ _ => NZ.bind .axes fun _ _ => .slice
  | 11 => exact NZ.bind .axis fun _ _ => .ok
  | 12 => exact NZ.bind .must fun _ _ => .pad
  | 13 => exact NZ.bind .axes fun _ _ => .squeeze
  | 14 => exact NZ.bind .axes fun _ _ => .ok
  | 15 => exact NZ.bind .must fun _ _ => NZ.bind .count fun _ _ => NZ.bind .count fun _ _ => .ok
  | 16 => exact .product
  | 17 => exact .gemm
  | 18 => exact .conv
  | 19 => exact NZ.bind .must fun _ _ => NZ.bind .within fun _ _ => NZ.bind .within fun _ _ => NZ.bind .must fun _ _ => NZ.bind .places fun _ _ => NZ.bind .places fun _ _ => .ok
  | 20 => exact NZ.bind .must fun _ _ => .ok
  | 21 => exact NZ.bind .must fun _ _ => NZ.bind .must fun _ _ => .ok
  | n + 22 => exact .err (by decide)

theorem NZ.type {A : At} {ts : List Int} {g : Nat} : NZ (typeG A ts g) := by
  match g with
  | 0 => exact .ok
  | 1 => exact NZ.bind .typ fun _ _ => .ok
  | 2 => exact NZ.bind .must fun _ _ => .same
  | 3 => exact .same
  | 4 => exact NZ.bind .must fun _ _ => .ok
  | 5 => exact NZ.bind .must fun _ _ => .ok
  | 6 => exact NZ.bind .must fun _ _ => .ok
  | 7 => exact NZ.bind .same fun _ _ => NZ.bind .must fun _ _ => .ok
  | 8 => exact NZ.bind .same fun _ _ => NZ.bind .must fun _ _ => .ok
  | 9 => exact NZ.bind .same fun _ _ => NZ.bind .must fun _ _ => .ok
  | 10 => exact NZ.bind .same fun _ _ => NZ.bind .must fun _ _ => .ok
  | n + 11 => exact .err (by decide)

theorem NZ.vin : ∀ {vs : List (Val × List Int)}, NZ (vinP vs)
  | [] => .ok
  | _ :: _ => NZ.bind .typ fun _ _ => NZ.bind .count fun _ _ => NZ.vin

theorem NZ.thens {t : Int} : ∀ {os : List ByteArray}, NZ (thenP t os)
  | [] => .ok
  | _ :: _ => NZ.bind .must fun _ _ => NZ.thens

theorem outF_err {n : Nod} {ins : List ByteArray} {A : At} {vs : List (Val × List Int)} {c : Int} (h : outF n ins A vs = .error c) : c ≠ 0 :=
  (NZ.bind .stop fun _ _ => NZ.bind .must fun _ _ => NZ.bind .vin fun _ _ => NZ.bind .type fun _ _ => NZ.bind .dims fun _ _ => NZ.bind .count fun _ _ => NZ.bind .thens fun _ _ => .ok : NZ (outF n ins A vs)) c h

/-- What an answer says. -/
structure OutOk (n : Nod) (ins : List ByteArray) (A : At) (vs : List (Val × List Int)) (r : Int × List Int) : Prop where
  chk : checkF (ruleF n.op) n.op ins n.out A.xs A.cs = 0
  len : vs.length = ins.length
  vin : vinP vs = .ok ()
  typ : typeG A (tysOf vs) (grp n.op).1 = .ok r.1
  dim : dimsG A (dimsOf vs) (grp n.op).2 = .ok r.2
  cnt : cntE r.2 = 0
  thn : thenP r.1 (thenL (A.xs.find? (isA ⟨#[116, 104, 101, 110]⟩ 3))) = .ok ()

theorem must_ok {b : Bool} {u : Unit} (h : mustP b = .ok u) : b = true := by
  unfold mustP at h
  split at h
  · assumption
  · cases h

theorem stop_ok' {e : Int} {u : Unit} (h : stopP e = .ok u) : e = 0 := by
  unfold stopP at h
  split at h
  · assumption
  · cases h

theorem count_ok' {zs : List Int} {c : Int} (h : countP zs = .ok c) : cntE zs = 0 := by
  unfold countP at h
  split at h
  · assumption
  · cases h

theorem outF_ok {n : Nod} {ins : List ByteArray} {A : At} {vs : List (Val × List Int)} {r : Int × List Int} (h : outF n ins A vs = .ok r) : OutOk n ins A vs r := by
  unfold outF valueP at h
  obtain ⟨_, h1, h⟩ := bind_ok h
  obtain ⟨_, h2, h⟩ := bind_ok h
  obtain ⟨_, h3, h⟩ := bind_ok h
  obtain ⟨t, h4, h⟩ := bind_ok h
  obtain ⟨d, h5, h⟩ := bind_ok h
  obtain ⟨_, h6, h⟩ := bind_ok h
  obtain ⟨_, h7, h⟩ := bind_ok h
  cases h
  exact ⟨stop_ok' h1, of_decide_eq_true (must_ok h2), h3, h4, h5, count_ok' h6, h7⟩

theorem OutOk.eq {n : Nod} {ins : List ByteArray} {A : At} {vs : List (Val × List Int)} {r : Int × List Int} (h : OutOk n ins A vs r) : outF n ins A vs = .ok r := by
  unfold outF valueP
  have e1 : stopP (checkF (ruleF n.op) n.op ins n.out A.xs A.cs) = .ok () := by rw [h.chk]; rfl
  have e2 : mustP (decide (vs.length = ins.length)) = .ok () := by rw [decide_eq_true h.len]; rfl
  have e3 : countP r.2 = .ok (prod r.2) := by unfold countP; rw [if_pos h.cnt]
  rw [e1, e2, h.vin, h.typ, h.dim]
  show (countP r.2).bind _ = _
  rw [e3]
  show (thenP r.1 _).bind _ = _
  rw [h.thn]
  rfl

theorem OutOk.typed {n : Nod} {ins : List ByteArray} {A : At} {vs : List (Val × List Int)} {r : Int × List Int} {w : World} {u : Sl} (h : OutOk n ins A vs r) (hn : NodeAll w n ins A) (hv : ValsIn w u.v vs) : isTypeP r.1 = true := by
  obtain ⟨q, hr, h1, h2, h3⟩ := checkF_zero h.chk
  have hall := vinP_all h.vin
  have ht : ∀ s ∈ tysOf vs, isTypeP s = true := by
    intro s hs
    obtain ⟨p, hp, rfl⟩ := List.mem_map.1 hs
    exact (hall p hp).1
  rw [← h.len] at h2 h3
  obtain ⟨a1, a2, a3, a4, a5⟩ := each_all q hr n ins A u vs w h1.symm hn hv ht (fun p hp => (hall p hp).2) h2 h3
  have hlen : (tysOf vs).length = vs.length := List.length_map ..
  exact typeG_ok h.typ (fun h0 => const_type hn.node h.chk (a3 h0)) ht (fun x y => by rw [hlen]; exact a4 x y) (fun x => by rw [hlen]; exact a5 x)
end Go.Proofs.YtdcbjikjeicgbaaGreatDoor
