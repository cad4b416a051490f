/- workOf of any operator, by the walk (mkElDo.py). -/
import Derived.Test.YteigfipgmghgmaaGreatDoorElWk
import Derived.Test.YteigfipgmghgmaaGreatDoorNReads
namespace Go.Proofs.YteigfipgmghgmaaGreatDoor
open Go.RowKit

set_option maxRecDepth 100000 in
set_option maxHeartbeats 16000000 in
theorem wof_1 (n : Nod) (hop : n.op ∈ ([⟨#[73, 100, 101, 110, 116, 105, 116, 121]⟩, ⟨#[78, 101, 103]⟩, ⟨#[65, 98, 115]⟩, ⟨#[78, 111, 116]⟩, ⟨#[82, 101, 108, 117]⟩, ⟨#[83, 113, 114, 116]⟩, ⟨#[70, 108, 111, 111, 114]⟩, ⟨#[69, 120, 112]⟩, ⟨#[83, 105, 103, 109, 111, 105, 100]⟩, ⟨#[84, 97, 110, 104]⟩] : List ByteArray)) (u : Sl) (a0 a1 a2 : Value) (w : World) :
    Calls Tryz.prog 21 #[nval n, .slice u.a u.n u.c, .agg #[a0, a1, a2]] w fun e w' => e = .returned (.func (.func 28) #[] #[.pointer (some ⟨w.heap.size, 0, none⟩), .pointer (some ⟨w.heap.size + 1, 0, none⟩)]) ∧ w.grownBy w' none ∧ w'.heap[w.heap.size]? = some (.cells #[.string n.op, .string n.name, .slice n.iv.a n.iv.n n.iv.c, .string n.out, .slice n.av.a n.av.n n.av.c] 25 (0, 0)) ∧ w'.heap[w.heap.size + 1]? = some (.cells #[.slice u.a u.n u.c] 26 (0, 0)) := by
  have hmf : ∀ (fn : Fn) (first cap : Array Value) (w : World), (Instr.makeFunc fn first cap).run Tryz.prog w = .ok (.func fn first cap) w := fun _ _ _ _ => rfl
  obtain ⟨op, nam, ⟨ia, il, ic⟩, out, ⟨ao, al, cap⟩⟩ := n
  obtain ⟨ua, un, uc⟩ := u
  unfold nval
  simp only at hop ⊢
  have B3 := hide (three_boxes w (.cells #[.string op, .string nam, .slice ia il ic, .string out, .slice ao al cap] 25) (.cells #[.slice ua un uc] 26) (.cells #[a0, a1, a2] 53))
  have G3 := hide (grown_trans (grown_trans (grown_new w (.cells #[.string op, .string nam, .slice ia il ic, .string out, .slice ao al cap] 25)) (grown_new _ (.cells #[.slice ua un uc] 26))) (grown_new _ (.cells #[a0, a1, a2] 53)))
  simp only [List.mem_cons, List.not_mem_nil, or_false] at hop
  rcases hop with rfl | rfl | rfl | rfl | rfl | rfl | rfl | rfl | rfl | rfl
  all_goals
    go_enter Tryz.func21, Tryz.ntmps21
    go_wp2
    go_ret
    exact ⟨rfl, G3.out, B3.out.1, B3.out.2.1⟩

set_option maxRecDepth 100000 in
set_option maxHeartbeats 16000000 in
theorem wof_where (n : Nod) (hop : n.op = ⟨#[87, 104, 101, 114, 101]⟩) (u : Sl) (a0 a1 a2 : Value) (w : World) :
    Calls Tryz.prog 21 #[nval n, .slice u.a u.n u.c, .agg #[a0, a1, a2]] w fun e w' => e = .returned (.func (.func 32) #[] #[]) ∧ w.grownBy w' none := by
  have hmf : ∀ (fn : Fn) (first cap : Array Value) (w : World), (Instr.makeFunc fn first cap).run Tryz.prog w = .ok (.func fn first cap) w := fun _ _ _ _ => rfl
  obtain ⟨op, nam, ⟨ia, il, ic⟩, out, ⟨ao, al, cap⟩⟩ := n
  obtain ⟨ua, un, uc⟩ := u
  unfold nval
  simp only at hop ⊢
  have B3 := hide (three_boxes w (.cells #[.string op, .string nam, .slice ia il ic, .string out, .slice ao al cap] 25) (.cells #[.slice ua un uc] 26) (.cells #[a0, a1, a2] 53))
  have G3 := hide (grown_trans (grown_trans (grown_new w (.cells #[.string op, .string nam, .slice ia il ic, .string out, .slice ao al cap] 25)) (grown_new _ (.cells #[.slice ua un uc] 26))) (grown_new _ (.cells #[a0, a1, a2] 53)))
  subst hop
  go_enter Tryz.func21, Tryz.ntmps21
  go_wp2
  go_ret
  exact ⟨rfl, G3.out⟩

set_option maxRecDepth 100000 in
set_option maxHeartbeats 16000000 in
theorem wof_cast (n : Nod) (hop : n.op = ⟨#[67, 97, 115, 116]⟩) (u : Sl) (a0 a1 a2 : Value) (w : World) :
    Calls Tryz.prog 21 #[nval n, .slice u.a u.n u.c, .agg #[a0, a1, a2]] w fun e w' => e = .returned (.func (.func 35) #[] #[.pointer (some ⟨w.heap.size + 1, 0, none⟩), .pointer (some ⟨w.heap.size + 2, 0, none⟩)]) ∧ w.grownBy w' none ∧ w'.heap[w.heap.size + 1]? = some (.cells #[.slice u.a u.n u.c] 26 (0, 0)) ∧ w'.heap[w.heap.size + 2]? = some (.cells #[a0, a1, a2] 53 (0, 0)) := by
  have hmf : ∀ (fn : Fn) (first cap : Array Value) (w : World), (Instr.makeFunc fn first cap).run Tryz.prog w = .ok (.func fn first cap) w := fun _ _ _ _ => rfl
  obtain ⟨op, nam, ⟨ia, il, ic⟩, out, ⟨ao, al, cap⟩⟩ := n
  obtain ⟨ua, un, uc⟩ := u
  unfold nval
  simp only at hop ⊢
  have B3 := hide (three_boxes w (.cells #[.string op, .string nam, .slice ia il ic, .string out, .slice ao al cap] 25) (.cells #[.slice ua un uc] 26) (.cells #[a0, a1, a2] 53))
  have G3 := hide (grown_trans (grown_trans (grown_new w (.cells #[.string op, .string nam, .slice ia il ic, .string out, .slice ao al cap] 25)) (grown_new _ (.cells #[.slice ua un uc] 26))) (grown_new _ (.cells #[a0, a1, a2] 53)))
  subst hop
  go_enter Tryz.func21, Tryz.ntmps21
  go_wp2
  go_ret
  exact ⟨rfl, G3.out, B3.out.2.1, B3.out.2.2⟩

set_option maxRecDepth 100000 in
set_option maxHeartbeats 16000000 in
theorem wof_none (n : Nod) (hop : n.op.toList ∉ ([[73, 100, 101, 110, 116, 105, 116, 121], [78, 101, 103], [65, 98, 115], [78, 111, 116], [82, 101, 108, 117], [83, 113, 114, 116], [70, 108, 111, 111, 114], [69, 120, 112], [83, 105, 103, 109, 111, 105, 100], [84, 97, 110, 104], [65, 100, 100], [83, 117, 98], [77, 117, 108], [68, 105, 118], [77, 97, 120], [77, 105, 110], [65, 110, 100], [79, 114], [88, 111, 114], [69, 113, 117, 97, 108], [76, 101, 115, 115], [71, 114, 101, 97, 116, 101, 114], [87, 104, 101, 114, 101], [67, 108, 105, 112], [67, 97, 115, 116]] : List (List UInt8))) (u : Sl) (a0 a1 a2 : Value) (w : World) :
    Calls Tryz.prog 21 #[nval n, .slice u.a u.n u.c, .agg #[a0, a1, a2]] w fun e w' => e = .returned .nilFunc ∧ w.grownBy w' none := by
  have hmf : ∀ (fn : Fn) (first cap : Array Value) (w : World), (Instr.makeFunc fn first cap).run Tryz.prog w = .ok (.func fn first cap) w := fun _ _ _ _ => rfl
  obtain ⟨op, nam, ⟨ia, il, ic⟩, out, ⟨ao, al, cap⟩⟩ := n
  obtain ⟨ua, un, uc⟩ := u
  unfold nval
  simp only at hop ⊢
  have B3 := hide (three_boxes w (.cells #[.string op, .string nam, .slice ia il ic, .string out, .slice ao al cap] 25) (.cells #[.slice ua un uc] 26) (.cells #[a0, a1, a2] 53))
  have G3 := hide (grown_trans (grown_trans (grown_new w (.cells #[.string op, .string nam, .slice ia il ic, .string out, .slice ao al cap] 25)) (grown_new _ (.cells #[.slice ua un uc] 26))) (grown_new _ (.cells #[a0, a1, a2] 53)))
  simp only [List.mem_cons, List.not_mem_nil, or_false, not_or] at hop
  obtain ⟨m0, m1, m2, m3, m4, m5, m6, m7, m8, m9, m10, m11, m12, m13, m14, m15, m16, m17, m18, m19, m20, m21, m22, m23, m24⟩ := hop
  have d0 : (op.toList == [73, 100, 101, 110, 116, 105, 116, 121]) = false := by simpa using m0
  have d1 : (op.toList == [78, 101, 103]) = false := by simpa using m1
  have d2 : (op.toList == [65, 98, 115]) = false := by simpa using m2
  have d3 : (op.toList == [78, 111, 116]) = false := by simpa using m3
  have d4 : (op.toList == [82, 101, 108, 117]) = false := by simpa using m4
  have d5 : (op.toList == [83, 113, 114, 116]) = false := by simpa using m5
  have d6 : (op.toList == [70, 108, 111, 111, 114]) = false := by simpa using m6
  have d7 : (op.toList == [69, 120, 112]) = false := by simpa using m7
  have d8 : (op.toList == [83, 105, 103, 109, 111, 105, 100]) = false := by simpa using m8
  have d9 : (op.toList == [84, 97, 110, 104]) = false := by simpa using m9
  have d10 : (op.toList == [65, 100, 100]) = false := by simpa using m10
  have d11 : (op.toList == [83, 117, 98]) = false := by simpa using m11
  have d12 : (op.toList == [77, 117, 108]) = false := by simpa using m12
  have d13 : (op.toList == [68, 105, 118]) = false := by simpa using m13
  have d14 : (op.toList == [77, 97, 120]) = false := by simpa using m14
  have d15 : (op.toList == [77, 105, 110]) = false := by simpa using m15
  have d16 : (op.toList == [65, 110, 100]) = false := by simpa using m16
  have d17 : (op.toList == [79, 114]) = false := by simpa using m17
  have d18 : (op.toList == [88, 111, 114]) = false := by simpa using m18
  have d19 : (op.toList == [69, 113, 117, 97, 108]) = false := by simpa using m19
  have d20 : (op.toList == [76, 101, 115, 115]) = false := by simpa using m20
  have d21 : (op.toList == [71, 114, 101, 97, 116, 101, 114]) = false := by simpa using m21
  have d22 : (op.toList == [87, 104, 101, 114, 101]) = false := by simpa using m22
  have d23 : (op.toList == [67, 108, 105, 112]) = false := by simpa using m23
  have d24 : (op.toList == [67, 97, 115, 116]) = false := by simpa using m24
  clear m0 m1 m2 m3 m4 m5 m6 m7 m8 m9 m10 m11 m12 m13 m14 m15 m16 m17 m18 m19 m20 m21 m22 m23 m24
  go_enter Tryz.func21, Tryz.ntmps21
  go_wp2
  go_ret
  exact ⟨rfl, G3.out⟩

theorem bin_rng1 (k : Nat) (x y : Int) : W64 (Nu.bin k 1 x y).1 := by
  unfold Nu.bin
  split
  · rw [if_pos rfl]
    exact binFl_rng k _ _ (fb_ltE x) (fb_ltE y)
  · exact ⟨by decide, by decide⟩

set_option maxRecDepth 100000 in
set_option maxHeartbeats 16000000 in
theorem eclip_any (x y : Int) (w : World) : Calls Tryz.prog 33 #[.int .i64 x, .int .i64 y] w fun e w' => e = .returned (.func (.func 56) #[] #[.pointer (some ⟨w.heap.size, 0, none⟩), .pointer (some ⟨w.heap.size + 1, 0, none⟩)]) ∧ w.grownBy w' none ∧ w'.heap[w.heap.size]? = some (.cells #[.int .i64 x] 2 (0, 0)) ∧ w'.heap[w.heap.size + 1]? = some (.cells #[.int .i64 y] 2 (0, 0)) := by
  have hmf : ∀ (fn : Fn) (first cap : Array Value) (w : World), (Instr.makeFunc fn first cap).run Tryz.prog w = .ok (.func fn first cap) w := fun _ _ _ _ => rfl
  have B2 := hide (two_boxes w (.cells #[.int .i64 x] 2) (.cells #[.int .i64 y] 2))
  have G2 := hide (grown_trans (grown_new w (.cells #[.int .i64 x] 2)) (grown_new _ (.cells #[.int .i64 y] 2)))
  go_enter Tryz.func33, Tryz.ntmps33
  go_wp2
  go_ret
  exact ⟨rfl, G2.out, B2.out.1, B2.out.2⟩

set_option maxRecDepth 100000 in
set_option maxHeartbeats 16000000 in
theorem clip_rel (B m p1 p2 : Nat) (x lo hi : Int) (w : World) (hm : 0 < m) (h1 : w.heap[p1]? = some (.cells #[.int .i64 lo] 2 (0, 0))) (h2 : w.heap[p2]? = some (.cells #[.int .i64 hi] 2 (0, 0))) (hx : w.cell? ⟨B, 0, none⟩ = some (.int .i64 x)) :
    Calls Tryz.prog 56 #[.slice (some ⟨B, 0, none⟩) m m, .pointer (some ⟨p1, 0, none⟩), .pointer (some ⟨p2, 0, none⟩)] w (OneQ (fun v => Nu.chk 1 v = true) w) := by
  have i0 : (0 : Int) < (m : Int) := by omega
  have c1 := one_cell h1
  have c2 := one_cell h2
  obtain ⟨y1, e1⟩ : ∃ r, r = (Nu.bin 4 1 x lo).1 := ⟨_, rfl⟩
  obtain ⟨s1, e2⟩ : ∃ r, r = (Nu.bin 4 1 x lo).2 := ⟨_, rfl⟩
  have BA := hide (fun (wx : World) => Nu.binary4 1 x lo wx)
  rw [← e1, ← e2] at BA
  have BB := hide (fun (wx : World) => Nu.binary5 1 y1 hi wx)
  have RR := hide (show W64 (Nu.bin 5 1 y1 hi).1 ∧ ((Nu.bin 5 1 y1 hi).2 = 0 → Nu.chk 1 (Nu.bin 5 1 y1 hi).1 = true) from ⟨bin_rng1 5 y1 hi, fun h => bin_chk 5 1 y1 hi (by omega) h⟩)
  obtain ⟨y2, e3⟩ : ∃ r, r = (Nu.bin 5 1 y1 hi).1 := ⟨_, rfl⟩
  obtain ⟨s2, e4⟩ : ∃ r, r = (Nu.bin 5 1 y1 hi).2 := ⟨_, rfl⟩
  rw [← e3, ← e4] at BB RR
  clear h1 h2 e1 e2 e3 e4
  go_enter Tryz.func56, Tryz.ntmps56
  go_wp2_with fail
  go_quiet (first | (go_at_call 31; refine (BA.out _).mono ?_; rintro e w' ⟨rfl, q, rfl⟩; exact ⟨rfl, _, World.drewN_drewN _ _ _⟩) | fail)
  by_cases h : s1 = 0
  · have hb : (s1 != 0) = false := by simp [h]
    clear h
    go_wp2_with (first | (go_at_call 31; refine (BB.out _).mono ?_; rintro e w' ⟨rfl, q, rfl⟩) | fail)
    go_wp2
    go_ret2
    exact ⟨y2, s2, rfl, fun h => ⟨RR.out.1, RR.out.2 h⟩, _, by first | rfl | exact World.drewN_drewN _ _ _⟩
  · have hb : (s1 != 0) = true := by simpa using h
    have H := hide h
    clear h
    go_wp2
    go_ret2
    exact ⟨0, s1, rfl, fun h => absurd h H.out, _, rfl⟩

set_option maxRecDepth 100000 in
set_option maxHeartbeats 16000000 in
theorem cast_rel (p1 p2 B m : Nat) (ub uo un uc : Nat) (a0 a2 : Value) (ty tz x : Int) (w : World) (hm : 0 < m) (hi : w.heap[p1]? = some (.cells #[.slice (some ⟨ub, uo, none⟩) un uc] 26 (0, 0))) (ho : w.heap[p2]? = some (.cells #[a0, .int .i64 tz, a2] 53 (0, 0))) (hun : 0 < un) (ht : w.cell? ⟨ub, uo, none⟩ = some (.int .i64 ty)) (hx : w.cell? ⟨B, 0, none⟩ = some (.int .i64 x)) (rx : W64 x) :
    Calls Tryz.prog 35 #[.slice (some ⟨B, 0, none⟩) m m, .pointer (some ⟨p1, 0, none⟩), .pointer (some ⟨p2, 0, none⟩)] w (OneQ (fun v => Nu.chk tz v = true) w) := by
  have c8 := one_cell hi
  have c9 := (cell_of_row _ _ 1 _ _ (0, 0) ho).trans rfl
  have hun' : (0 : Int) < (un : Int) := by omega
  have i0 : (0 : Int) < (m : Int) := by omega
  have BB := hide (fun (wx : World) => Nu.cast_code ty tz x wx)
  have RR := hide (show W64 (Nu.cst ty tz x).1 ∧ ((Nu.cst ty tz x).2 = 0 → Nu.chk tz (Nu.cst ty tz x).1 = true) from ⟨cst_rng ty tz x rx, cst_chk ty tz x⟩)
  obtain ⟨r1, e1⟩ : ∃ r, r = (Nu.cst ty tz x).1 := ⟨_, rfl⟩
  obtain ⟨r2, e2⟩ : ∃ r, r = (Nu.cst ty tz x).2 := ⟨_, rfl⟩
  rw [← e1, ← e2] at BB RR
  clear hi ho rx e1 e2
  go_enter Tryz.func35, Tryz.ntmps35
  go_wp2_with fail
  go_quiet (first | (go_at_call 36; refine (BB.out _).mono ?_; rintro e w' ⟨rfl, q, rfl⟩; exact ⟨rfl, _, World.drewN_drewN _ _ _⟩) | fail)
  go_wp2
  go_ret2
  exact ⟨r1, r2, rfl, fun h => ⟨RR.out.1, RR.out.2 h⟩, _, rfl⟩

set_option maxRecDepth 100000 in
set_option maxHeartbeats 16000000 in
theorem wof_clip (n : Nod) (hop : n.op = ⟨#[67, 108, 105, 112]⟩) (xs : List Atr) (cs : List Cont) (u : Sl) (a0 a1 a2 : Value) (w : World) (hv : IsAttrs w n.av.v xs) (hc : ∀ (j : Nat) (a : Atr), xs[j]? = some a → ∃ c, cs[j]? = some c ∧ Has w a c) :
    Calls Tryz.prog 21 #[nval n, .slice u.a u.n u.c, .agg #[a0, a1, a2]] w fun e w' => ∃ p1 p2 : Nat, e = .returned (.func (.func 56) #[] #[.pointer (some ⟨p1, 0, none⟩), .pointer (some ⟨p2, 0, none⟩)]) ∧ w.grownBy w' none ∧ w'.heap[p1]? = some (.cells #[.int .i64 (bitsV xs ⟨#[109, 105, 110]⟩ 4286578688)] 2 (0, 0)) ∧ w'.heap[p2]? = some (.cells #[.int .i64 (bitsV xs ⟨#[109, 97, 120]⟩ 2139095040)] 2 (0, 0)) := by
  have SB := hide (fun (nm : ByteArray) (z : Int) (wx : World) (hg : w.grownBy wx none) => sbits_any n xs cs nm z wx (hv.more hg) (fun j a ha => (hc j a ha).imp fun c h => ⟨h.1, h.2.more hg⟩))
  clear hv hc
  obtain ⟨op, nam, ⟨ia, il, ic⟩, out, ⟨ao, al, cap⟩⟩ := n
  obtain ⟨ua, un, uc⟩ := u
  unfold nval at SB ⊢
  simp only at hop SB ⊢
  obtain ⟨w0, hw0⟩ : ∃ w0, w0 = ((w.alloc (.cells #[.string op, .string nam, .slice ia il ic, .string out, .slice ao al cap] 25)).alloc (.cells #[.slice ua un uc] 26)).alloc (.cells #[a0, a1, a2] 53) := ⟨_, rfl⟩
  have g0 : Hid (w.grownBy w0 none) := by show w.grownBy w0 none; rw [hw0]; exact grown_trans (grown_trans (grown_new _ _) (grown_new _ _)) (grown_new _ _)
  have hb0 := (three_boxes w (.cells #[.string op, .string nam, .slice ia il ic, .string out, .slice ao al cap] 25) (.cells #[.slice ua un uc] 26) (.cells #[a0, a1, a2] 53)).1
  rw [← hw0] at hb0
  have BX : Hid (∀ wx, w0.grownBy wx none → wx.heap[w.heap.size]? = some (.cells #[.string op, .string nam, .slice ia il ic, .string out, .slice ao al cap] 25 (0, 0))) := fun wx hg => box_kept hb0 hg
  clear hb0
  obtain ⟨n0, n1, n2, n3, n4⟩ := nod_cells (n := ⟨op, nam, ⟨ia, il, ic⟩, out, ⟨ao, al, cap⟩⟩) (BX.out w0 (grown_refl _))
  have GD := hide (grown_drew (grown_refl w0))
  simp only at n0 n1 n2 n3 n4
  obtain ⟨lo, hlo⟩ : ∃ q, q = bitsV xs ⟨#[109, 105, 110]⟩ 4286578688 := ⟨_, rfl⟩
  obtain ⟨hi, hhi⟩ : ∃ q, q = bitsV xs ⟨#[109, 97, 120]⟩ 2139095040 := ⟨_, rfl⟩
  have S1 := hide (fun (wx : World) (hg : w.grownBy wx none) => SB.out ⟨#[109, 105, 110]⟩ 4286578688 wx hg)
  have S2 := hide (fun (wx : World) (hg : w.grownBy wx none) => SB.out ⟨#[109, 97, 120]⟩ 2139095040 wx hg)
  rw [← hlo] at S1 ⊢
  rw [← hhi] at S2 ⊢
  clear hlo hhi SB
  subst hop
  go_enter Tryz.func21, Tryz.ntmps21
  go_wp2_with fail
  rw [← hw0]
  clear hw0
  go_wp2_with fail
  go_region_held3 (fun w' => w'.cell? ⟨w.heap.size, 0, none⟩ = some (.string ⟨#[67, 108, 105, 112]⟩) ∧ w'.cell? ⟨w.heap.size, 1, none⟩ = some (.string nam) ∧ w'.cell? ⟨w.heap.size, 2, none⟩ = some (.slice ia il ic) ∧ w'.cell? ⟨w.heap.size, 3, none⟩ = some (.string out) ∧ w'.cell? ⟨w.heap.size, 4, none⟩ = some (.slice ao al cap)) (go_keep) (first | (have q1 := G1.out; clear q1; go_at_call 34; refine (S2.out _ (grown_trans g0.out G1.out)).mono ?_; rintro e w2 ⟨rfl, hg2⟩; have G2 := hide (grown_trans G1.out hg2); obtain ⟨n0, n1, n2, n3, n4⟩ := nod_cells (n := ⟨⟨#[67, 108, 105, 112]⟩, nam, ⟨ia, il, ic⟩, out, ⟨ao, al, cap⟩⟩) (BX.out w2 G2.out); clear hg2; simp only at n0 n1 n2 n3 n4) | (go_at_call 34; refine (S1.out _ (grown_trans g0.out GD.out)).mono ?_; rintro e w1 ⟨rfl, hg1⟩; have G1 := hide (grown_trans GD.out hg1); obtain ⟨n0, n1, n2, n3, n4⟩ := nod_cells (n := ⟨⟨#[67, 108, 105, 112]⟩, nam, ⟨ia, il, ic⟩, out, ⟨ao, al, cap⟩⟩) (BX.out w1 G1.out); clear hg1; simp only at n0 n1 n2 n3 n4) | (go_at_call 33; refine (eclip_any lo hi _).mono ?_; rintro e w3 ⟨rfl, hg3, hb1, hb2⟩; have G3 := hide (grown_trans g0.out (grown_trans G2.out hg3)); have HB1 := hide hb1; have HB2 := hide hb2; obtain ⟨n0, n1, n2, n3, n4⟩ := nod_cells (n := ⟨⟨#[67, 108, 105, 112]⟩, nam, ⟨ia, il, ic⟩, out, ⟨ao, al, cap⟩⟩) (BX.out w3 (grown_trans G2.out hg3)); clear hg3 hb1 hb2; simp only at n0 n1 n2 n3 n4) | fail)
  all_goals
    go_wp2
    go_ret
    exact ⟨_, _, rfl, G3.out, HB1.out, HB2.out⟩

end Go.Proofs.YteigfipgmghgmaaGreatDoor
