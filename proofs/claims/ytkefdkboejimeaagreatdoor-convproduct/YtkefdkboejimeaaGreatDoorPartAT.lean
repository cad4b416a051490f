/- A part. -/
import Derived.Test.YtkefdkboejimeaaGreatDoorMini
import Derived.Test.YtkefdkboejimeaaGreatDoorPartAL
import Derived.Test.YtkefdkboejimeaaGreatDoorPartAS
import Derived.Test.YtkefdkboejimeaaGreatDoorPartAQ
import Derived.Test.YtkefdkboejimeaaGreatDoorPartAI
import Derived.BigQuiet
import Derived.Test.YtkefdkboejimeaaGreatDoorPartAR
import Derived.Deep.RegionWith
import Derived.Deep.RegionHeld3
set_option maxHeartbeats 4000000
set_option maxRecDepth 100000
namespace Go.Proofs.YtkefdkboejimeaaGreatDoor
open Go.RowKit
theorem jei (op : ByteArray) (ty : Int) (w : World) : Calls Tryz.prog 63 #[.string op, .int .i64 ty] w fun e w' => e = .returned (.func (.func 104) #[] #[.pointer (some ⟨w.heap.size, 0, none⟩), .pointer (some ⟨w.heap.size + 1, 0, none⟩)]) ∧ w.grownBy w' none ∧ w'.heap[w.heap.size]? = some (.cells #[.string op] 9 (0, 0)) ∧ w'.heap[w.heap.size + 1]? = some (.cells #[.int .i64 ty] 3 (0, 0)) := by
 have hmf : ∀ (fn : Fn) (first cap : Array Value) (w : World), (Instr.makeFunc fn first cap).run Tryz.prog w = .ok (.func fn first cap) w := fun _ _ _ _ => rfl
 have B2 := jae (jax w (.cells #[.string op] 9) (.cells #[.int .i64 ty] 3))
 have G2 := jae (jaa (jab w (.cells #[.string op] 9)) (jab _ (.cells #[.int .i64 ty] 3)))
 go_enter Tryz.func63, Tryz.ntmps63
 go_wp2
 go_ret
 exact ⟨rfl, G2.out, B2.out.1, B2.out.2⟩
def jfZ (op : ByteArray) (w : World) (p1 p2 : Nat) : Prop := w.heap[p1]? = some (.cells #[.string op] 9 (0, 0)) ∧ w.heap[p2]? = some (.cells #[.int .i64 1] 3 (0, 0))
theorem jfZ.more {op : ByteArray} {w w' : World} {p1 p2 : Nat} (h : jfZ op w p1 p2) (hg : w.grownBy w' none) : jfZ op w' p1 p2 := ⟨jad h.1 hg, jad h.2 hg⟩
theorem jix (p1 p2 : Nat) (x y : Int) (w : World) (h : jfZ ⟨#[65, 100, 100]⟩ w p1 p2) : Calls Tryz.prog 104 #[.int .i64 x, .int .i64 y, .pointer (some ⟨p1, 0, none⟩), .pointer (some ⟨p2, 0, none⟩)] w fun e w' => e = .returned (.int .i64 (jdR x y)) ∧ w.grownBy w' none := by
 have c1 := jaA h.1
 have c2 := jaA h.2
 have BB := jae (fun (wx : World) => Nu.binary0 1 x y wx)
 clear h
 go_enter Tryz.func104, Tryz.ntmps104
 go_wp2_with (first | (go_at_call 13; refine (BB.out _).mono ?_; rintro e w' ⟨rfl, q, rfl⟩) | fail)
 go_ret
 exact ⟨rfl, ⟨rfl, rfl, rfl, Nat.le_refl _, fun k hk hn => rfl⟩⟩
theorem jiy (p1 p2 : Nat) (x y : Int) (w : World) (h : jfZ ⟨#[77, 117, 108]⟩ w p1 p2) : Calls Tryz.prog 104 #[.int .i64 x, .int .i64 y, .pointer (some ⟨p1, 0, none⟩), .pointer (some ⟨p2, 0, none⟩)] w fun e w' => e = .returned (.int .i64 (jht x y)) ∧ w.grownBy w' none := by
 have c1 := jaA h.1
 have c2 := jaA h.2
 have BB := jae (fun (wx : World) => Nu.binary2 1 x y wx)
 clear h
 go_enter Tryz.func104, Tryz.ntmps104
 go_wp2_with (first | (go_at_call 13; refine (BB.out _).mono ?_; rintro e w' ⟨rfl, q, rfl⟩) | fail)
 go_ret
 exact ⟨rfl, ⟨rfl, rfl, rfl, Nat.le_refl _, fun k hk hn => rfl⟩⟩
theorem jm3 (s : Int) : ∀ (xs ys : List Int) (k : Nat), k < xs.length → k < ys.length → jcI s (xs.take (k + 1)) (ys.take (k + 1)) = jdR (jcI s (xs.take k) (ys.take k)) (jht (xs.getD k 0) (ys.getD k 0)) := by
 intro xs ys k h1 h2
 rw [List.take_add_one, List.take_add_one, List.getElem?_eq_getElem h1, List.getElem?_eq_getElem h2]
 simp only [Option.toList_some]
 rw [jgq _ _ _ _ _ (by rw [List.length_take, List.length_take]; omega)]
 simp [List.getD, h1, h2]
theorem jiz : ∀ (xs ys : List Int) (s : Int), jcI s xs (ys.take xs.length) = jcI s xs ys
 | [], ys, s => by simp [jcI]
 | x :: xs, [], s => by simp [jcI]
 | x :: xs, y :: ys, s => by simp only [List.length_cons, List.take_succ_cons, jcI]; exact jiz xs ys _
theorem jgE (r c : Sl) (xs ys : List Int) (w : World) (hx : IsInts w r.v xs) (hy : IsInts w c.v ys) (hl : xs.length ≤ ys.length) : Calls Tryz.prog 114 #[.slice r.a r.n r.c, .slice c.a c.n c.c] w fun e w' => e = .returned (.int .i64 (jcI 0 xs ys)) ∧ w.grownBy w' none := by
 obtain ⟨ux, uc, eu, c1, c2, c3⟩ := hx.sl
 obtain ⟨ra, rn, rc⟩ := r
 simp only [Sl.v, Value.slice.injEq] at eu
 obtain ⟨rfl, rfl, rfl⟩ := eu
 obtain ⟨vx, vc, ev, d1, d2, d3⟩ := hy.sl
 obtain ⟨ca, cn, cc⟩ := c
 simp only [Sl.v, Value.slice.injEq] at ev
 obtain ⟨rfl, rfl, rfl⟩ := ev
 simp only
 have HX := jae hx
 have HY := jae hy
 have HL := jae hl
 have TA := jae (jei ⟨#[65, 100, 100]⟩ 1 w)
 clear hx hy
 go_enter Tryz.func114, Tryz.ntmps114
 go_wp2_with fail
 refine TA.out.mono ?_
 rintro e w1 ⟨rfl, hg1, k1, k2⟩
 have S1 : Hid (jfZ ⟨#[65, 100, 100]⟩ w1 w.heap.size (w.heap.size + 1)) := ⟨k1, k2⟩
 have G1 := jae hg1
 have TM := jae (jei ⟨#[77, 117, 108]⟩ 1 w1)
 clear k1 k2 hg1
 go_wp2_with fail
 refine TM.out.mono ?_
 rintro e w2 ⟨rfl, hg2, k1, k2⟩
 have S2 : Hid (jfZ ⟨#[77, 117, 108]⟩ w2 w1.heap.size (w1.heap.size + 1)) := ⟨k1, k2⟩
 have S1 := jae (S1.out.more hg2)
 have G2 := jae (jaa G1.out hg2)
 obtain ⟨A, hA⟩ : ∃ A, A = w.heap.size := ⟨_, rfl⟩
 obtain ⟨M, hM⟩ : ∃ M, M = w1.heap.size := ⟨_, rfl⟩
 rw [← hA] at S1 ⊢
 rw [← hM] at S2 ⊢
 clear k1 k2 hg2 hA hM
 go_wp2_with fail
 go_loopw [7, 14] (fun s i wr => w2.grownBy wr none ∧ ∃ (k : Nat), k ≤ xs.length ∧ i = .int .i64 k ∧ s = .int .i64 (jcI 0 (xs.take k) (ys.take k))) (fun _ i _ => xs.length - (intOf i).toNat)
 case atStart => exact ⟨jaf _, 0, Nat.zero_le _, rfl, rfl⟩
 case round =>
  obtain ⟨hg, k, hk, rfl, hs⟩ := hrel
  obtain ⟨s0, hs0⟩ : ∃ s0, s0 = jcI 0 (xs.take k) (ys.take k) := ⟨_, rfl⟩
  rw [← hs0] at hs
  subst hs
  have HG := jae hg
  by_cases hlt : k < xs.length
  ·have hlt2 : k < ys.length := by omega
   obtain ⟨b, off, rfl, hc⟩ := HX.out.get (k := k) hlt
   obtain ⟨b2, off2, rfl, hc2⟩ := HY.out.get (k := k) hlt2
   have z1 := jac (hc k hlt) (jaa G2.out hg)
   have z2 := jac (hc2 k hlt2) (jaa G2.out hg)
   have DS := jae (jm3 0 xs ys k hlt hlt2)
   rw [← hs0] at DS
   obtain ⟨x, hx⟩ : ∃ x, x = xs.getD k 0 := ⟨_, rfl⟩
   obtain ⟨y, hy⟩ : ∃ y, y = ys.getD k 0 := ⟨_, rfl⟩
   rw [← hx] at z1 DS
   rw [← hy] at z2 DS
   have MC := jae (jiy M (M + 1) x y wr (S2.out.more hg))
   have AC := jae (fun (wx : World) (hh : w2.grownBy wx none) => jix A (A + 1) s0 (jht x y) wx (S1.out.more hh))
   obtain ⟨p, hp⟩ : ∃ p, p = jht x y := ⟨_, rfl⟩
   rw [← hp] at MC AC DS
   obtain ⟨t, ht⟩ : ∃ t, t = jdR s0 p := ⟨_, rfl⟩
   rw [← ht] at AC DS
   have q1 : (k : Int) < ys.length := by omega
   clear hc hc2 hg hs0 hx hy hp ht
   go_wp2_with fail
   refine MC.out.mono ?_
   rintro e w3 ⟨rfl, hg3⟩
   have G3 := jae (jaa HG.out hg3)
   clear hg3
   go_wp2_with fail
   refine (AC.out _ G3.out).mono ?_
   rintro e w4 ⟨rfl, hg4⟩
   have G4 := jae (jaa G3.out hg4)
   clear hg4
   go_wp2_with fail
   go_roundw
   case rel => exact ⟨G4.out, k + 1, by omega, by go_num, by rw [DS.out]⟩
   case measure => simp [intOf]; omega
  ·obtain rfl : k = xs.length := by omega
   have E : Hid (s0 = jcI 0 xs ys) := by show _ = _; rw [hs0, List.take_of_length_le (Nat.le_refl _), jiz]
   clear hg hs0
   go_wp2
   go_ret
   have e0 := E.out
   subst e0
   exact ⟨rfl, jaa G2.out HG.out⟩
end Go.Proofs.YtkefdkboejimeaaGreatDoor
namespace Go.Proofs.YtkefdkboejimeaaGreatDoor
open Go.RowKit
theorem jbN {a b : World} (h : a.grownBy b none) (n : Nat) : a.grownBy (b.drewN n) none := ⟨h.os, h.tape, h.output, h.size, h.block⟩
end Go.Proofs.YtkefdkboejimeaaGreatDoor
namespace Go.Proofs.YtkefdkboejimeaaGreatDoor
open Go.RowKit
structure ValsIn (w : World) (v : Value) (vs : List (Val × List Int)) : Prop where
 vals : jkv w v (vs.map (·.1))
 dims : ∀ p ∈ vs, IsInts w p.1.dv.v p.2
theorem ValsIn.more {w w' : World} {v : Value} {vs : List (Val × List Int)} (h : ValsIn w v vs) (hg : w.grownBy w' none) : ValsIn w' v vs := ⟨h.vals.more hg, fun p hp => (h.dims p hp).more hg⟩
def jb0 : List Int → R Int
 | [] => .ok 0
 | t :: l => if l.all (fun s => s == t) = true then .ok t else .error 4
theorem jd6 (u : Sl) (vs : List (Val × List Int)) (w : World) (hv : ValsIn w u.v vs) (hp : 0 < vs.length) (hf : vs.length ≤ 1000000) : Calls Tryz.prog 137 #[.slice u.a u.n u.c] w (jbj w (jb0 (vs.map (·.1.ty))) fun t v _ => v = .int .i64 t) := by
 obtain ⟨xa, xc, e1, p1, p2, p3⟩ := hv.vals.form
 rw [List.length_map] at e1 p1 p3
 obtain ⟨ua, un, uc⟩ := u
 simp only [Sl.v, Value.slice.injEq] at e1
 obtain ⟨rfl, rfl, rfl⟩ := e1
 have HV := jae hv.vals
 have hl : (vs.map (·.1)).length = vs.length := by simp
 obtain ⟨b, off, rfl⟩ := hv.vals.addr (k := 0) (by rw [hl]; exact hp)
 obtain ⟨z0, z1, z2⟩ := hv.vals.val 0 (by rw [hl]; exact hp)
 rw [Nat.zero_mul, Nat.add_zero, List.getElem_map] at z1
 obtain ⟨T, hT⟩ : ∃ T, T = vs[0].1.ty := ⟨_, rfl⟩
 rw [← hT] at z1
 have Z1 := jae z1
 have HT := jae hT
 clear hv z0 z1 z2 hT
 go_enter Tryz.func137, Tryz.ntmps137
 go_wp2
 go_loopw [7] (fun i wr => ∃ k : Nat, k ≤ vs.length ∧ i = .int .i64 k ∧ (∀ j (hj : j < vs.length), j < k → vs[j].1.ty = T) ∧ w.grownBy wr none) (fun i _ => vs.length - (intOf i).toNat)
 case atStart => exact ⟨0, Nat.zero_le _, rfl, fun j hj h => absurd h (by omega), jaf _⟩
 case round =>
  obtain ⟨k, hk, rfl, hall, hg⟩ := hrel
  have HA := jae hall
  have HG := jae hg
  by_cases hkl : k < vs.length
  ·have h2 := HV.out.more hg
   obtain ⟨y0, y1, y2⟩ := h2.val k (by rw [hl]; exact hkl)
   rw [List.getElem_map] at y0 y1 y2
   have z1 : wr.cell? ⟨b, off + 1, none⟩ = some (.int .i64 T) := jac Z1.out hg
   have HK : Hid (vs[k].1.ty = vs[k].1.ty) := rfl
   obtain ⟨v, hvv⟩ : ∃ v, v = vs[k].1 := ⟨_, rfl⟩
   rw [← hvv] at y0 y1 y2 HK
   obtain ⟨vn, vt, ⟨da, dn, dc⟩⟩ := v
   simp only at y0 y1 y2
   have HVV := jae hvv
   obtain ⟨w1, hw1⟩ : ∃ w1, w1 = wr.alloc (.cells #[.string vn, .int .i64 vt, .slice da dn dc] 53) := ⟨_, rfl⟩
   have g1 : Hid (w.grownBy w1 none) := by show w.grownBy w1 none; rw [hw1]; exact jaa hg (jab _ _)
   have hb1 := heap_alloc_new wr (.cells #[.string vn, .int .i64 vt, .slice da dn dc] 53)
   rw [← hw1] at hb1
   have q1 : w1.cell? ⟨wr.heap.size, 1, none⟩ = some (.int .i64 vt) := (cell_of_row _ _ 1 _ _ (0, 0) hb1).trans rfl
   have z1' : w1.cell? ⟨b, off + 1, none⟩ = some (.int .i64 T) := jac Z1.out g1.out
   clear hb1 hvv hall hg h2
   go_wp2_with fail
   rw [← hw1]
   clear hw1 y0 y1 y2 z1
   have hp' : (0 : Int) < (vs.length : Int) := by omega
   by_cases hd : vt = T
   ·have bd : (vt == T) = true := by simp [hd]
    go_quiet (first | (go_at_call 118; refine (jaT _).mono ?_; rintro e w' ⟨rfl, rfl⟩; exact ⟨rfl, _, rfl⟩) | fail)
    have HKT : Hid (∀ j (hj : j < vs.length), j < k + 1 → vs[j].1.ty = T) := fun j hj h => by
     rcases jbe h with h | rfl
     ·exact HA.out j hj h
     ·rw [← HVV.out]; exact hd
    clear hd bd
    go_wp2_with fail
    go_roundw
    case rel => exact ⟨k + 1, by omega, by go_num, HKT.out, ⟨g1.out.os, g1.out.tape, g1.out.output, g1.out.size, g1.out.block⟩⟩
    case measure => simp [intOf]; omega
   ·have bd : (vt == T) = false := by simpa using hd
    have E : Hid (jb0 (vs.map (·.1.ty)) = .error 4) := by
     show _ = _
     cases vs with
     | nil => simp at hp
     | cons p l =>
      have hT2 : T = p.1.ty := HT.out
      simp only [List.map_cons, jb0]
      rw [if_neg]
      intro h
      rw [List.all_eq_true] at h
      cases k with
      | zero => exact hd (by have := HVV.out; simp at this; rw [hT2, ← this])
      | succ k =>
       have h3 : k < l.length := by simpa using hkl
       have := h (l[k].1.ty) (List.mem_map.2 ⟨l[k], List.getElem_mem h3, rfl⟩)
       refine hd ?_
       have h4 := HVV.out
       simp only [List.getElem_cons_succ] at h4
       rw [hT2, ← beq_iff_eq.1 this, ← h4]
    clear hd
    refine wp_region_held_drew (S := (fun w' => w'.cell? ⟨wr.heap.size, 1, none⟩ = some (.int .i64 vt) ∧ w'.cell? ⟨b, off + 1, none⟩ = some (.int .i64 T))) (by kernel_rfl) (by go_keep) (fun hHeld => ?_)
    refine tkA 0 ?_
    try simp only [Act.put]
    refine tkA 1 ?_
    try simp only [Act.put]
    refine tkA 2 ?_
    try simp only [Act.put]
    refine tkA 3 ?_
    try simp only [Act.put]
    refine tkA 4 ?_
    try simp only [Act.put]
    refine tkA 5 ?_
    try simp only [Act.put]
    refine tkA 6 ?_
    try simp only [Act.put]
    refine rdA 7 fun K hK => ?_
    go_simp
    refine (ja2 _).mono ?_
    rintro e wy ⟨rfl, rfl⟩; exact ⟨rfl, jam E.out (jag g1.out)⟩
  ·have E : Hid (jb0 (vs.map (·.1.ty)) = .ok T) := by
     show _ = _
     cases vs with
     | nil => simp at hp
     | cons p l =>
      have hT2 : T = p.1.ty := HT.out
      simp only [List.map_cons, jb0]
      rw [if_pos, hT2]
      rw [List.all_eq_true]
      intro s hs
      obtain ⟨q, hq, rfl⟩ := List.mem_map.1 hs
      obtain ⟨j, hj, rfl⟩ := List.mem_iff_getElem.1 hq
      have := HA.out (j + 1) (by simpa using hj) (by simp at hkl ⊢; omega)
      simp only [List.getElem_cons_succ] at this
      simp [this, hT2]
   have z1 : wr.cell? ⟨b, off + 1, none⟩ = some (.int .i64 T) := jac Z1.out hg
   have hp' : (0 : Int) < (vs.length : Int) := by omega
   clear hall hg
   go_wp2
   go_ret
   exact jbc E.out HG.out rfl
end Go.Proofs.YtkefdkboejimeaaGreatDoor
namespace Go.Proofs.YtkefdkboejimeaaGreatDoor
open Go.RowKit
theorem jba {l : List Int} {k : Nat} (hk : k < l.length) : l.getD k 0 ∈ l := by
 rw [List.getD, List.getElem?_eq_getElem hk]
 exact List.getElem_mem hk
def jm4 (X Y T : Int) (along : Nat) (di pa : List Int) : R Int := (jaz (decide (0 ≤ X + pa.getD along 0 + pa.getD (2 + along) 0 - di.getD along 0 * (Y - 1) - 1))).bind (fun _ => .ok ((X + pa.getD along 0 + pa.getD (2 + along) 0 - di.getD along 0 * (Y - 1) - 1) / T + 1))
theorem jcn (n : Nod) (A : At) (u v : Sl) (x K : List Int) (along : Nat) (w : World) (hn : NodeOk w n A) (hx : IsInts w u.v x) (hK : IsInts w v.v K) (hlx : x.length = 4) (hlK : K.length = 2) (bx : ∀ z ∈ x, 1 ≤ z ∧ z ≤ 65536) (bK : ∀ z ∈ K, 1 ≤ z ∧ z ≤ 65536) (ha : along < 2) :
    Calls Tryz.prog 175 #[jaL n, .slice u.a u.n u.c, .slice v.a v.n v.c, .int .i64 along] w (jbj w (jay A x K along) fun z v _ => v = .int .i64 z ∧ 1 ≤ z ∧ z ≤ 1000000) := by
     obtain ⟨ux, uc, eu, c1, c2, c3⟩ := hx.sl
     obtain ⟨ua, un, uu⟩ := u
     simp only [Sl.v, Value.slice.injEq] at eu
     obtain ⟨rfl, rfl, rfl⟩ := eu
     obtain ⟨vx, vc, ev, d1, d2, d3⟩ := hK.sl
     obtain ⟨va, vn, vv⟩ := v
     simp only [Sl.v, Value.slice.injEq] at ev
     obtain ⟨rfl, rfl, rfl⟩ := ev
     obtain ⟨xb, xo, rfl, hcx⟩ := hx.get (k := 0) (by omega)
     obtain ⟨kb, ko, rfl, hck⟩ := hK.get (k := 0) (by omega)
     have XC := jae (hcx (2 + along) (by omega))
     have KC := jae (hck along (by omega))
     have BX := bx _ (jba (l := x) (k := 2 + along) (by omega))
     have BK := bK _ (jba (l := K) (k := along) (by omega))
     rw [hlx, hlK]
     rw [hlx] at c1
     rw [hlK] at d1
     have E0 : Hid (jay A x K along = (jaN (A.ints ⟨#[115, 116, 114, 105, 100, 101, 115]⟩ [1, 1]) 2 1).bind (fun st => (jaN (A.ints ⟨#[100, 105, 108, 97, 116, 105, 111, 110, 115]⟩ [1, 1]) 2 1).bind (fun di => (jcO A).bind (fun pa => jm4 (x.getD (2 + along) 0) (K.getD along 0) (st.getD along 0) along di pa)))) := rfl
     obtain ⟨X, hX⟩ : ∃ X, X = x.getD (2 + along) 0 := ⟨_, rfl⟩
     obtain ⟨Y, hY⟩ : ∃ Y, Y = K.getD along 0 := ⟨_, rfl⟩
     rw [← hX] at XC E0 BX
     rw [← hY] at KC E0 BK
     clear hx hK hcx hck bx bK hlx hlK hX hY c3 d3
     have NK := jae hn
     obtain ⟨op, nam, ⟨ia, il, ic⟩, out, ⟨ao, al, cap⟩⟩ := n
     unfold jaL
     simp only
     obtain ⟨w0, hw0⟩ : ∃ w0, w0 = w.alloc (.cells #[.string op, .string nam, .slice ia il ic, .string out, .slice ao al cap] 35) := ⟨_, rfl⟩
     have g0 : Hid (w.grownBy w0 none) := by show w.grownBy w0 none; rw [hw0]; exact jab _ _
     have hb0 := heap_alloc_new w (.cells #[.string op, .string nam, .slice ia il ic, .string out, .slice ao al cap] 35)
     rw [← hw0] at hb0
     have BX : Hid (∀ wx, w0.grownBy wx none → wx.heap[w.heap.size]? = some (.cells #[.string op, .string nam, .slice ia il ic, .string out, .slice ao al cap] 35 (0, 0))) := fun wx hg => jad hb0 hg
     clear hb0 hn
     have ST := jae (jd5 ⟨op, nam, ⟨ia, il, ic⟩, out, ⟨ao, al, cap⟩⟩ A w0 (NK.out.more g0.out))
     have DI := jae (fun (wx : World) (hg : w.grownBy wx none) => jdu ⟨op, nam, ⟨ia, il, ic⟩, out, ⟨ao, al, cap⟩⟩ A wx (NK.out.more hg))
     have PA := jae (fun (wx : World) (hg : w.grownBy wx none) => jfp ⟨op, nam, ⟨ia, il, ic⟩, out, ⟨ao, al, cap⟩⟩ A wx (NK.out.more hg))
     unfold jaL at ST DI PA
     simp only at ST DI PA
     go_enter Tryz.func175, Tryz.ntmps175
     go_wp2_with fail
     rw [← hw0]
     clear hw0
     refine ST.out.mono ?_
     rintro e w1 ⟨s, rfl, hs, hg1⟩
     have G1 := jae hg1
     have WS := jae (jc2 s _ 2 1 w1 hs (by decide))
     have HS := jae hs
     clear hs hg1 ST
     cases hk : jaN (A.ints ⟨#[115, 116, 114, 105, 100, 101, 115]⟩ [1, 1]) 2 1 with
     | error c =>
      rw [hk] at WS
      have E : Hid (jay A x K along = .error c) := by show _ = _; rw [E0.out, hk]; rfl
      clear hk
      go_wp2_with (first | (go_at_call 176; refine WS.out.mono ?_; rintro e w' ⟨hg, rfl⟩) | fail)
      exact ⟨rfl, jam E.out (jaa g0.out (jaa G1.out hg))⟩
     | ok st =>
      rw [hk] at WS E0
      obtain ⟨e1, stl, stb⟩ := jcm hk
      have BST := jae (stb _ (jba (l := st) (k := along) (by omega)))
      rw [← e1] at HS
      have SC : Hid (∀ wx, w1.grownBy wx none → ∃ b off, s.a = some ⟨b, off, none⟩ ∧ wx.cell? ⟨b, off + along, none⟩ = some (.int .i64 (st.getD along 0))) := fun wx hg => by
       obtain ⟨s1, s2, s3⟩ := s
       obtain ⟨b, off, e, hc⟩ := HS.out.get (k := along) (by omega)
       exact ⟨b, off, e, jac (hc along (by omega)) hg⟩
      have SL : s.n = 2 := by
       obtain ⟨a', c', e, -⟩ := HS.out.sl
       have : s.n = st.length := by simp only [Sl.v, Value.slice.injEq] at e; exact e.2.1
       rw [this, stl]
      obtain ⟨b, off, esa, hsc⟩ := SC.out w1 (jaf _)
      obtain ⟨sa, sn, sc⟩ := s
      simp only at esa SL
      subst esa SL
      simp only [Sl.v] at WS ⊢
      have E1 : Hid (jay A x K along = (jaN (A.ints ⟨#[100, 105, 108, 97, 116, 105, 111, 110, 115]⟩ [1, 1]) 2 1).bind (fun di => (jcO A).bind (fun pa => jm4 X Y (st.getD along 0) along di pa))) := E0.out
      obtain ⟨T, hT⟩ : ∃ T, T = st.getD along 0 := ⟨_, rfl⟩
      rw [← hT] at hsc E1 BST
      have ha2 : (along : Int) < 2 := by omega
      obtain ⟨n0, n1, n2, n3, n4⟩ := jai (n := ⟨op, nam, ⟨ia, il, ic⟩, out, ⟨ao, al, cap⟩⟩) (BX.out w1 (G1.out))
      clear hk e1 stl stb hT SC E0 HS
      go_wp2_with (first | (go_at_call 176; refine WS.out.mono ?_; rintro e w' ⟨-, v, rfl, rfl, -, rfl⟩) | fail)
      clear hsc WS
      refine (DI.out w1 (jaa g0.out G1.out)).mono ?_
      rintro e w2 ⟨s, rfl, hs, hg2⟩
      have G2 := jae (jaa G1.out hg2)
      have WD := jae (jc2 s _ 2 1 w2 hs (by decide))
      have HS := jae hs
      clear hs hg2 DI n0 n1 n2 n3 n4
      cases hk : jaN (A.ints ⟨#[100, 105, 108, 97, 116, 105, 111, 110, 115]⟩ [1, 1]) 2 1 with
      | error c =>
       rw [hk] at WD
       have E : Hid (jay A x K along = .error c) := by show _ = _; rw [E1.out, hk]; rfl
       clear hk
       go_wp2_with (first | (go_at_call 176; refine WD.out.mono ?_; rintro e w' ⟨hg, rfl⟩) | fail)
       exact ⟨rfl, jam E.out (jaa g0.out (jaa G2.out hg))⟩
      | ok di =>
       rw [hk] at WD E1
       obtain ⟨e1, dil, dib⟩ := jcm hk
       have BDI := jae (dib _ (jba (l := di) (k := along) (by omega)))
       rw [← e1] at HS
       have SL : s.n = 2 := by
        obtain ⟨a', c', e, -⟩ := HS.out.sl
        have : s.n = di.length := by simp only [Sl.v, Value.slice.injEq] at e; exact e.2.1
        rw [this, dil]
       obtain ⟨sa, sn, sc'⟩ := s
       obtain ⟨b2, off2, esa, hc2⟩ := HS.out.get (k := along) (by omega)
       simp only at esa SL
       subst esa SL
       have hsc := hc2 along (by omega)
       simp only [Sl.v] at WD ⊢
       have E2 : Hid (jay A x K along = (jcO A).bind (fun pa => jm4 X Y T along di pa)) := E1.out
       obtain ⟨D, hD⟩ : ∃ D, D = di.getD along 0 := ⟨_, rfl⟩
       rw [← hD] at hsc BDI
       have HDX := jae hD
       obtain ⟨n0, n1, n2, n3, n4⟩ := jai (n := ⟨op, nam, ⟨ia, il, ic⟩, out, ⟨ao, al, cap⟩⟩) (BX.out w2 (G2.out))
       clear hk e1 dil dib hD E1 HS hc2
       go_wp2_with (first | (go_at_call 176; refine WD.out.mono ?_; rintro e w' ⟨-, v, rfl, rfl, -, rfl⟩) | fail)
       clear hsc WD
       have P3 := jae (PA.out w2 (jaa g0.out G2.out))
       clear PA n0 n1 n2 n3 n4
       cases hk : jcO A with
       | error c =>
        rw [hk] at P3
        have E : Hid (jay A x K along = .error c) := by show _ = _; rw [E2.out, hk]; rfl
        clear hk
        refine P3.out.mono ?_
        rintro e w' ⟨hg, rfl⟩
        exact ⟨rfl, jam E.out (jaa g0.out (jaa G2.out hg))⟩
       | ok pa =>
        rw [hk] at P3 E2
        have E3 : Hid (jay A x K along = jm4 X Y T along di pa) := E2.out
        clear hk E2
        refine P3.out.mono ?_
        rintro e w3 ⟨hg3, v, rfl, ⟨pa1, pn, pc⟩, rfl, hp, hpl, hpb⟩
        have G3 := jae (jaa g0.out (jaa G2.out hg3))
        obtain ⟨pb, po, epa, hpc⟩ := hp.get (k := 0) (by omega)
        have SL : pn = 4 := by
         obtain ⟨a', c', e, -⟩ := hp.sl
         cases e
         exact hpl
        subst epa SL
        have p1 := hpc along (by omega)
        have p2 := hpc (2 + along) (by omega)
        have q1 := hpb _ (jba (l := pa) (k := along) (by omega))
        have q2 := hpb _ (jba (l := pa) (k := 2 + along) (by omega))
        have xc := jac XC.out G3.out
        have kc := jac KC.out G3.out
        have pcb : 4 ≤ pc ∧ pc ≤ 9223372036854775807 := by
         obtain ⟨a', c', e, f1, f2, -⟩ := hp.sl
         simp only [Sl.v, Value.slice.injEq] at e
         rw [hpl] at f1
         rw [e.2.2]
         exact ⟨f1, f2⟩
        obtain ⟨pc1, pc2⟩ := pcb
        have E4 : Hid (jay A x K along = (jaz (decide (0 ≤ X + pa.getD along 0 + pa.getD (2 + along) 0 - D * (Y - 1) - 1))).bind (fun _ => .ok ((X + pa.getD along 0 + pa.getD (2 + along) 0 - D * (Y - 1) - 1) / T + 1))) := by show _ = _; rw [E3.out, HDX.out]; rfl
        obtain ⟨M, hM⟩ : ∃ M, M = D * (Y - 1) := ⟨_, rfl⟩
        have bd := BDI.out
        have bt := BST.out
        have m1 : 0 ≤ M := by rw [hM]; exact Int.mul_nonneg (by omega) (by omega)
        have m2 : M ≤ 100 * 65536 := by rw [hM]; exact Int.mul_le_mul (by omega) (by omega) (by omega) (by omega)
        obtain ⟨U, hU⟩ : ∃ U, U = pa.getD along 0 := ⟨_, rfl⟩
        obtain ⟨V, hV⟩ : ∃ V, V = pa.getD (2 + along) 0 := ⟨_, rfl⟩
        rw [← hM, ← hU, ← hV] at E4
        rw [← hU] at p1 q1
        rw [← hV] at p2 q2
        have hM' : D * (Y - 1) = M := hM.symm
        clear hM hU hV hp hpl hpb hpc E3 P3 HDX hg3
        obtain ⟨N, hN0⟩ : ∃ N, N = X + U + V - M - 1 := ⟨_, rfl⟩
        rw [← hN0] at E4
        have hN1 : X + U + V - M - 1 = N := hN0.symm
        have bN : N ≤ 200000 := by omega
        clear hN0
        rcases (show along = 0 ∨ along = 1 by omega) with rfl | rfl
        ·skip
         simp only [Sl.v, Nat.add_zero, Int.natCast_zero] at *
         have hN : 0 ≤ N → N / T + 1 ≤ 1000000 ∧ 1 ≤ N / T + 1 := fun h => by
          have h1 : N / T ≤ N := Int.ediv_le_self _ h
          have h2 : 0 ≤ N / T := Int.ediv_nonneg h (by omega)
          omega
         have hdv : 0 ≤ N → N.tdiv T = N / T := fun h => Int.tdiv_eq_ediv_of_nonneg h
         have ht0 : ¬ T = 0 := by omega
         have wz2 : IntKind.i64.wrap 2 = 2 := by decide
         have wz3 : IntKind.i64.wrap 3 = 3 := by decide
         have cN : Hid (0 ≤ N → 1 ≤ N / T + 1 ∧ N / T + 1 ≤ 1000000) := fun h => ⟨(hN h).2, (hN h).1⟩
         go_wp2_with fail
         go_quiet (fail)
         clear xc kc p1 p2 wz2 wz3
         by_cases h0 : 0 ≤ N
         ·have E5 : Hid (jay A x K 0 = .ok (N / T + 1)) := by show _ = _; rw [E4.out]; simp [jaz, h0]; rfl
          have hdv' := hdv h0
          have hb := hN h0
          clear hN hdv
          go_wp2_with (first | (go_at_call 118; refine (jaT _).mono ?_; rintro e w' ⟨rfl, rfl⟩) | fail)
          go_ret
          exact jbc E5.out (jbN G3.out _) ⟨rfl, cN.out h0⟩
         ·have E5 : Hid (jay A x K 0 = .error 4) := by show _ = _; rw [E4.out]; simp [jaz, h0]; rfl
          have hd0 : decide (0 ≤ N) = false := by simpa using h0
          clear hN hdv
          go_wp2_with (first | (go_at_call 118; refine (ja2 _).mono ?_; rintro e w' ⟨rfl, rfl⟩) | fail)
          exact ⟨rfl, jam E5.out (jbN G3.out _)⟩
        ·skip
         simp only [Sl.v, Nat.reduceAdd, Int.natCast_one] at *
         have hN : 0 ≤ N → N / T + 1 ≤ 1000000 ∧ 1 ≤ N / T + 1 := fun h => by
          have h1 : N / T ≤ N := Int.ediv_le_self _ h
          have h2 : 0 ≤ N / T := Int.ediv_nonneg h (by omega)
          omega
         have hdv : 0 ≤ N → N.tdiv T = N / T := fun h => Int.tdiv_eq_ediv_of_nonneg h
         have ht0 : ¬ T = 0 := by omega
         have wz2 : IntKind.i64.wrap 2 = 2 := by decide
         have wz3 : IntKind.i64.wrap 3 = 3 := by decide
         have cN : Hid (0 ≤ N → 1 ≤ N / T + 1 ∧ N / T + 1 ≤ 1000000) := fun h => ⟨(hN h).2, (hN h).1⟩
         go_wp2_with fail
         go_quiet (fail)
         clear xc kc p1 p2 wz2 wz3
         by_cases h0 : 0 ≤ N
         ·have E5 : Hid (jay A x K 1 = .ok (N / T + 1)) := by show _ = _; rw [E4.out]; simp [jaz, h0]; rfl
          have hdv' := hdv h0
          have hb := hN h0
          clear hN hdv
          go_wp2_with (first | (go_at_call 118; refine (jaT _).mono ?_; rintro e w' ⟨rfl, rfl⟩) | fail)
          go_ret
          exact jbc E5.out (jbN G3.out _) ⟨rfl, cN.out h0⟩
         ·have E5 : Hid (jay A x K 1 = .error 4) := by show _ = _; rw [E4.out]; simp [jaz, h0]; rfl
          have hd0 : decide (0 ≤ N) = false := by simpa using h0
          clear hN hdv
          go_wp2_with (first | (go_at_call 118; refine (ja2 _).mono ?_; rintro e w' ⟨rfl, rfl⟩) | fail)
          exact ⟨rfl, jam E5.out (jbN G3.out _)⟩
end Go.Proofs.YtkefdkboejimeaaGreatDoor
namespace Go.Proofs.YtkefdkboejimeaaGreatDoor
open Go.RowKit
def jjq (A : At) (x K pa : List Int) : R (List Int) := (jaz ((List.range 4).all (fun i => decide (pa.getD i 0 < K.getD (i % 2) 0)))).bind (fun _ => (jay A x K 0).bind (fun a => (jay A x K 1).bind (fun b => .ok [x.getD 0 0, x.getD 1 0, a, b])))
theorem jm5 {pa K : List Int} {k : Nat} (hk : k < 4) (h : ¬ pa.getD k 0 < K.getD (k % 2) 0) : (List.range 4).all (fun i => decide (pa.getD i 0 < K.getD (i % 2) 0)) = false := by
 rw [List.all_eq_false]
 exact ⟨k, List.mem_range.2 hk, by simpa using h⟩
theorem jk0 {pa K : List Int} (h : ∀ t, t < 4 → pa.getD t 0 < K.getD (t % 2) 0) : (List.range 4).all (fun i => decide (pa.getD i 0 < K.getD (i % 2) 0)) = true := by
 rw [List.all_eq_true]
 intro t ht
 simpa using h t (List.mem_range.1 ht)
theorem jjr (n : Nod) (A : At) (u : Sl) (x : List Int) (w : World) (hn : NodeOk w n A) (hx : IsInts w u.v x) (hf : Fine x) : Calls Tryz.prog 157 #[jaL n, .slice u.a u.n u.c] w (jbj w (jbi A x) jc8) := by
 obtain ⟨ux, uc, eu, c1, c2, c3⟩ := hx.sl
 obtain ⟨ua, un, uu⟩ := u
 simp only [Sl.v, Value.slice.injEq] at eu
 obtain ⟨rfl, rfl, rfl⟩ := eu
 have HX := jae hx
 have PB : Hid (∀ z ∈ x, 1 ≤ z ∧ z ≤ 65536) := fun z hz => ⟨hf.pos z hz, hf.le_each hz⟩
 have E0 : Hid (jbi A x = (jaz (decide (x.length = 4))).bind (fun _ => (jaN (A.ints ⟨#[107, 101, 114, 110, 101, 108, 95, 115, 104, 97, 112, 101]⟩ []) 2 1).bind (fun K => (jcO A).bind (fun pa => jjq A x K pa)))) := rfl
 clear hx hf
 have NK := jae hn
 obtain ⟨op, nam, ⟨ia, il, ic⟩, out, ⟨ao, al, cap⟩⟩ := n
 unfold jaL
 simp only
 obtain ⟨w0, hw0⟩ : ∃ w0, w0 = w.alloc (.cells #[.string op, .string nam, .slice ia il ic, .string out, .slice ao al cap] 35) := ⟨_, rfl⟩
 have g0 : Hid (w.grownBy w0 none) := by show w.grownBy w0 none; rw [hw0]; exact jab _ _
 have hb0 := heap_alloc_new w (.cells #[.string op, .string nam, .slice ia il ic, .string out, .slice ao al cap] 35)
 rw [← hw0] at hb0
 have BX : Hid (∀ wx, w0.grownBy wx none → wx.heap[w.heap.size]? = some (.cells #[.string op, .string nam, .slice ia il ic, .string out, .slice ao al cap] 35 (0, 0))) := fun wx hg => jad hb0 hg
 clear hb0 hn
 have NI := jae (jca ⟨op, nam, ⟨ia, il, ic⟩, out, ⟨ao, al, cap⟩⟩ A ⟨#[107, 101, 114, 110, 101, 108, 95, 115, 104, 97, 112, 101]⟩ ⟨none, 0, 0⟩ [] w0 (NK.out.more g0.out) ⟨none, 0, rfl, Nat.le_refl _, by decide, by simp, fun _ => ⟨rfl, rfl⟩, fun h => (by simp at h), fun z hz => (by simp at hz)⟩)
 have PA := jae (fun (wx : World) (hg : w.grownBy wx none) => jfp ⟨op, nam, ⟨ia, il, ic⟩, out, ⟨ao, al, cap⟩⟩ A wx (NK.out.more hg))
 have PL := jae (fun (wx : World) (hg : w.grownBy wx none) (v : Sl) (K : List Int) (lng : Nat) (hK : IsInts wx v.v K) (hl : x.length = 4) (hlK : K.length = 2) (bK : ∀ z ∈ K, 1 ≤ z ∧ z ≤ 65536) (ha : lng < 2) => jcn ⟨op, nam, ⟨ia, il, ic⟩, out, ⟨ao, al, cap⟩⟩ A ⟨ua, x.length, uu⟩ v x K lng wx (NK.out.more hg) (HX.out.more hg) hK hl hlK PB.out bK ha)
 unfold jaL at NI PA PL
 simp only at NI PA PL
 by_cases hl : x.length = 4
 ·have b0 : ((x.length : Int) == 4) = true := by simp [hl]
  have E1 : Hid (jbi A x = (jaN (A.ints ⟨#[107, 101, 114, 110, 101, 108, 95, 115, 104, 97, 112, 101]⟩ []) 2 1).bind (fun K => (jcO A).bind (fun pa => jjq A x K pa))) := by show _ = _; rw [E0.out]; simp [jaz, hl]; rfl
  have HL := jae hl
  clear hl
  go_enter Tryz.func157, Tryz.ntmps157
  go_wp2_with (first | (go_at_call 118; refine (jaT _).mono ?_; rintro e w' ⟨rfl, rfl⟩) | fail)
  rw [← hw0]
  clear hw0 b0
  refine NI.out.mono ?_
  rintro e w1 ⟨s, rfl, hs, hg1⟩
  have G1 := jae hg1
  have WD := jae (jc2 s _ 2 1 w1 hs (by decide))
  have HS := jae hs
  clear hs hg1 NI
  cases hk : jaN (A.ints ⟨#[107, 101, 114, 110, 101, 108, 95, 115, 104, 97, 112, 101]⟩ []) 2 1 with
  | error c =>
   rw [hk] at WD
   have E : Hid (jbi A x = .error c) := by show _ = _; rw [E1.out, hk]; rfl
   clear hk
   go_wp2_with (first | (go_at_call 176; refine WD.out.mono ?_; rintro e w' ⟨hg, rfl⟩) | fail)
   exact ⟨rfl, jam E.out (jaa g0.out (jaa G1.out hg))⟩
  | ok K =>
   rw [hk] at WD E1
   obtain ⟨e1, kl, kbd⟩ := jcm hk
   rw [← e1] at HS
   have SL : s.n = 2 := by
    obtain ⟨a', c', e, -⟩ := HS.out.sl
    have : s.n = K.length := by simp only [Sl.v, Value.slice.injEq] at e; exact e.2.1
    rw [this, kl]
   obtain ⟨sa, sn, sc⟩ := s
   obtain ⟨kb, ko, esa, hck⟩ := HS.out.get (k := 0) (by omega)
   simp only at esa SL
   subst esa SL
   simp only [Sl.v] at WD HS ⊢
   have E2 : Hid (jbi A x = (jcO A).bind (fun pa => jjq A x K pa)) := E1.out
   have KL := jae kl
   have KB := jae kbd
   have KC := jae hck
   obtain ⟨n0, n1, n2, n3, n4⟩ := jai (n := ⟨op, nam, ⟨ia, il, ic⟩, out, ⟨ao, al, cap⟩⟩) (BX.out w1 (G1.out))
   clear hk e1 kl kbd hck E1
   go_wp2_with (first | (go_at_call 176; refine WD.out.mono ?_; rintro e w' ⟨-, v, rfl, rfl, -, rfl⟩) | fail)
   have P3 := jae (PA.out w1 (jaa g0.out G1.out))
   clear WD PA n0 n1 n2 n3 n4
   cases hk : jcO A with
   | error c =>
    rw [hk] at P3
    have E : Hid (jbi A x = .error c) := by show _ = _; rw [E2.out, hk]; rfl
    clear hk
    refine P3.out.mono ?_
    rintro e w' ⟨hg, rfl⟩
    exact ⟨rfl, jam E.out (jaa g0.out (jaa G1.out hg))⟩
   | ok pa =>
    rw [hk] at P3 E2
    have E3 : Hid (jbi A x = jjq A x K pa) := E2.out
    clear hk E2
    refine P3.out.mono ?_
    rintro e w4 ⟨hg3, v, rfl, ⟨pa1, pn, pc⟩, rfl, hp, hpl, hpb⟩
    obtain ⟨pb', po, epa, hpc⟩ := hp.get (k := 0) (by omega)
    have pcb : 4 ≤ pc ∧ pc ≤ 9223372036854775807 := by
     obtain ⟨a', c', e, f1, f2, -⟩ := hp.sl
     simp only [Sl.v, Value.slice.injEq] at e
     rw [hpl] at f1
     rw [e.2.2]
     exact ⟨f1, f2⟩
    have SL : pn = 4 := by
     obtain ⟨a', c', e, -⟩ := hp.sl
     simp only [Sl.v, Value.slice.injEq] at e
     rw [← hpl]; exact e.2.1
    simp only at epa
    subst epa SL
    obtain ⟨pc1, pc2⟩ := pcb
    have G04 := jae (jaa G1.out hg3)
    have G4 := jae (jaa g0.out (jaa G1.out hg3))
    have KC4 : Hid (∀ i, i < K.length → w4.cell? ⟨kb, ko + i, none⟩ = some (.int .i64 (K.getD i 0))) := fun i hi => jac (KC.out i hi) hg3
    have HPC := jae hpc
    have HPL := jae hpl
    have HK4 := jae (HS.out.more hg3)
    clear hp hpl hpb hpc hg3 P3 KC HS
    simp only [Sl.v]
    go_wp2
    go_loopw [18] (fun i wr => w4 = wr ∧ ∃ k : Nat, k ≤ 4 ∧ i = .int .i64 k ∧ ∀ t, t < k → pa.getD t 0 < K.getD (t % 2) 0) (fun i _ => 4 - (intOf i).toNat)
    case atStart => exact ⟨rfl, 0, Nat.zero_le _, rfl, fun t h => absurd h (by omega)⟩
    case round =>
     obtain ⟨hw, k, hk, rfl, hall⟩ := hrel
     subst hw
     have HA := jae hall
     clear hall
     by_cases hkl : k < 4
     ·have p1 := HPC.out k (by have := HPL.out; omega)
      obtain ⟨m, hm⟩ : ∃ m : Nat, m = k % 2 := ⟨_, rfl⟩
      have q1 := KC4.out m (by have := KL.out; omega)
      have hmod : (k : Int).tmod 2 = (m : Int) := by rw [hm, Int.tmod_eq_emod_of_nonneg (by omega)]; omega
      have hm2 : m < 2 := by omega
      have i1 : (k : Int) < 4 := by omega
      have i2 : (m : Int) < 2 := by omega
      obtain ⟨P, hP⟩ : ∃ P, P = pa.getD k 0 := ⟨_, rfl⟩
      obtain ⟨Q, hQ⟩ : ∃ Q, Q = K.getD m 0 := ⟨_, rfl⟩
      rw [← hP] at p1
      rw [← hQ] at q1
      have HPP := jae hP
      have HQQ : Hid (Q = K.getD (k % 2) 0) := by show _ = _; rw [hQ, hm]
      clear hP hQ hm
      by_cases hpq : P < Q
      ·go_wp2_with (first | (go_at_call 118; refine (jaT _).mono ?_; rintro e w' ⟨rfl, rfl⟩) | fail)
       go_roundw
       case rel =>
        refine ⟨by trivial, k + 1, by omega, by go_num, fun t ht => ?_⟩
        rcases jbe ht with h | rfl
        ·exact HA.out t h
        ·rw [← HPP.out, ← HQQ.out]; exact hpq
       case measure => simp [intOf]; omega
      ·have bpq : decide (P < Q) = false := by simpa using hpq
       have E4 : Hid (jbi A x = .error 4) := by show _ = _; rw [E3.out]; unfold jjq; rw [jm5 hkl (by rw [← HPP.out, ← HQQ.out]; exact hpq)]; rfl
       clear hpq
       go_wp2_with (first | (go_at_call 118; refine (ja2 _).mono ?_; rintro e w' ⟨rfl, rfl⟩) | fail)
       exact ⟨rfl, jam E4.out G4.out⟩
     ·have E4 : Hid (jbi A x = (jay A x K 0).bind (fun a => (jay A x K 1).bind (fun b => .ok [x.getD 0 0, x.getD 1 0, a, b]))) := by show _ = _; rw [E3.out]; unfold jjq; rw [jk0 (fun t ht => HA.out t (by omega))]; rfl
      have hl := HL.out
      obtain ⟨xb, xo, rfl, hcx⟩ := HX.out.get (k := 0) (by omega)
      have X0 := jae (hcx 0 (by omega))
      have X1 := jae (hcx 1 (by omega))
      have bx0 := PB.out _ (jba (l := x) (k := 0) (by omega))
      have bx1 := PB.out _ (jba (l := x) (k := 1) (by omega))
      rw [Nat.add_zero] at X0
      obtain ⟨x0, hx0⟩ : ∃ z, z = x.getD 0 0 := ⟨_, rfl⟩
      obtain ⟨x1, hx1⟩ : ∃ z, z = x.getD 1 0 := ⟨_, rfl⟩
      rw [← hx0] at X0 bx0 E4
      rw [← hx1] at X1 bx1 E4
      have y0 := jac X0.out G4.out
      have y1 := jac X1.out G4.out
      have L0 := jae (fun (wx : World) (hg : w4.grownBy wx none) => PL.out wx (jaa G4.out hg) ⟨some ⟨kb, ko, none⟩, 2, sc⟩ K 0 (HK4.out.more hg) HL.out KL.out (fun z hz => by have := KB.out z hz; omega) (by decide))
      have L1 := jae (fun (wx : World) (hg : w4.grownBy wx none) => PL.out wx (jaa G4.out hg) ⟨some ⟨kb, ko, none⟩, 2, sc⟩ K 1 (HK4.out.more hg) HL.out KL.out (fun z hz => by have := KB.out z hz; omega) (by decide))
      simp only [Int.natCast_zero, Int.natCast_one] at L0 L1
      have l0 : (0 : Int) < (x.length : Int) := by omega
      have l1 : (1 : Int) < (x.length : Int) := by omega
      have m0 : 0 < x.length := by omega
      have m1 : 1 < x.length := by omega
      obtain ⟨n0, n1, n2, n3, n4⟩ := jai (n := ⟨op, nam, ⟨ia, il, ic⟩, out, ⟨ao, al, cap⟩⟩) (BX.out w4 (G04.out))
      clear hcx hx0 hx1 hl PL
      go_wp2_with fail
      cases hA0 : jay A x K 0 with
      | error c =>
       rw [hA0] at L0
       have E5 : Hid (jbi A x = .error c) := by show _ = _; rw [E4.out, hA0]; rfl
       clear hA0
       refine wp_region_held_drew (S := (fun w' => w'.cell? ⟨w.heap.size, 0, none⟩ = some (.string op) ∧ w'.cell? ⟨w.heap.size, 1, none⟩ = some (.string nam) ∧ w'.cell? ⟨w.heap.size, 2, none⟩ = some (.slice ia il ic) ∧ w'.cell? ⟨w.heap.size, 3, none⟩ = some (.string out) ∧ w'.cell? ⟨w.heap.size, 4, none⟩ = some (.slice ao al cap) ∧ w'.cell? ⟨xb, xo, none⟩ = some (.int .i64 x0) ∧ w'.cell? ⟨xb, xo + 1, none⟩ = some (.int .i64 x1))) (by kernel_rfl) (by go_keep) (fun hHeld => ?_)
       refine tkA 0 ?_
       try simp only [Act.put]
       refine tkA 1 ?_
       try simp only [Act.put]
       refine tkA 2 ?_
       try simp only [Act.put]
       refine tkA 3 ?_
       try simp only [Act.put]
       refine tkA 4 ?_
       try simp only [Act.put]
       refine tkA 5 ?_
       try simp only [Act.put]
       refine tkA 6 ?_
       try simp only [Act.put]
       refine tkA 7 ?_
       try simp only [Act.put]
       refine tkA 8 ?_
       try simp only [Act.put]
       refine tkA 10 ?_
       try simp only [Act.put]
       refine tkA 11 ?_
       try simp only [Act.put]
       refine tkA 12 ?_
       try simp only [Act.put]
       refine wpAnyH_ready (rs := [9]) (by kernel_rfl) (by simp) ?_
       refine AllReadyH.cons rfl (fun K hK => ?_) ?_
       ·skip
        go_simp
        refine (L0.out _ (jag (jaf _))).mono ?_
        rintro e wy ⟨hg, rfl⟩
        exact ⟨rfl, jam E5.out (jaa (jag G4.out) hg)⟩
       exact AllReadyH.nil
      | ok pa =>
       rw [hA0] at L0
       cases hA1 : jay A x K 1 with
       | error c =>
        rw [hA1] at L1
        have E6 : Hid (jbi A x = .error c) := by show _ = _; rw [E4.out, hA0, hA1]; rfl
        clear hA0 hA1
        refine wp_region_held_drew (S := (fun w' => w'.cell? ⟨w.heap.size, 0, none⟩ = some (.string op) ∧ w'.cell? ⟨w.heap.size, 1, none⟩ = some (.string nam) ∧ w'.cell? ⟨w.heap.size, 2, none⟩ = some (.slice ia il ic) ∧ w'.cell? ⟨w.heap.size, 3, none⟩ = some (.string out) ∧ w'.cell? ⟨w.heap.size, 4, none⟩ = some (.slice ao al cap) ∧ w'.cell? ⟨xb, xo, none⟩ = some (.int .i64 x0) ∧ w'.cell? ⟨xb, xo + 1, none⟩ = some (.int .i64 x1))) (by kernel_rfl) (by go_keep) (fun hHeld => ?_)
        refine tkA 0 ?_
        try simp only [Act.put]
        refine tkA 1 ?_
        try simp only [Act.put]
        refine tkA 2 ?_
        try simp only [Act.put]
        refine tkA 3 ?_
        try simp only [Act.put]
        refine tkA 4 ?_
        try simp only [Act.put]
        refine tkA 5 ?_
        try simp only [Act.put]
        refine tkA 6 ?_
        try simp only [Act.put]
        refine tkA 7 ?_
        try simp only [Act.put]
        refine tkA 8 ?_
        try simp only [Act.put]
        refine tkA 10 ?_
        try simp only [Act.put]
        refine tkA 11 ?_
        try simp only [Act.put]
        refine tkA 12 ?_
        try simp only [Act.put]
        refine wpAnyH_ready (rs := [9]) (by kernel_rfl) (by simp) ?_
        refine AllReadyH.cons rfl (fun K hK => ?_) ?_
        ·skip
         go_simp
         refine (L0.out _ (jag (jaf _))).mono ?_
         rintro e w5 ⟨hg5, v, rfl, rfl, hb1, hb2⟩
         have g5 := jaa (jag (jaf w4)) hg5
         have g5w := jaa G04.out g5
         obtain ⟨n0, n1, n2, n3, n4⟩ := jai (n := ⟨op, nam, ⟨ia, il, ic⟩, out, ⟨ao, al, cap⟩⟩) (BX.out w5 g5w)
         have y0 := jac X0.out (jaa g0.out g5w)
         have y1 := jac X1.out (jaa g0.out g5w)
         try dsimp only
         refine hK.out _ _ (by first | assumption | go_keep) (fun hHeld => ?_)
         clear hK K
         try simp only [Act.put]
         refine wpAnyH_ready (rs := [13]) (by kernel_rfl) (by simp) ?_
         refine AllReadyH.cons rfl (fun K hK => ?_) ?_
         ·skip
          go_simp
          refine (L1.out _ g5).mono ?_
          rintro e wy ⟨hg, rfl⟩
          exact ⟨rfl, jam E6.out (jaa (jaa G4.out g5) hg)⟩
         exact AllReadyH.nil
        exact AllReadyH.nil
       | ok pb =>
        rw [hA1] at L1
        have E7 : Hid (jbi A x = .ok [x0, x1, pa, pb]) := by show _ = _; rw [E4.out, hA0, hA1]; rfl
        clear hA0 hA1
        refine wp_region_held_drew (S := (fun w' => w'.cell? ⟨w.heap.size, 0, none⟩ = some (.string op) ∧ w'.cell? ⟨w.heap.size, 1, none⟩ = some (.string nam) ∧ w'.cell? ⟨w.heap.size, 2, none⟩ = some (.slice ia il ic) ∧ w'.cell? ⟨w.heap.size, 3, none⟩ = some (.string out) ∧ w'.cell? ⟨w.heap.size, 4, none⟩ = some (.slice ao al cap) ∧ w'.cell? ⟨xb, xo, none⟩ = some (.int .i64 x0) ∧ w'.cell? ⟨xb, xo + 1, none⟩ = some (.int .i64 x1))) (by kernel_rfl) (by go_keep) (fun hHeld => ?_)
        refine tkA 0 ?_
        try simp only [Act.put]
        refine tkA 1 ?_
        try simp only [Act.put]
        refine tkA 2 ?_
        try simp only [Act.put]
        refine tkA 3 ?_
        try simp only [Act.put]
        refine tkA 4 ?_
        try simp only [Act.put]
        refine tkA 5 ?_
        try simp only [Act.put]
        refine tkA 6 ?_
        try simp only [Act.put]
        refine tkA 7 ?_
        try simp only [Act.put]
        refine tkA 8 ?_
        try simp only [Act.put]
        refine tkA 10 ?_
        try simp only [Act.put]
        refine tkA 11 ?_
        try simp only [Act.put]
        refine tkA 12 ?_
        try simp only [Act.put]
        refine wpAnyH_ready (rs := [9]) (by kernel_rfl) (by simp) ?_
        refine AllReadyH.cons rfl (fun K hK => ?_) ?_
        ·skip
         go_simp
         refine (L0.out _ (jag (jaf _))).mono ?_
         rintro e w5 ⟨hg5, v, rfl, rfl, hb1, hb2⟩
         have g5 := jaa (jag (jaf w4)) hg5
         have g5w := jaa G04.out g5
         obtain ⟨n0, n1, n2, n3, n4⟩ := jai (n := ⟨op, nam, ⟨ia, il, ic⟩, out, ⟨ao, al, cap⟩⟩) (BX.out w5 g5w)
         have y0 := jac X0.out (jaa g0.out g5w)
         have y1 := jac X1.out (jaa g0.out g5w)
         try dsimp only
         refine hK.out _ _ (by first | assumption | go_keep) (fun hHeld => ?_)
         clear hK K
         try simp only [Act.put]
         refine wpAnyH_ready (rs := [13]) (by kernel_rfl) (by simp) ?_
         refine AllReadyH.cons rfl (fun K hK => ?_) ?_
         ·skip
          go_simp
          refine (L1.out _ g5).mono ?_
          rintro e w6 ⟨hg6, v, rfl, rfl, hc1, hc2⟩
          have g6 := jaa g5 hg6
          have g6w := jaa G04.out g6
          obtain ⟨n0, n1, n2, n3, n4⟩ := jai (n := ⟨op, nam, ⟨ia, il, ic⟩, out, ⟨ao, al, cap⟩⟩) (BX.out w6 g6w)
          have y0 := jac X0.out (jaa g0.out g6w)
          have y1 := jac X1.out (jaa g0.out g6w)
          try dsimp only
          refine hK.out _ _ (by first | assumption | go_keep) (fun hHeld => ?_)
          clear hK K
          try simp only [Act.put]
          refine wpAnyH_ready (rs := [14]) (by kernel_rfl) (by simp) ?_
          refine AllReadyH.cons rfl (fun K hK => ?_) ?_
          ·skip
           go_simp
           have y0 := jac y0 (jab w6 (.cells #[.int .i64 x0, .int .i64 x1, .int .i64 pa, .int .i64 pb] 3))
           have y1 := jac y1 (jab w6 (.cells #[.int .i64 x0, .int .i64 x1, .int .i64 pa, .int .i64 pb] 3))
           obtain ⟨n0, n1, n2, n3, n4⟩ := jai (n := ⟨op, nam, ⟨ia, il, ic⟩, out, ⟨ao, al, cap⟩⟩) (BX.out _ (jaa g6w (jab w6 (.cells #[.int .i64 x0, .int .i64 x1, .int .i64 pa, .int .i64 pb] 3))))
           refine hK.out _ _ (by first | assumption | go_keep) (fun hHeld => ?_)
           clear hK K
           try simp only [Act.put]
           refine tkA 15 ?_
           try simp only [Act.put]
           refine wpAnyH_done (by kernel_rfl) ?_ _
           try go_simp
           go_wp2
           go_ret
           exact jbc E7.out (jaa (jaa G4.out g6) (jab _ _)) ⟨⟨some ⟨w6.heap.size, 0, none⟩, 4, 4⟩, rfl, jbO w6 [x0, x1, pa, pb] 3 (by simp) (fun y hy => by simp at hy; omega)⟩
          exact AllReadyH.nil
         exact AllReadyH.nil
        exact AllReadyH.nil
 ·have b0 : ((x.length : Int) == 4) = false := by simpa using (fun h => hl (by omega) : ¬ (x.length : Int) = 4)
  have E1 : Hid (jbi A x = .error 4) := by show _ = _; rw [E0.out]; simp [jaz, hl]; rfl
  clear hl
  go_enter Tryz.func157, Tryz.ntmps157
  go_wp2_with (first | (go_at_call 118; refine (ja2 _).mono ?_; rintro e w' ⟨rfl, rfl⟩) | fail)
  rw [← hw0]
  exact ⟨rfl, jam E1.out g0.out⟩
end Go.Proofs.YtkefdkboejimeaaGreatDoor
