/- A part. -/
import Derived.Test.YtkefdkboejimeaaGreatDoorPartAB
import Derived.Laws.ResultCell
set_option maxHeartbeats 6400000
namespace Go.Proofs.YtkefdkboejimeaaGreatDoor.Vw
open Go.RowKit
def jbt (w : World) (base : Nat) (u : Value) (off : Int) (ds ss : List Int) : Prop :=
 ∃ dv sv, u = .agg #[.int .i64 off, dv, sv] ∧ Owns w base dv ds ∧ Owns w base sv ss ∧ -9223372036854775808 ≤ off ∧ off ≤ 9223372036854775807 ∧ (dv.ownBlock = none ∨ dv.ownBlock ≠ sv.ownBlock)
theorem jbt.new {w w' : World} {base : Nat} {u : Value} {off : Int} {ds ss : List Int} (h : jbt w base u off ds ss) (hg : w.grownBy w' none) : jbt w' base u off ds ss := by
 obtain ⟨dv, sv, rfl, h1, h2, h3, h4, h5⟩ := h
 exact ⟨dv, sv, rfl, h1.new hg, h2.new hg, h3, h4, h5⟩
theorem jbt.nil (w : World) (base : Nat) : jbt w base (.agg #[.int .i64 0, .slice none 0 0, .slice none 0 0]) 0 [] [] :=
 ⟨_, _, rfl, jbY _ _, jbY _ _, by omega, by omega, Or.inl rfl⟩
theorem store3 {w w3 : World} {B : Nat} {z0 z1 z2 : Value} (a b c : Value) (hg : w.grownBy w3 none) (hB : w.heap.size ≤ B) (hb : w3.heap[B]? = some (.cells #[z0, z1, z2] 105 (0, 0))) :
    (((w3.setCell ⟨B, 0, none⟩ a).setCell ⟨B, 1, none⟩ b).setCell ⟨B, 2, none⟩ c).heap[B]? = some (.cells #[a, b, c] 105 (0, 0)) ∧
    w.grownBy (((w3.setCell ⟨B, 0, none⟩ a).setCell ⟨B, 1, none⟩ b).setCell ⟨B, 2, none⟩ c) none ∧ w3.grownBy (((w3.setCell ⟨B, 0, none⟩ a).setCell ⟨B, 1, none⟩ b).setCell ⟨B, 2, none⟩ c) (some B) := by
     have h1 := heap_setCell_same w3 B 0 _ _ a hb
     have h2 := heap_setCell_same _ B 1 _ _ b h1
     have h3 := heap_setCell_same _ B 2 _ _ c h2
     have g : ∀ (x : World) (j : Nat) (v : Value), x.grownBy (x.setCell ⟨B, j, none⟩ v) (some B) := fun x j v =>
      ⟨rfl, rfl, rfl, by simp [World.setCell], fun k _ hk => Below.heap_setCell _ _ _ _ (fun e => hk (by rw [e]))⟩
     have g3 := jbw (jbw (g w3 0 a) (g _ 1 b)) (g _ 2 c)
     exact ⟨by simpa using h3, jah hg g3 (fun r e => by cases e; exact hB), g3⟩
theorem box_cells {w : World} {B : Nat} {a b c : Value} (hb : w.heap[B]? = some (.cells #[a, b, c] 105 (0, 0))) :
    w.cell? ⟨B, 0, none⟩ = some a ∧ w.cell? ⟨B, 1, none⟩ = some b ∧ w.cell? ⟨B, 2, none⟩ = some c ∧ w.frozen? ⟨B, 0, none⟩ = false ∧ w.frozen? ⟨B, 1, none⟩ = false ∧ w.frozen? ⟨B, 2, none⟩ = false :=
     ⟨(cell_of_row _ _ 0 _ _ (0, 0) hb).trans rfl, (cell_of_row _ _ 1 _ _ (0, 0) hb).trans rfl, (cell_of_row _ _ 2 _ _ (0, 0) hb).trans rfl, frozen_of_row w B 0 _ _ hb, frozen_of_row w B 1 _ _ hb, frozen_of_row w B 2 _ _ hb⟩
theorem jno : (Tryz.prog.info? 105).map (·.size) = some 3 := by kernel_rfl
theorem jbH {fn : Func} {p u : Tmp} (h : fn.results = #[.cell p 105, .tmp u]) (tmps : Array Value) (w : World) (B : Nat) (hp : tmps.getD p undef = .pointer (some ⟨B, 0, none⟩)) {a b c : Value}
    (hb : w.heap[B]? = some (.cells #[a, b, c] 105 (0, 0))) : (results fn tmps).run Tryz.prog w = .ok (.tuple #[.agg #[a, b, c], tmps.getD u undef]) w := by
     have hl := run_loadVar_row (P := Tryz.prog) w B _ 105 #[a, b, c] (0, 0) _ hb Tryz.underlying105 rfl (by rw [jno]; rfl)
     rw [results_cell_tmp h, hp]
     simp [asAddr, hl, Result.andThen]
theorem jds (v : Value) (zs : List Int) (w : World) (h : IsInts w v zs) :
    Calls Tryz.prog 111 #[v] w fun e w' => ∃ u, e = .returned u ∧ Owns w' w.heap.size u zs ∧ w.grownBy w' none := by
     have h3 := h.le
     have H := jae h
     obtain ⟨ao, cap, rfl, h1, h2, _, h4, -, -⟩ := h
     have heq := fun wx => Lib.run_eql_slice_nil (P := Tryz.prog) wx 22 3 ao zs.length cap 0 0 Tryz.underlying22
     cases ao with
     | none =>
      obtain ⟨rfl, rfl⟩ := h4 rfl
      have heq0 := fun wx => Lib.run_eql_slice_nil (P := Tryz.prog) wx 22 3 none 0 0 0 0 Tryz.underlying22
      simp only [List.length_nil]
      clear heq H
      go_enter Tryz.func111, Tryz.ntmps111
      go_wp2
      go_ret
      exact ⟨_, rfl, jbY _ _, jaf _⟩
     | some ad =>
      have O0 : Owns (w.alloc (.cells #[] 3)) w.heap.size (.slice (some ⟨w.heap.size, 0, none⟩) 0 0) [] :=
       ⟨by simpa using World.ownsRow_lit (base := w.heap.size) (e := 3) (size := 1) w #[] 0 (Nat.le_refl _) (by simp [maxLen]) rfl, by simp, fun z hz => by simp at hz⟩
      have g0 := jab w (.cells #[] 3)
      have H0 := jae (H.out.more g0)
      go_enter Tryz.func111, Tryz.ntmps111
      go_wp2_with (at_builtin; refine jdM rfl (.tmp 5) (.tmp 6) rfl w.heap.size _ [] rfl O0 _ zs rfl H0.out ?_ ?_ ?_; (simpa using h3); simp; intro v' w1 hown hgrow)
      go_ret
      exact ⟨_, rfl, by simpa using hown, jah g0 hgrow (fun g hg => by cases hg; exact Nat.le_refl _)⟩
end Go.Proofs.YtkefdkboejimeaaGreatDoor.Vw
namespace Go.Proofs.YtkefdkboejimeaaGreatDoor.Vw
open Go.RowKit
def jeT (off : Int) (ds : List Int) : Int := if ja3 ds = 0 then off else 0
def rowDs (ds : List Int) : List Int := if ja3 ds = 0 then ds else []
theorem jlf (w : World) : (w.alloc (.cells #[.int .i64 0, .slice none 0 0, .slice none 0 0] 105)).heap[w.heap.size]? = some (.cells #[.int .i64 0, .slice none 0 0, .slice none 0 0] 105 (0, 0)) := heap_alloc_new w _
theorem jad {w w' : World} {B : Nat} {o : Obj} (hb : w.heap[B]? = some o) (hg : w.grownBy w' none) : w'.heap[B]? = some o := (hg.block B (Array.getElem?_eq_some_iff.1 hb).1 (by simp)).trans hb
theorem _root_.Go.Proofs.YtkefdkboejimeaaGreatDoor.Owns.box {w w' : World} {base B : Nat} {v : Value} {zs : List Int} (h : Owns w base v zs) (hg : w.grownBy w' (some B)) (hB : B < base) : Owns w' base v zs :=
 h.more hg (Or.inr (fun e => by have := (h.lt B e).1; omega))
theorem jpa (off : Int) (v : Value) (ds : List Int) (w : World) (h : IsInts w v ds) (ho1 : -9223372036854775808 ≤ off) (ho2 : off ≤ 9223372036854775807) :
    Calls Tryz.prog 70 #[.int .i64 off, v] w fun e w' => ∃ u, e = .returned (.tuple #[u, .int .i64 (ja3 ds)]) ∧ jbt w' w.heap.size u (jeT off ds) (rowDs ds) (jcu ds) ∧ w.grownBy w' none := by
     have g0 := jab w (.cells #[.int .i64 0, .slice none 0 0, .slice none 0 0] 105)
     have b0 := jae (jlf w)
     have c1 := jae (jhi v ds _ (h.more g0))
     have H := jae h
     have hs0 : (w.alloc (.cells #[.int .i64 0, .slice none 0 0, .slice none 0 0] 105)).heap.size = w.heap.size + 1 := by simp
     rw [hs0] at c1
     clear h hs0
     by_cases hE : ja3 ds = 0
     ·rw [show jeT off ds = off by simp [jeT, hE], show rowDs ds = ds by simp [rowDs, hE], hE]
      rw [hE] at c1
      clear hE
      go_enter Tryz.func70, Tryz.ntmps70
      go_wp2_with fail
      refine c1.out.mono ?_
      rintro e w1 ⟨s, rfl, os, hg1⟩
      have g1 := jaa g0 hg1
      have OS := jae os
      have c2 := jae (jds v ds w1 (H.out.more g1))
      have hsz := hg1.size
      simp only [World.size_alloc] at hsz
      clear os
      go_wp2_with fail
      refine c2.out.mono ?_
      rintro e w2 ⟨d, rfl, od, hg2⟩
      have g2 := jaa g1 hg2
      have hb := jad b0.out (jaa hg1 hg2)
      obtain ⟨k0, k1, k2, f0, f1, f2⟩ := box_cells hb
      obtain ⟨hX, gX, gB⟩ := store3 (.int .i64 off) d s g2 (Nat.le_refl _) hb
      have OD := jae (od.box gB (by omega))
      have OS2 := jae ((OS.out.new hg2).box gB (by omega))
      have AP := jae (jed (v := s) (v' := d) (a := w1.heap.size) (b := w1.heap.size) (fun k hk => (OS.out.lt k hk).2) (fun k hk => (od.lt k hk).1) (Nat.le_refl _))
      have HX := jae hX
      have GX := jae gX
      obtain ⟨da, dc, rfl, -, -, -, -, -, -⟩ := od.ints
      obtain ⟨sa, sc, rfl, -, -, -, -, -, -⟩ := OS.out.ints
      clear od hX gX gB hb
      go_wp2
      refine bodyPost_ret (jbH rfl _ _ w.heap.size rfl HX.out) rfl ?_
      refine ⟨_, rfl, ⟨_, _, rfl, OD.out.base_le (by omega), OS2.out.base_le (by omega), ho1, ho2, ?_⟩, GX.out⟩
      rcases AP.out with h | h
      ·rw [h]
       generalize Value.ownBlock _ = o
       cases o with
       | none => exact Or.inl rfl
       | some k => exact Or.inr (by simp)
      ·exact Or.inr (fun e => h e.symm)
     ·rw [show jeT off ds = 0 by simp [jeT, hE], show rowDs ds = [] by simp [rowDs, hE]]
      rw [show jcu ds = [] by simp [jcu, hE]] at c1 ⊢
      have hE' := jdc hE
      obtain ⟨E, hEE⟩ : ∃ E, E = ja3 ds := ⟨_, rfl⟩
      rw [← hEE] at hE' c1 ⊢
      clear hE hEE
      go_enter Tryz.func70, Tryz.ntmps70
      go_wp2_with fail
      refine c1.out.mono ?_
      rintro e w1 ⟨s, rfl, os, hg1⟩
      have g1 := jaa g0 hg1
      have hb := jad b0.out hg1
      obtain ⟨k0, k1, k2, f0, f1, f2⟩ := box_cells hb
      obtain ⟨hX, gX, gB⟩ := store3 (.int .i64 0) (.slice none 0 0) (.slice none 0 0) g1 (Nat.le_refl _) hb
      have HX := jae hX
      have GX := jae gX
      clear os hX gX gB hb
      go_wp2
      refine bodyPost_ret (jbH rfl _ _ w.heap.size rfl HX.out) rfl ?_
      exact ⟨_, rfl, jbt.nil _ _, GX.out⟩
theorem whole_any (v : Value) (ds : List Int) (w : World) (h : IsInts w v ds) :
    Calls Tryz.prog 65 #[v] w fun e w' => ∃ u, e = .returned (.tuple #[u, .int .i64 (ja3 ds)]) ∧ jbt w' w.heap.size u 0 (rowDs ds) (jcu ds) ∧ w.grownBy w' none := by
     have g0 := jab w (.cells #[.int .i64 0, .slice none 0 0, .slice none 0 0] 105)
     have b0 := jae (jlf w)
     have c1 := jpa 0 v ds _ (h.more g0) (by omega) (by omega)
     have hs0 : (w.alloc (.cells #[.int .i64 0, .slice none 0 0, .slice none 0 0] 105)).heap.size = w.heap.size + 1 := by simp
     rw [hs0, show jeT 0 ds = 0 by simp [jeT]] at c1
     have C1 := jae c1
     clear h hs0 c1
     go_enter Tryz.func65, Tryz.ntmps65
     go_wp2_with fail
     refine C1.out.mono ?_
     rintro e w1 ⟨u, rfl, ⟨d, s, rfl, od, os, _, _, ap⟩, hg1⟩
     have g1 := jaa g0 hg1
     have hb := jad b0.out hg1
     obtain ⟨k0, k1, k2, f0, f1, f2⟩ := box_cells hb
     obtain ⟨hX, gX, gB⟩ := store3 (.int .i64 0) d s g1 (Nat.le_refl _) hb
     have OD := jae (od.box gB (by omega))
     have OS := jae (os.box gB (by omega))
     have AP := jae ap
     have HX := jae hX
     have GX := jae gX
     obtain ⟨da, dc, rfl, -, -, -, -, -, -⟩ := od.ints
     obtain ⟨sa, sc, rfl, -, -, -, -, -, -⟩ := os.ints
     clear od os ap hX gX gB hb
     go_wp2
     refine bodyPost_ret (jbH rfl _ _ w.heap.size rfl HX.out) rfl ?_
     exact ⟨_, rfl, ⟨_, _, rfl, OD.out.base_le (by omega), OS.out.base_le (by omega), by omega, by omega, AP.out⟩, GX.out⟩
theorem jax (w : World) (o o' : Obj) : ((w.alloc o).alloc o').heap[w.heap.size]? = some o ∧ ((w.alloc o).alloc o').heap[w.heap.size + 1]? = some o' := by
 constructor
 ·rw [Below.heap_alloc _ _ _ (by simp)]
  exact heap_alloc_new w o
 ·have := heap_alloc_new (w.alloc o) o'
  simpa using this
theorem jf2 {w wl : World} {B base : Nat} {z0 z1 z2 d s : Value} {off : Int} {ds ss : List Int} (hg : w.grownBy wl none) (hB : w.heap.size ≤ B) (hb : wl.heap[B]? = some (.cells #[z0, z1, z2] 105 (0, 0)))
    (hd : Owns wl base d ds) (hs : Owns wl base s ss) (hbB : B < base) (ho1 : -9223372036854775808 ≤ off) (ho2 : off ≤ 9223372036854775807) (hap : d.ownBlock = none ∨ d.ownBlock ≠ s.ownBlock) :
    (((wl.setCell ⟨B, 0, none⟩ (.int .i64 off)).setCell ⟨B, 1, none⟩ d).setCell ⟨B, 2, none⟩ s).heap[B]? = some (.cells #[.int .i64 off, d, s] 105 (0, 0)) ∧
    jbt (((wl.setCell ⟨B, 0, none⟩ (.int .i64 off)).setCell ⟨B, 1, none⟩ d).setCell ⟨B, 2, none⟩ s) w.heap.size (.agg #[.int .i64 off, d, s]) off ds ss ∧
    w.grownBy (((wl.setCell ⟨B, 0, none⟩ (.int .i64 off)).setCell ⟨B, 1, none⟩ d).setCell ⟨B, 2, none⟩ s) none := by
     obtain ⟨hX, gX, gB⟩ := store3 (.int .i64 off) d s hg hB hb
     exact ⟨hX, ⟨d, s, rfl, (hd.box gB hbB).base_le (by omega), (hs.box gB hbB).base_le (by omega), ho1, ho2, hap⟩, gX⟩
theorem jjz {d s : Value} (h : s.ownBlock = none ∨ s.ownBlock ≠ d.ownBlock) : d.ownBlock = none ∨ d.ownBlock ≠ s.ownBlock := by
 rcases h with h | h
 ·rw [h]
  cases d.ownBlock with
  | none => exact Or.inl rfl
  | some k => exact Or.inr (by simp)
 ·exact Or.inr (fun e => h e.symm)
end Go.Proofs.YtkefdkboejimeaaGreatDoor.Vw
namespace Go.Proofs.YtkefdkboejimeaaGreatDoor.Vw
open Go.RowKit
def spr (ds ss l : List Int) : List Int :=
 (List.range l.length).map fun j => if l.length - ds.length ≤ j ∧ ds.getD (j - (l.length - ds.length)) 0 = l.getD j 0 then ss.getD (j - (l.length - ds.length)) 0 else 0
theorem jdZ (ds ss l : List Int) : (spr ds ss l).length = l.length := by simp [spr]
theorem jn9 {ds ss l : List Int} {j : Nat} (hj : j < l.length) :
    (spr ds ss l).getD j 0 = if l.length - ds.length ≤ j ∧ ds.getD (j - (l.length - ds.length)) 0 = l.getD j 0 then ss.getD (j - (l.length - ds.length)) 0 else 0 := by
     rw [List.getD, List.getElem?_eq_getElem (by rw [jdZ]; exact hj)]
     simp [spr]
theorem jdl {n k t : Nat} {l : List Int} (hl : l.length = n) (hk : k ≤ n) : (jbb n k l).getD t 0 = if t < k then l.getD t 0 else 0 := by
 unfold jbb
 simp only [List.getD, List.getElem?_append, List.length_take, List.getElem?_take, List.getElem?_replicate]
 by_cases h : t < k
 ·simp [h, show t < min k l.length by omega]
 ·simp only [h, show ¬ t < min k l.length by omega, if_false]
  split <;> rfl
theorem jcb {n k : Nat} {l : List Int} (hl : l.length = n) (hk : k ≤ n) : (jbb n k l).length = n := by
 simp [jbb]; omega
theorem jlg {n k : Nat} {l : List Int} (hl : l.length = n) (hk : k ≤ n) (h : ∀ t, t < k → l.getD t 0 = 0) : List.replicate n 0 = jbb n k l := by
 refine jcY (by rw [jcb hl hk]; simp) fun t ht => ?_
 have ht' : t < n := by simpa using ht
 rw [jdl hl hk]
 split
 ·rename_i h1; rw [h t h1]; simp [List.getD, ht']
 ·simp [List.getD, ht']
theorem jlh {n k : Nat} {l : List Int} (hl : l.length = n) (hk : k < n) (h : l.getD k 0 = 0) : jbb n k l = jbb n (k + 1) l := by
 refine jcY (by rw [jcb hl (by omega), jcb hl (by omega)]) fun t ht => ?_
 rw [jdl hl (by omega), jdl hl (by omega)]
 by_cases h1 : t < k
 ·simp [h1, show t < k + 1 by omega]
 ·by_cases h2 : t = k
  ·subst h2; rw [if_neg h1, if_pos (by omega), h]
  ·rw [if_neg h1, if_neg (by omega)]
def Spreaded (off : Int) (ds ss l : List Int) (E : Int) (off' : Int) (ds' ss' : List Int) : Prop :=
 (¬ MayV off ds ss ∧ E = 1 ∧ off' = 0 ∧ ds' = [] ∧ ss' = []) ∨ (MayV off ds ss ∧ bcE ds l ≠ 0 ∧ E = bcE ds l ∧ off' = 0 ∧ ds' = [] ∧ ss' = []) ∨
 (MayV off ds ss ∧ bcE ds l = 0 ∧ bcR ds l ≠ l ∧ E = 4 ∧ off' = 0 ∧ ds' = [] ∧ ss' = []) ∨
 (MayV off ds ss ∧ bcE ds l = 0 ∧ bcR ds l = l ∧ E = 0 ∧ off' = off ∧ ds' = l ∧ ss' = spr ds ss l)
theorem jp2 {ds ss l : List Int} (h : ∀ s ∈ ss, 0 ≤ s ∧ s ≤ 65536) : ∀ z ∈ spr ds ss l, 0 ≤ z ∧ z ≤ 65536 := by
 intro z hz
 obtain ⟨j, _, rfl⟩ := List.mem_map.1 hz
 split
 ·rw [List.getD]
  cases e : ss[j - (l.length - ds.length)]? with
  | none => simp
  | some x => exact h x (List.mem_of_getElem? e)
 ·omega
theorem jpb {ds l : List Int} (hE : bcE ds l = 0) (hR : bcR ds l = l) : ds.length ≤ l.length ∧ ja3 l = 0 := by
 have h1 : l.length = jaS ds l := by rw [← jb2 ds l (jaS ds l), ← show bcR ds l = bcL ds l (jaS ds l) by simp [bcR, hE], hR]
 refine ⟨by simp only [jaS] at h1; omega, ?_⟩
 unfold bcE at hE
 by_cases h2 : ja3 l = 0
 ·exact h2
 ·rw [if_pos h2] at hE
  split at hE
  ·contradiction
  ·exact hE
theorem spread_any (v lv : Value) (off : Int) (ds ss l : List Int) (w : World) (h : IsView w v off ds ss) (hl : IsInts w lv l) :
    Calls Tryz.prog 32 #[v, lv] w fun e w' => ∃ u E off' ds' ss', e = .returned (.tuple #[u, .int .i64 E]) ∧ Spreaded off ds ss l E off' ds' ss' ∧ jbt w' w.heap.size u off' ds' ss' ∧ w.grownBy w' none := by
     obtain ⟨i0, hi, hz0, hz1, hz2⟩ := info_parts jcK
     have hv := h
     obtain ⟨dv, sv, rfl, hd, hs, ho1, ho2⟩ := h
     obtain ⟨w0, hw0⟩ : ∃ w0, w0 = (w.alloc (.cells #[.int .i64 off, dv, sv] 105)).alloc (.cells #[.int .i64 0, .slice none 0 0, .slice none 0 0] 105) := ⟨_, rfl⟩
     have g0 : w.grownBy w0 none := by rw [hw0]; exact jaa (jab _ _) (jab _ _)
     have hs0 : w0.heap.size = w.heap.size + 2 := by rw [hw0]; simp
     have hbx := jax w (.cells #[.int .i64 off, dv, sv] 105) (.cells #[.int .i64 0, .slice none 0 0, .slice none 0 0] 105)
     rw [← hw0] at hbx
     have BX : Hid (∀ wx, w0.grownBy wx none → wx.heap[w.heap.size]? = some (.cells #[.int .i64 off, dv, sv] 105 (0, 0)) ∧ wx.heap[w.heap.size + 1]? = some (.cells #[.int .i64 0, .slice none 0 0, .slice none 0 0] 105 (0, 0)) ∧ w.heap.size + 2 ≤ wx.heap.size) :=
      fun wx hg => ⟨jad hbx.1 hg, jad hbx.2 hg, by have := hg.size; omega⟩
     have MB := jae (jes _ off ds ss w0 (hv.more g0))
     have HD := jae hd
     have HS := jae hs
     have HL := jae hl
     obtain ⟨x0, x1, x2, -, -, -⟩ := box_cells hbx.1
     have FAIL : Hid (∀ wx, w0.grownBy wx none → (((wx.setCell ⟨w.heap.size + 1, 0, none⟩ (.int .i64 0)).setCell ⟨w.heap.size + 1, 1, none⟩ (.slice none 0 0)).setCell ⟨w.heap.size + 1, 2, none⟩ (.slice none 0 0)).heap[w.heap.size + 1]? = some (.cells #[.int .i64 0, .slice none 0 0, .slice none 0 0] 105 (0, 0)) ∧ w.grownBy (((wx.setCell ⟨w.heap.size + 1, 0, none⟩ (.int .i64 0)).setCell ⟨w.heap.size + 1, 1, none⟩ (.slice none 0 0)).setCell ⟨w.heap.size + 1, 2, none⟩ (.slice none 0 0)) none) := fun wx hg => by
      obtain ⟨hX, gX, _⟩ := store3 (.int .i64 0) (.slice none 0 0) (.slice none 0 0) (jaa g0 hg) (show w.heap.size ≤ w.heap.size + 1 by omega) (BX.out wx hg).2.1
      exact ⟨hX, gX⟩
     clear hv hbx
     by_cases hM : jgj off ds ss = true
     ·rw [hM] at MB
      have HMV := jae (mayB_iff.1 hM)
      clear hM
      obtain ⟨da, dc, rfl, hd1, hd2, hd3, -, -, -⟩ := hd
      obtain ⟨sa, sc, rfl, hs1, hs2, hs3, -, -, -⟩ := hs
      obtain ⟨la, lc, rfl, hl1, hl2, hl3, -, -, -⟩ := hl
      have hll : Hid (ds.length = ss.length) := HMV.out.len.symm
      go_enter Tryz.func32, Tryz.ntmps32
      go_wp2_with fail
      rw [← hw0]
      clear hw0
      refine MB.out.mono ?_
      rintro e w1 ⟨rfl, hg1⟩
      obtain ⟨y0, y1, y2, -, -, -⟩ := box_cells (BX.out w1 hg1).1
      have g01 := jaa g0 hg1
      have BC := jae (jnZ _ _ ds l w1 (HD.out.more g01) (HL.out.more g01))
      clear x0 x1 x2
      go_wp2_with fail
      refine BC.out.mono ?_
      rintro e w2 ⟨r, rfl, or, hg2⟩
      have g02 := jaa hg1 hg2
      obtain ⟨k0, k1, k2, f0, f1, f2⟩ := box_cells (BX.out w2 g02).2.1
      obtain ⟨ra, rc, rfl, hr1, hr2, hr3, -, -, -⟩ := or.ints
      have OR := jae or
      clear or y0 y1 y2
      by_cases hE : bcE ds l = 0
      ·have hE' : (bcE ds l != 0) = false := by simp [hE]
       have HE := jae hE
       have EQ := jae (jgk _ _ (bcR ds l) l w2 OR.out.ints (HL.out.more (jaa g0 g02)))
       clear hE
       go_wp2_with fail
       refine EQ.out.mono ?_
       rintro e w3 ⟨rfl, hg3⟩
       have g03 := jaa g02 hg3
       obtain ⟨k0, k1, k2, f0, f1, f2⟩ := box_cells (BX.out w3 g03).2.1
       by_cases hR : bcR ds l = l
       ·have HR := jae hR
        rw [decide_eq_true hR]
        clear hR
        obtain ⟨y0, y1, y2, -, -, -⟩ := box_cells (BX.out w3 g03).1
        obtain ⟨hroom, hcl⟩ := jpb HE.out HR.out
        have hl6 := (jaH hcl).few
        have hb4 : i0.bytes * l.length ≤ 281474976710656 := by rw [hz2]; omega
        have hb5 : l.length ≤ maxLen := by simp only [maxLen]; omega
        clear hcl
        go_wp2_with (refine wpList_make_full _ rfl (.tmp 33) (.tmp 33) 22 rfl w3.heap.size 3 i0 (.int .i64 0) 1 Tryz.underlying22 hi hz0 hz1 .i64 .i64 _ _ l.length rfl rfl rfl rfl hb4 hb5 (Nat.le_refl _) ?_; intro w4 hown hgrow; obtain ⟨q0, q1, q2, -, -, -⟩ := box_cells (BX.out w4 (jaa g03 hgrow)).1)
        rw [jbK] at hown
        obtain ⟨an, han⟩ : ∃ an : Nat, an = l.length - ds.length := ⟨_, rfl⟩
        have hsub : (l.length : Int) - (ds.length : Int) = (an : Int) := by omega
        have hroom2 : an + ds.length ≤ l.length := by omega
        have HAN := jae han
        have HSL := jae (jdZ ds ss l)
        rw [hsub]
        have HST := jae (jlg (n := l.length) (k := an) (l := spr ds ss l) (jdZ ds ss l) (by omega) (fun t ht => by rw [jn9 (by omega), if_neg (fun h => by omega)]))
        clear hsub han
        go_loopw [44] (fun i wr => w3.grownBy wr none ∧ ∃ k : Nat, k ≤ ds.length ∧ i = .int .i64 k ∧
         wr.ownsRow w3.heap.size 3 1 (.slice (some ⟨w3.heap.size, 0, none⟩) l.length l.length) l.length ((jbb l.length (an + k) (spr ds ss l)).map (Value.int .i64))) (fun i _ => ds.length - (intOf i).toNat)
        case atStart => exact ⟨hgrow, 0, Nat.zero_le _, rfl, by rw [Nat.add_zero, ← HST.out]; exact hown⟩
        case round =>
         clear hown hgrow q0 q1 q2 y0 y1 y2 k0 k1 k2 f0 f1 f2
         obtain ⟨hw, k, hk, rfl, hown⟩ := hrel
         rename_i wr
         have g0r := jaa g03 hw
         obtain ⟨y0, y1, y2, -, -, -⟩ := box_cells (BX.out wr g0r).1
         by_cases hkl : k < ds.length
         ·have hkl2 : an + k < l.length := by omega
          have hkl3 : k < ss.length := by have := hll.out; omega
          obtain ⟨bd, od, rfl⟩ := jaM HD.out (by omega)
          obtain ⟨bl, ol, rfl⟩ := jaM HL.out (by omega)
          obtain ⟨bs, os, rfl⟩ := jaM HS.out (by omega)
          have cd := jaC (HD.out.more (jaa g0 g0r)) hkl
          have cl := jaC (HL.out.more (jaa g0 g0r)) hkl2
          have cs := jaC (HS.out.more (jaa g0 g0r)) hkl3
          have hsp := jn9 (ds := ds) (ss := ss) (l := l) hkl2
          rw [← HAN.out, show an + k - an = k by omega] at hsp
          obtain ⟨D, hD⟩ : ∃ D, D = ds.getD k 0 := ⟨_, rfl⟩
          obtain ⟨L, hL⟩ : ∃ L, L = l.getD (an + k) 0 := ⟨_, rfl⟩
          obtain ⟨S, hS⟩ : ∃ S, S = ss.getD k 0 := ⟨_, rfl⟩
          rw [← hD] at cd hsp
          rw [← hL] at cl hsp
          rw [← hS] at cs hsp
          clear hD hL hS
          by_cases hDL : D = L
          ·rw [if_pos ⟨by omega, hDL⟩] at hsp
           have hDL' : (D == L) = true := by simp [hDL]
           obtain ⟨⟨c, hc⟩, hf, hown2, hw2⟩ := jgi (z := S) hkl2 HSL.out hsp.symm hw hown
           have HO := jae hown2
           have HW := jae hw2
           clear hown hown2 hw2 hw hsp hDL
           go_wp2
           go_roundw
           case rel => exact ⟨HW.out, k + 1, by omega, by go_num, HO.out⟩
           case measure => simp [intOf]; omega
          ·rw [if_neg (fun h => hDL h.2)] at hsp
           have hDL' : (D == L) = false := by simp [hDL]
           rw [jlh HSL.out hkl2 hsp] at hown
           have HO := jae hown
           have HW := jae hw
           clear hown hw hsp hDL
           go_wp2
           go_roundw
           case rel => exact ⟨HW.out, k + 1, by omega, by go_num, HO.out⟩
           case measure => simp [intOf]; omega
         ·obtain ⟨k0, k1, k2, f0, f1, f2⟩ := box_cells (BX.out wr g0r).2.1
          have hsz1 : w.heap.size + 2 ≤ w1.heap.size := (BX.out w1 hg1).2.2
          have hsz3 : w.heap.size + 2 ≤ w3.heap.size := (BX.out w3 g03).2.2
          have OR2 : Owns w2 w1.heap.size (.slice ra (bcR ds l).length rc) l := by
           have := OR.out
           rw [HR.out] at this ⊢
           exact this
          have OS : Owns wr w3.heap.size (.slice (some ⟨w3.heap.size, 0, none⟩) l.length l.length) (spr ds ss l) := by
           refine ⟨?_, by rw [HSL.out]; omega, fun z hz => by have := jp2 HMV.out.str z hz; omega⟩
           rw [show jbb l.length (an + k) (spr ds ss l) = spr ds ss l by simp [jbb, show l.length - (an + k) = 0 by have := HAN.out; omega, List.take_of_length_le (show (spr ds ss l).length ≤ an + k by rw [HSL.out]; have := HAN.out; omega)]] at hown
           rw [HSL.out]
           exact hown
          obtain ⟨HX, OV, GX⟩ := jf2 (off := off) (base := w.heap.size + 2) (jaa g0 g0r) (show w.heap.size ≤ w.heap.size + 1 by omega) (BX.out wr g0r).2.1 ((OR2.new (jaa hg3 hw)).base_le hsz1) (OS.base_le hsz3) (by omega) ho1 ho2 (jed (fun k hk => (OR2.lt k hk).2) (fun k hk => (OS.lt k hk).1) hg3.size)
          have HXX := jae HX
          have HOV := jae OV
          have HGX := jae GX
          clear HX OV GX OS OR2 hown
          go_wp2
          refine bodyPost_ret (jbH rfl _ _ (w.heap.size + 1) rfl HXX.out) rfl ?_
          exact ⟨_, 0, off, _, _, rfl, Or.inr (Or.inr (Or.inr ⟨HMV.out, HE.out, HR.out, rfl, rfl, rfl, rfl⟩)), HOV.out, HGX.out⟩
       ·have HR := jae hR
        rw [decide_eq_false hR]
        clear hR
        go_wp2
        refine bodyPost_ret (jbH rfl _ _ (w.heap.size + 1) rfl (FAIL.out w3 g03).1) rfl ?_
        exact ⟨_, 4, 0, [], [], rfl, Or.inr (Or.inr (Or.inl ⟨HMV.out, HE.out, HR.out, rfl, rfl, rfl, rfl⟩)), jbt.nil _ _, (FAIL.out w3 g03).2⟩
      ·have hE' : (bcE ds l != 0) = true := by simp [hE]
       have HE := jae hE
       clear hE
       go_wp2
       refine bodyPost_ret (jbH rfl _ _ (w.heap.size + 1) rfl (FAIL.out w2 g02).1) rfl ?_
       exact ⟨_, _, 0, [], [], rfl, Or.inr (Or.inl ⟨HMV.out, HE.out, rfl, rfl, rfl, rfl⟩), jbt.nil _ _, (FAIL.out w2 g02).2⟩
     ·have hM' : jgj off ds ss = false := by simpa using hM
      have HNM : Hid (¬ MayV off ds ss) := fun h => hM (mayB_iff.2 h)
      rw [hM'] at MB
      clear hM hM'
      go_enter Tryz.func32, Tryz.ntmps32
      go_wp2_with fail
      rw [← hw0]
      clear hw0
      refine MB.out.mono ?_
      rintro e w1 ⟨rfl, hg1⟩
      obtain ⟨k0, k1, k2, f0, f1, f2⟩ := box_cells (BX.out w1 hg1).2.1
      go_wp2
      refine bodyPost_ret (jbH rfl _ _ (w.heap.size + 1) rfl (FAIL.out w1 hg1).1) rfl ?_
      exact ⟨_, 1, 0, [], [], rfl, Or.inl ⟨HNM.out, rfl, rfl, rfl, rfl⟩, jbt.nil _ _, (FAIL.out w1 hg1).2⟩
end Go.Proofs.YtkefdkboejimeaaGreatDoor.Vw
namespace Go.Proofs.YtkefdkboejimeaaGreatDoor.Vw
open Go.RowKit
structure IsPerm (perm : List Int) (n : Nat) : Prop where
 len : perm.length = n
 rng : ∀ p ∈ perm, 0 ≤ p ∧ p < n
 once : perm.Nodup
def pickL (l perm : List Int) : List Int := perm.map (fun p => l.getD p.toNat 0)
theorem jiC (v u : Value) (l perm : List Int) (w : World) (h : IsInts w v l) (hu : IsInts w u perm) (hr : ∀ p ∈ perm, 0 ≤ p ∧ p < l.length) (hl6 : perm.length ≤ 6) :
    Calls Tryz.prog 74 #[v, u] w fun e w' => ∃ r, e = .returned r ∧ Owns w' w.heap.size r (pickL l perm) ∧ w.grownBy w' none := by
     obtain ⟨i0, hi, hz0, hz1, hz2⟩ := info_parts jcK
     have h0 := jae h
     have hu0 := jae hu
     have HR := jae hr
     have hpl : (pickL l perm).length = perm.length := by simp [pickL]
     have HPL := jae hpl
     obtain ⟨ao, cap, rfl, h1, h2, h3, -, -, -⟩ := h
     obtain ⟨bo, bcap, rfl, hb1, hb2, hb3, -, -, -⟩ := hu
     have hb4 : i0.bytes * perm.length ≤ 281474976710656 := by rw [hz2]; omega
     have hb5 : perm.length ≤ maxLen := by simp only [maxLen]; omega
     clear hr hpl
     go_enter Tryz.func74, Tryz.ntmps74
     go_wp2_with (refine wpList_make_full _ rfl (.tmp 9) (.tmp 9) 22 rfl w.heap.size 3 i0 (.int .i64 0) 1 Tryz.underlying22 hi hz0 hz1 .i64 .i64 _ _ perm.length rfl rfl rfl rfl hb4 hb5 (Nat.le_refl _) ?_; intro w1 hown hgrow)
     rw [jbK] at hown
     go_loopw [13] (fun i wr => w.grownBy wr none ∧ ∃ k : Nat, k ≤ perm.length ∧ i = .int .i64 k ∧
      wr.ownsRow w.heap.size 3 1 (.slice (some ⟨w.heap.size, 0, none⟩) perm.length perm.length) perm.length ((jbb perm.length k (pickL l perm)).map (Value.int .i64))) (fun i _ => perm.length - (intOf i).toNat)
     case atStart => exact ⟨hgrow, 0, Nat.zero_le _, rfl, by simpa [jbb] using hown⟩
     case round =>
      clear hown hgrow
      obtain ⟨hw, k, hk, rfl, hown⟩ := hrel
      by_cases hkl : k < perm.length
      ·obtain ⟨b', o', rfl⟩ := jaM hu0.out (by omega)
       have hcp := jaC (hu0.out.more hw) hkl
       have hrg := HR.out (perm.getD k 0) (by rw [List.getD, List.getElem?_eq_getElem hkl]; simp)
       obtain ⟨pn, hpn⟩ : ∃ pn : Nat, perm.getD k 0 = pn := ⟨(perm.getD k 0).toNat, by omega⟩
       have hpn2 : pn < l.length := by omega
       rw [hpn] at hcp
       obtain ⟨b, o, rfl⟩ := jaM h0.out (by omega)
       have hcl := jaC (h0.out.more hw) hpn2
       have hz : l.getD pn 0 = (pickL l perm).getD k 0 := by
        have e : perm[k]'hkl = (pn : Int) := by rw [← hpn]; simp [List.getD, hkl]
        simp [pickL, List.getD, hkl, e]
       obtain ⟨z, hzz⟩ : ∃ z, z = l.getD pn 0 := ⟨_, rfl⟩
       rw [← hzz] at hcl hz
       obtain ⟨⟨c, hc⟩, hf, hown2, hw2⟩ := jgi (z := z) hkl HPL.out hz hw hown
       have HO := jae hown2
       have HW := jae hw2
       clear hown hown2 hw2 hw hz hzz hpn hrg
       go_wp2
       go_roundw
       case rel => exact ⟨HW.out, k + 1, by omega, by go_num, HO.out⟩
       case measure => simp [intOf]; omega
      ·have HO := jae hown
       clear hown
       go_wp2
       go_ret
       refine ⟨_, rfl, ⟨?_, ?_, ?_⟩, hw⟩
       ·have := HO.out
        rw [show jbb perm.length k (pickL l perm) = pickL l perm by simp [jbb, show perm.length - k = 0 by omega, List.take_of_length_le (show (pickL l perm).length ≤ k by rw [HPL.out]; omega)]] at this
        rw [HPL.out]
        exact this
       ·rw [HPL.out]; omega
       ·intro s hs
        obtain ⟨p, hp, rfl⟩ := List.mem_map.1 hs
        have := HR.out p hp
        exact h0.out.wf _ (by rw [List.getD, List.getElem?_eq_getElem (by omega)]; simp)
def Told (perm : List Int) (n : Nat) (w : World) (e : Ending) (w' : World) : Prop := ∃ b, e = .returned (.bool b) ∧ (b = true ↔ IsPerm perm n) ∧ w.grownBy w' none
structure Met (m : Array Value) (perm : List Int) (k : Nat) : Prop where
 size : m.size = 6
 mark : ∀ j : Nat, j < 6 → m[j]? = some (.bool (decide ((j : Int) ∈ perm.take k)))
theorem jnp (perm : List Int) : Met #[.bool false, .bool false, .bool false, .bool false, .bool false, .bool false] perm 0 := by
 refine ⟨rfl, fun j hj => ?_⟩
 simp only [List.take_zero, List.not_mem_nil, decide_false]
 match j, hj with
 | 0, _ => rfl
 | 1, _ => rfl
 | 2, _ => rfl
 | 3, _ => rfl
 | 4, _ => rfl
 | 5, _ => rfl
theorem Met.cell {m : Array Value} {perm : List Int} {k B : Nat} {e : TypeId} {w : World} (h : Met m perm k) (hb : w.heap[B]? = some (.cells m e (0, 0))) (j : Nat) (hj : j < 6) : w.cell? ⟨B, j, none⟩ = some (.bool (decide ((j : Int) ∈ perm.take k))) :=
 (cell_of_row w B j m e (0, 0) hb).trans (h.mark j hj)
theorem Met.put {m : Array Value} {perm : List Int} {k p : Nat} (h : Met m perm k) (hs : perm.take (k + 1) = perm.take k ++ [(p : Int)]) (_hp : p < 6) : Met (m.setIfInBounds p (.bool true)) perm (k + 1) := by
 refine ⟨by simpa using h.size, fun j hj => ?_⟩
 rw [hs, Array.getElem?_setIfInBounds]
 by_cases e : p = j
 ·subst e
  simp [h.size, hj]
 ·rw [if_neg e, h.mark j hj]
  have : ¬ (j : Int) = (p : Int) := by omega
  simp [this]
theorem jli (v : Value) (perm : List Int) (n : Nat) (w : World) (h : IsInts w v perm) (hn : n ≤ 6) :
    Calls Tryz.prog 73 #[v, .int .i64 n] w (Told perm n w) := by
     have h0 := jae h
     obtain ⟨ao, cap, rfl, h1, h2, h3, -, -, -⟩ := h
     by_cases hl : perm.length = n
     ·have hl' : ((perm.length : Int) != (n : Int)) = false := by simp [hl]
      have HL := jae hl
      have hl6 : perm.length ≤ 6 := by omega
      have hl7 : n ≤ perm.length := by omega
      have hl8 : perm.length ≤ n := by omega
      clear hl
      go_enter Tryz.func73, Tryz.ntmps73
      go_wp2
      go_loopw [14] (fun i wr => w.grownBy wr none ∧ ∃ (k : Nat) (m : Array Value), k ≤ perm.length ∧ i = .int .i64 k ∧ wr.heap[w.heap.size]? = some (.cells m 157 (0, 0)) ∧ Met m perm k ∧ (∀ p ∈ perm.take k, 0 ≤ p ∧ p < n) ∧ (perm.take k).Nodup) (fun i _ => perm.length - (intOf i).toNat)
      case atStart => exact ⟨jab _ _, 0, _, Nat.zero_le _, rfl, heap_alloc_new w _, jnp perm, fun p hp => by simp at hp, by simp⟩
      case round =>
       obtain ⟨hw, k, m, hk, rfl, hblk, hmet, hrng, hnd⟩ := hrel
       have HB := jae hblk
       have HM := jae hmet
       have HR := jae hrng
       have HN := jae hnd
       clear hblk hmet hrng hnd
       by_cases hkl : k < perm.length
       ·obtain ⟨b, o, rfl⟩ := jaM h0.out (by omega)
        have hcp := jaC (h0.out.more hw) hkl
        have hst := jen perm k hkl
        have hmem : perm.getD k 0 ∈ perm := by rw [List.getD, List.getElem?_eq_getElem hkl]; simp
        obtain ⟨p, hp⟩ : ∃ p, p = perm.getD k 0 := ⟨_, rfl⟩
        rw [← hp] at hcp hst hmem
        have HST := jae hst
        have HME := jae hmem
        clear hp hst hmem
        by_cases hp0 : p < 0
        ·have HF : Hid (¬ IsPerm perm n) := fun hP => by have := hP.rng p HME.out; omega
         go_wp2
         go_ret
         exact ⟨false, rfl, ⟨fun h => (by cases h), fun h => absurd h HF.out⟩, hw⟩
        ·by_cases hp1 : (n : Int) ≤ p
         ·have HF : Hid (¬ IsPerm perm n) := fun hP => by have := hP.rng p HME.out; omega
          go_wp2
          go_ret
          exact ⟨false, rfl, ⟨fun h => (by cases h), fun h => absurd h HF.out⟩, hw⟩
         ·obtain ⟨pn, rfl⟩ : ∃ pn : Nat, p = pn := ⟨p.toNat, by omega⟩
          have hpn : pn < n := by omega
          have hcell := HM.out.cell HB.out pn (by omega)
          have hfr := frozen_of_row wr w.heap.size pn m _ HB.out
          by_cases hin : (pn : Int) ∈ perm.take k
          ·have hd : decide ((pn : Int) ∈ perm.take k) = true := decide_eq_true hin
           rw [hd] at hcell
           have HF : Hid (¬ IsPerm perm n) := fun hP => by
            have h1 := hP.once.sublist (List.take_sublist (k + 1) perm)
            rw [HST.out, List.nodup_append] at h1
            exact absurd rfl (h1.2.2 _ hin _ (by simp))
           clear hd hin
           go_wp2
           go_ret
           exact ⟨false, rfl, ⟨fun h => (by cases h), fun h => absurd h HF.out⟩, hw⟩
          ·have hd : decide ((pn : Int) ∈ perm.take k) = false := decide_eq_false hin
           rw [hd] at hcell
           have HI := jae hin
           have hgs : wr.grownBy (wr.setCell ⟨w.heap.size, pn, none⟩ (.bool true)) (some w.heap.size) := ⟨rfl, rfl, rfl, by simp [World.setCell], fun j _ hj => Below.heap_setCell _ _ _ _ (fun e => hj (by rw [e]))⟩
           have HG := jae (jah hw hgs (fun r e => by cases e; exact Nat.le_refl _))
           clear hd hin hgs
           go_wp2
           go_roundw
           case rel =>
            refine ⟨HG.out, k + 1, _, by omega, by go_num, heap_setCell_same wr w.heap.size pn m _ (.bool true) HB.out, HM.out.put HST.out (by omega), ?_, ?_⟩
            ·rw [HST.out]
             intro q hq
             rcases List.mem_append.1 hq with h | h
             ·exact HR.out q h
             ·simp only [List.mem_singleton] at h
              omega
            ·rw [HST.out, List.nodup_append]
             exact ⟨HN.out, by simp, fun a ha b hb e => HI.out (by simp only [List.mem_singleton] at hb; rw [← hb, ← e]; exact ha)⟩
           case measure => simp [intOf]; omega
       ·have HP : Hid (IsPerm perm n) := by
          have h1 := HR.out
          have h2 := HN.out
          rw [List.take_of_length_le (by omega)] at h1 h2
          exact ⟨HL.out, h1, h2⟩
        go_wp2
        go_ret
        exact ⟨true, rfl, ⟨fun _ => HP.out, fun _ => rfl⟩, hw⟩
     ·have hl' : ((perm.length : Int) != (n : Int)) = true := by simp; omega
      have HL := jae hl
      clear hl
      go_enter Tryz.func73, Tryz.ntmps73
      go_wp2
      go_ret
      exact ⟨false, rfl, ⟨fun h => (by cases h), fun h => absurd h.len HL.out⟩, jaf _⟩
end Go.Proofs.YtkefdkboejimeaaGreatDoor.Vw
namespace Go.Proofs.YtkefdkboejimeaaGreatDoor.Vw
theorem jgP : ∀ (l m : List Int), l.Nodup → (∀ x ∈ l, x ∈ m) → l.length ≤ m.length
 | [], _, _, _ => by simp
 | a :: l, m, hn, hs => by
  rw [List.nodup_cons] at hn
  have h1 := hs a (by simp)
  have ih := jgP l (m.erase a) hn.2 fun x hx => (List.mem_erase_of_ne (fun e => hn.1 (by rw [← e]; exact hx))).2 (hs x (by simp [hx]))
  rw [List.length_erase_of_mem h1] at ih
  have := List.length_pos_of_mem h1
  simp only [List.length_cons]
  omega
theorem IsPerm.hits {perm : List Int} {n : Nat} (h : IsPerm perm n) (j : Nat) (hj : j < n) : ∃ i, i < n ∧ perm.getD i 0 = j := by
 have hm : (j : Int) ∈ perm := by
  by_cases hm : (j : Int) ∈ perm
  ·exact hm
  ·have h1 := jgP ((j : Int) :: perm) ((List.range n).map (fun (i : Nat) => (i : Int))) (List.nodup_cons.2 ⟨hm, h.once⟩) (fun y hy => by
     rcases List.mem_cons.1 hy with rfl | hy
     ·exact List.mem_map.2 ⟨j, List.mem_range.2 hj, rfl⟩
     ·have := h.rng y hy
      exact List.mem_map.2 ⟨y.toNat, List.mem_range.2 (by omega), by omega⟩)
   simp [h.len] at h1
   omega
 obtain ⟨i, hi, e⟩ := List.mem_iff_getElem.1 hm
 exact ⟨i, by rw [← h.len]; exact hi, by simp [List.getD, hi, e]⟩
theorem IsPerm.at {perm : List Int} {n : Nat} (h : IsPerm perm n) (i : Nat) (hi : i < n) : ∃ j : Nat, j < n ∧ perm.getD i 0 = j := by
 have hl := h.len
 have := h.rng (perm.getD i 0) (by rw [List.getD, List.getElem?_eq_getElem (by omega)]; simp)
 exact ⟨(perm.getD i 0).toNat, by omega, by omega⟩
theorem IsPerm.inj {perm : List Int} {n : Nat} (h : IsPerm perm n) {i j : Nat} (hi : i < n) (hj : j < n) (e : perm.getD i 0 = perm.getD j 0) : i = j := by
 have hl := h.len
 have h1 : perm[i]'(by omega) = perm[j]'(by omega) := by simpa [List.getD, show i < perm.length by omega, show j < perm.length by omega] using e
 exact (List.getElem_inj h.once).1 h1
def jp3 (perm l : List Int) (n : Nat) : Prop := l.length = n ∧ ∀ i : Nat, i < n → l.getD (perm.getD i 0).toNat 0 = i
theorem jp3.perm {perm l : List Int} {n : Nat} (h : IsPerm perm n) (ht : jp3 perm l n) : IsPerm l n := by
 have hat : ∀ j, j < n → ∃ i : Nat, i < n ∧ l.getD j 0 = i ∧ perm.getD i 0 = j := fun j hj => by
  obtain ⟨i, hi, e⟩ := h.hits j hj
  refine ⟨i, hi, ?_, e⟩
  have := ht.2 i hi
  rw [e, Int.toNat_natCast] at this
  exact this
 refine ⟨ht.1, fun p hp => ?_, ?_⟩
 ·obtain ⟨j, hj, e⟩ := List.mem_iff_getElem.1 hp
  obtain ⟨i, hi, e1, _⟩ := hat j (by rw [← ht.1]; exact hj)
  have : p = (i : Int) := by rw [← e, ← e1]; simp [List.getD, hj]
  omega
 ·rw [List.nodup_iff_pairwise_ne, List.pairwise_iff_getElem]
  intro a b ha hb hab e
  obtain ⟨i, hi, e1, e2⟩ := hat a (by rw [← ht.1]; exact ha)
  obtain ⟨k, hk, e3, e4⟩ := hat b (by rw [← ht.1]; exact hb)
  have h1 : l.getD a 0 = l.getD b 0 := by simp [List.getD, ha, hb, e]
  have : i = k := by omega
  subst this
  omega
theorem pickL_at (l perm : List Int) (i : Nat) (hi : i < perm.length) : (pickL l perm).getD i 0 = l.getD (perm.getD i 0).toNat 0 := by simp [pickL, List.getD, hi]
theorem jeU (l perm : List Int) : (pickL l perm).length = perm.length := by simp [pickL]
theorem jnq {off : Int} {ds ss perm : List Int} (hm : MayV off ds ss) (hp : IsPerm perm ds.length) (hprod : jaF (pickL ds perm) = jaF ds) : MayV off (pickL ds perm) (pickL ss perm) := by
 have hmem : ∀ (l : List Int), l.length = ds.length → ∀ z ∈ pickL l perm, z ∈ l := fun l hl z hz => by
  obtain ⟨p, hp', rfl⟩ := List.mem_map.1 hz
  have := hp.rng p hp'
  rw [List.getD, List.getElem?_eq_getElem (by omega)]
  simp
 exact ⟨⟨fun d hd => hm.fine.pos d (hmem ds rfl d hd), by rw [jeU, hp.len]; exact hm.fine.few, by rw [hprod]; exact hm.fine.le⟩, by rw [jeU, jeU], hm.lo, hm.hi, fun s hs => hm.str s (hmem ss hm.len s hs)⟩
theorem jlj {l m : List Int} (h : l.Perm m) : jaF l = jaF m := by
 induction h with
 | nil => rfl
 | cons x _ ih => simp only [jaF, ih]
 | swap x y l => simp only [jaF, ← Int.mul_assoc, Int.mul_comm x y]
 | trans _ _ ih1 ih2 => exact ih1.trans ih2
theorem jlk {ds perm : List Int} (hp : IsPerm perm ds.length) : jaF (pickL ds perm) = jaF ds := by
 have h1 : perm.Perm ((List.range ds.length).map (fun (i : Nat) => (i : Int))) := by
  refine (List.perm_ext_iff_of_nodup hp.once ?_).2 fun x => ⟨fun hx => ?_, fun hx => ?_⟩
  ·rw [List.nodup_iff_pairwise_ne, List.pairwise_iff_getElem]
   intro i j hi hj hij
   simp only [List.getElem_map, List.getElem_range]
   omega
  ·have := hp.rng x hx
   exact List.mem_map.2 ⟨x.toNat, List.mem_range.2 (by omega), by omega⟩
  ·obtain ⟨j, hj, rfl⟩ := List.mem_map.1 hx
   obtain ⟨i, hi, e⟩ := hp.hits j (List.mem_range.1 hj)
   have hl := hp.len
   rw [← e, List.getD, List.getElem?_eq_getElem (by omega)]
   simp
 have h2 : pickL ds ((List.range ds.length).map (fun (i : Nat) => (i : Int))) = ds := by
  refine jcY (by simp [pickL]) fun t ht => ?_
  have ht' : t < ds.length := by simpa [pickL] using ht
  simp [pickL, List.getD, ht']
 have h3 := jlj (h1.map (fun p => ds.getD p.toNat 0))
 simp only [pickL] at h2 ⊢
 rw [h3, h2]
theorem MayV.turn {off : Int} {ds ss perm : List Int} (hm : MayV off ds ss) (hp : IsPerm perm ds.length) : MayV off (pickL ds perm) (pickL ss perm) := jnq hm hp (jlk hp)
end Go.Proofs.YtkefdkboejimeaaGreatDoor.Vw
