/- The places of a view as a sequence, by the walk. -/
import Derived.Test.YteigfipgmghgmaaGreatDoorVwLast
namespace Go.Proofs.YteigfipgmghgmaaGreatDoor.Vw
open Go.RowKit Go.Shelf

attribute [local go_sem] Oper.semAt_some

theorem places_any (off : Int) (dv sv : Value) (w : World) :
    Calls Tryz.prog 66 #[.agg #[.int .i64 off, dv, sv]] w fun e w' => e = .returned (.func (.func 96) #[] #[.pointer (some ⟨w.heap.size, 0, none⟩)]) ∧ w' = w.alloc (.cells #[.int .i64 off, dv, sv] 76) := by
  go_enter Tryz.func66, Tryz.ntmps66
  go_wp2
  go_ret
  exact ⟨rfl, rfl⟩

/-- A place that stands in the data, or else the first one. -/
def cl (L x : Int) : Int := if 0 ≤ x ∧ x < L then x else 0
theorem cl_in {L : Int} (h : 0 < L) (x : Int) : 0 ≤ cl L x ∧ cl L x < L := by unfold cl; split <;> omega
theorem cl_same {L x : Int} (h0 : 0 ≤ x) (h1 : x < L) : cl L x = x := by simp [cl, h0, h1]

set_option maxHeartbeats 800000 in
theorem places1_any (l : Nat) (L : Int) (hL : L ≤ 1152921504606846976) (N A B : Nat) (J Jx : List Int → World → Prop)
    (hJ : ∀ s X Y, J s X → X.grownBy Y none → J s Y)
    (hY : ∀ m pre x W, J pre W → pre.length < N → 0 ≤ x → x < L → YieldAt Fence.wide m Tryz.prog l #[.int .i64 x] W fun e W' =>
      (e = .returned (.bool true) ∧ J (pre ++ [x]) W' ∧ Kpv A B W W') ∨ (e = .returned (.bool false) ∧ Jx (pre ++ [x]) W'))
    (off : Int) (dv sv : Value) (ds ss : List Int) (hm : MayV off ds ss) (haD : Away A B dv ds) (haS : Away A B sv ss) (Bp : Nat) (W : World) (hd : IsInts W dv ds) (hs : IsInts W sv ss) (hA : A < W.heap.size) (hB : B < W.heap.size)
    (hp : off + lst ds ss < L) (hj : J [] W) (hN : (plc ds ss off).length ≤ N) (c0 : W.cell? ⟨Bp, 0, none⟩ = some (.int .i64 off)) (c1 : W.cell? ⟨Bp, 1, none⟩ = some dv) (c2 : W.cell? ⟨Bp, 2, none⟩ = some sv) :
    Calls Tryz.prog 96 #[.func (.yield l) #[] #[], .pointer (some ⟨Bp, 0, none⟩)] W fun e W' => (∃ v, e = .returned v) ∧ ((∃ xs, xs = plc ds ss off ∧ J xs W') ∨ (∃ pre, pre <+: plc ds ss off ∧ Jx pre W')) := by
  have al := along_any l L hL N A B J Jx hJ hY off dv sv ds ss hm.fine hm.len hm.str haD haS ds.length 0 (by omega) off [] W hd hs hA hB hm.lo (by simpa using hp) hj (by simpa using hN)
  rw [List.drop_zero, List.drop_zero] at al
  have AL := hide al
  obtain ⟨ao, cap, rfl, -, -, -, -, -, -⟩ := hd
  obtain ⟨bo, bcap, rfl, -, -, -, -, -, -⟩ := hs
  clear al hY hJ
  go_enter Tryz.func96, Tryz.ntmps96
  go_wp2_with fail
  refine AL.out.mono ?_
  rintro e W' ⟨b, rfl, h1, h2⟩
  go_wp2
  go_end0
  refine ⟨⟨_, rfl⟩, ?_⟩
  cases b with
  | true => exact .inl ⟨_, rfl, by simpa using (h1 rfl).1⟩
  | false =>
    obtain ⟨q, hq, hx⟩ := h2 rfl
    exact .inr ⟨q, hq, by simpa using hx⟩

theorem seq_stops (n : Nat) (L : Int) (hL : L ≤ 1152921504606846976) (A B : Nat) (off : Int) (dv sv : Value) (ds ss : List Int) (hm : MayV off ds ss) (haD : Away A B dv ds) (haS : Away A B sv ss) (Bp : Nat) (w : World)
    (hd : IsInts w dv ds) (hs : IsInts w sv ss) (hA : A < w.heap.size) (hB : B < w.heap.size) (hBp : Bp < w.heap.size)
    (hp : off + lst ds ss < L) (c0 : w.cell? ⟨Bp, 0, none⟩ = some (.int .i64 off)) (c1 : w.cell? ⟨Bp, 1, none⟩ = some dv) (c2 : w.cell? ⟨Bp, 2, none⟩ = some sv) :
    SeqStopsK Fence.wide n Tryz.prog 96 #[.pointer (some ⟨Bp, 0, none⟩)] (fun x : Int => #[Value.int .i64 (cl L x)]) (Kpv A B) (fun ys => ys = plc ds ss off) (fun pre => pre <+: plc ds ss off) (plc ds ss off).length w := by
  intro l J Jx W hW hJ _ hY h0
  refine callsIn_wide.2 ?_
  have hgr : w.grownBy W none := ⟨hW.os, hW.tape, hW.output, hW.size, fun k hk _ => hW.block k hk⟩
  refine places1_any l L hL (plc ds ss off).length A B J Jx (fun s X Y hs hg => hJ s X Y none hs hg (fun r e => by cases e)) (fun m pre x W1 hj hlt hx0 hx1 => ?_) off dv sv ds ss hm haD haS Bp W (hd.more hgr) (hs.more hgr)
    (Nat.lt_of_lt_of_le hA hW.size) (Nat.lt_of_lt_of_le hB hW.size) hp h0 (Nat.le_refl _) ((hW.cell (p := ⟨Bp, 0, none⟩) hBp).trans c0) ((hW.cell (p := ⟨Bp, 1, none⟩) hBp).trans c1) ((hW.cell (p := ⟨Bp, 2, none⟩) hBp).trans c2)
  have := hY pre x W1 hj hlt
  dsimp only at this
  rw [cl_same hx0 hx1] at this
  exact yield_any rfl m this
end Go.Proofs.YteigfipgmghgmaaGreatDoor.Vw
