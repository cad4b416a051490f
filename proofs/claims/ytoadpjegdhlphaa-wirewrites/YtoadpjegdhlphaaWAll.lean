/- Items one behind the other, what is malformed recovered: takeAll, by the walk. -/
import Derived.Test.YtoadpjegdhlphaaWOwn
namespace Go.Proofs.Ytoadpjegdhlphaa
open Go.RowKit

def fcells (x : Fld) : List Value := [.int .i64 x.num, .int .i64 x.kind, .int .u64 x.u, .string x.b]

def ncells (u : Nat) : List Value := [.int .u64 u]

theorem set1 {w : World} {B : Nat} {a : Value} {t : TypeId} (hb : w.heap[B]? = some (.cells #[a] t (0, 0))) (v : Value) : (w.setCell ⟨B, 0, none⟩ v).heap[B]? = some (.cells #[v] t (0, 0)) := by
  simp [World.setCell, Array.getElem?_modify, hb]

theorem allF_fuel {α : Type} {item : Nat → Option (α × Nat)} {size : Nat} (hi : ∀ {p : Nat} {x : α} {q : Nat}, item p = some (x, q) → p < q) : ∀ {f f' p : Nat}, size ≤ p + f → size ≤ p + f' → allF item size f p = allF item size f' p := by
  intro f
  induction f with
  | zero => intro f' p h h'; rw [allF_end (by omega), allF_end (by omega)]
  | succ f ih =>
    intro f' p h h'
    by_cases hp : p < size
    · cases f' with
      | zero => omega
      | succ f' =>
        unfold allF
        rw [if_pos hp, if_pos hp]
        cases hx : item p with
        | none => rfl
        | some y =>
          obtain ⟨x, q⟩ := y
          have := hi hx
          simp only
          rw [ih (f' := f') (by omega) (by omega)]
    · rw [allF_end (by omega), allF_end (by omega)]

theorem info_fld : (Try.prog.info? 34).map (fun i => (i.zero, i.size, i.bytes)) = some (some (.agg #[.int .i64 0, .int .i64 0, .int .u64 0, .string ⟨#[]⟩]), 4, 40) := by kernel_rfl

theorem catch_fld (n : Nat) (x y : Value) (u : TypeId) (pv : Value) (older : List PanicEntry) (w : World)
    (h0 : w.cell? ⟨n, 0, none⟩ = some x) (h1 : w.cell? ⟨n + 1, 0, none⟩ = some y) (f0 : w.frozen? ⟨n, 0, none⟩ = false) (f1 : w.frozen? ⟨n + 1, 0, none⟩ = false) :
    CallsD Try.prog 34 #[.pointer (some ⟨n, 0, none⟩), .pointer (some ⟨n + 1, 0, none⟩)] (.panicking ({ v := .iface u pv, recovered := false } :: older)) w fun e u' w' =>
      e = .returned (.tuple #[]) ∧ u' = .panicking ({ v := .iface u pv, recovered := true } :: older) ∧ w' = (w.setCell ⟨n, 0, none⟩ (.slice none 0 0)).setCell ⟨n + 1, 0, none⟩ (.int .i64 3) := by
  refine callsD_of_wpS Try.func34 rfl fun c₀ cs hu => ?_
  apply wpS_seq
  apply wpS_region
  simp [wpOpsS, go_sem, recoverD, hu, Try.ntmps34, Exit.thenS]
  refine wpS_cond (t := true) (by simp [Act.eval, Array.replicate]) ?_
  simp only [if_true]
  apply wpS_region
  simp [wpOpsS, go_sem, h0, h1, f0, f1, bodyPostS, results, Try.results34]

theorem idle_fld (p q : Addr) (w : World) :
    CallsD Try.prog 34 #[.pointer (some p), .pointer (some q)] .returning w fun e u' w' => e = .returned (.tuple #[]) ∧ u' = .returning ∧ w' = w := by
  refine callsD_of_wpS Try.func34 rfl fun c₀ cs hu => ?_
  apply wpS_seq
  apply wpS_region
  simp [wpOpsS, go_sem, recoverD, hu, Try.ntmps34, Exit.thenS]
  refine wpS_cond (t := false) (by simp [Act.eval, Array.replicate]) ?_
  simp only [Bool.false_eq_true, if_false]
  refine wpS_of_wp (wp_skip ?_)
  cases c₀
  simp_all [bodyPostS, results, Try.results34]

/-- What takeAll answers. -/
def AllT_fld (s : ByteArray) (w : World) (e : Ending) (w' : World) : Prop :=
  ∃ v E, e = .returned (.tuple #[v, .int .i64 E]) ∧ w.grownBy w' none ∧ ((∃ xs, all (fd s) s.size = some xs ∧ E = 0 ∧ OwnsL 34 4 fcells w' w.heap.size v xs) ∨ (all (fd s) s.size = none ∧ E = 3 ∧ v = .slice none 0 0))

/-- What holds ahead of each round. -/
def AllI_fld (s : ByteArray) (w wr : World) (p : Nat) (v : Value) (xs : List Fld) : Prop :=
  w.grownBy wr none ∧ w.heap.size + 3 ≤ wr.heap.size ∧ Cur wr (w.heap.size + 1 + 1) s p ∧ wr.heap[w.heap.size]? = some (.cells #[v] 29 (0, 0)) ∧ wr.heap[w.heap.size + 1]? = some (.cells #[.int .i64 0] 23 (0, 0)) ∧ OwnsL 34 4 fcells wr (w.heap.size + 3) v xs ∧
    xs.length ≤ p ∧ all (fd s) s.size = (allF (fd s) s.size (s.size - p) p).map (xs ++ ·)

theorem far_fld {s : ByteArray} {w wr : World} {p : Nat} {v : Value} {xs : List Fld} (hI : AllI_fld s w wr p v xs) {w3 w4 w5 : World} (hg3 : wr.grownBy w3 (some (w.heap.size + 1 + 1))) (hg4 : w3.grownBy w4 none) (hg5 : w4.grownBy w5 v.ownBlock) :
    (∀ b, b < w.heap.size + 3 → w5.heap[b]? = w3.heap[b]?) ∧ (∀ b, b < w.heap.size + 2 → w5.heap[b]? = wr.heap[b]?) := by
  obtain ⟨hg, hsz, -, -, -, hown, -, -⟩ := hI
  have h1 : ∀ b, b < w.heap.size + 3 → w5.heap[b]? = w3.heap[b]? := fun b hb => by
    have := hg3.size
    have := hg4.size
    exact (hg5.block b (by omega) (fun e => by have := World.ownsRow.lt hown b e.symm; omega)).trans (hg4.block b (by omega) (by simp))
  exact ⟨h1, fun b hb => (h1 b (by omega)).trans (hg3.block b (by omega) (fun e => by cases e; omega))⟩

theorem side_fld {s : ByteArray} {w wr : World} {p : Nat} {v : Value} {xs : List Fld} (hI : AllI_fld s w wr p v xs) {w3 w4 w5 : World} (hg3 : wr.grownBy w3 (some (w.heap.size + 1 + 1))) (hg4 : w3.grownBy w4 none) (hg5 : w4.grownBy w5 v.ownBlock) :
    w5.cell? ⟨w.heap.size, 0, none⟩ = some v ∧ w5.frozen? ⟨w.heap.size, 0, none⟩ = false :=
  box1 (((far_fld hI hg3 hg4 hg5).2 _ (by omega)).trans hI.2.2.2.1)

theorem step_fld {s : ByteArray} {w wr : World} {p : Nat} {v : Value} {xs : List Fld} (hI : AllI_fld s w wr p v xs) {y : Fld} {q : Nat} (hit : fd s p = some (y, q)) (hlt : p < s.size) {w3 w4 w5 : World} (hg3 : wr.grownBy w3 (some (w.heap.size + 1 + 1))) (hc3 : Cur w3 (w.heap.size + 1 + 1) s q)
    (hg4 : w3.grownBy w4 none) {v' : Value} (hown5 : OwnsL 34 4 fcells w5 (w.heap.size + 3) v' (xs ++ [y])) (hg5 : w4.grownBy w5 v.ownBlock) : AllI_fld s w (w5.setCell ⟨w.heap.size, 0, none⟩ v') q v' (xs ++ [y]) := by
  obtain ⟨f3, fr⟩ := far_fld hI hg3 hg4 hg5
  obtain ⟨hg, hsz, -, b0, b1, hown, hle, hall⟩ := hI
  have hsp := fd_spec hit
  have hg45 : w.grownBy w5 none := own_row (hown.kept hg3 (fun g e => by cases e; omega) |>.more hg4) (grown_trans (grown_trans_row hg hg3 (fun g e => by cases e; omega)) hg4) (by omega) hg5
  have hz : w.heap.size + 3 ≤ w5.heap.size := by have := hg3.size; have := hg4.size; have := hg5.size; omega
  have hgs := grown_set w5 w.heap.size 0 v'
  refine ⟨row_set hg45 (Nat.le_refl _), by simpa using hz, ?_, ?_, ?_, hown5.kept hgs (fun g e => by cases e; omega), ?_, ?_⟩
  · refine Cur.kept (row := some w.heap.size) ?_ hgs (by simp <;> omega)
    have h2 := f3 (w.heap.size + 1 + 1) (by omega)
    exact ⟨(World.cell?_of_block (a := ⟨w.heap.size + 1 + 1, 0, none⟩) h2).trans hc3.1, (World.cell?_of_block (a := ⟨w.heap.size + 1 + 1, 1, none⟩) h2).trans hc3.2.1, (World.frozen?_of_block (a := ⟨w.heap.size + 1 + 1, 1, none⟩) h2).trans hc3.2.2.1, hc3.2.2.2⟩
  · have := (fr _ (by omega)).trans b0
    exact set1 this v'
  · exact (hgs.block _ (by omega) (by simp)).trans ((fr _ (by omega)).trans b1)
  · simp; omega
  · rw [hall, allF_some hlt (by omega) hit, app_cons, allF_fuel (item := fd s) (fun h => by have := fd_spec h; omega) (f' := s.size - q) (by omega) (by omega)]

set_option maxRecDepth 100000 in
set_option maxHeartbeats 3200000 in
theorem takeAll_fld (s : ByteArray) (w : World) (hs : s.size ≤ 9223372036854775807) (hb : s.size * 40 ≤ 140737488351232) (hs2 : s.size ≤ 16777216) :
    Calls Try.prog 24 #[.string s, .func (.func 25) #[] #[]] w fun e w' => AllT_fld s w e w' := by
  have hmf : ∀ (fn : Fn) (first cap : Array Value) (w : World), (Instr.makeFunc fn first cap).run Try.prog w = .ok (.func fn first cap) w := fun _ _ _ _ => rfl
  obtain ⟨i0, hi, hz0, hz1, hz2⟩ := info_parts info_fld
  obtain ⟨w0, hw0⟩ : ∃ w0, w0 = ((w.alloc (.cells #[.slice none 0 0] 29)).alloc (.cells #[.int .i64 0] 23)).alloc (.cells #[.string s, .int .i64 0] 45) := ⟨_, rfl⟩
  have I0 : AllI_fld s w w0 0 (.slice none 0 0) [] := by
    have hg0 : w.grownBy w0 none := by rw [hw0]; exact grown_trans (grown_trans (grown_new _ _) (grown_new _ _)) (grown_new _ _)
    have B0 : w0.heap[w.heap.size]? = some (.cells #[.slice none 0 0] 29 (0, 0)) := by
      rw [hw0, heap_in _ _ _ (by simp <;> omega), heap_in _ _ _ (by simp)]; exact heap_at _ _ _ (by simp)
    have B1 : w0.heap[w.heap.size + 1]? = some (.cells #[.int .i64 0] 23 (0, 0)) := by rw [hw0, heap_in _ _ _ (by simp)]; exact heap_at _ _ _ (by simp)
    have B2 : w0.heap[w.heap.size + 1 + 1]? = some (.cells #[.string s, .int .i64 0] 45 (0, 0)) := by rw [hw0]; exact heap_at _ _ _ (by simp)
    obtain ⟨c0, c1, cf0, cf1⟩ := box2 B2
    refine ⟨hg0, by rw [hw0]; simp <;> omega, ⟨c0, c1, cf1, hs, Nat.zero_le _⟩, B0, B1, OwnsL.nil _ _ _ _ _, Nat.zero_le _, ?_⟩
    simp [all]
  go_enter_defers Try.func24, Try.ntmps24
  go_wp2
  rw [← hw0]
  clear hw0
  go_loopg [10] s.size (fun k _ wr => ∃ p v xs, k = s.size - p ∧ AllI_fld s w wr p v xs)
  case atStart => exact ⟨0, _, _, rfl, I0⟩
  case round =>
    obtain ⟨p, v, xs, rfl, hI⟩ := hrel
    clear I0
    obtain ⟨ao, cap, rfl⟩ := hI.2.2.2.2.2.1.form
    have HI := hide hI
    obtain ⟨hg, hsz, hcur, B0, B1, hown, hle, hall⟩ := hI
    have HC := hide hcur
    obtain ⟨-, d1, -, -, hp⟩ := hcur
    obtain ⟨c0, f0⟩ := box1 B0
    obtain ⟨c1, f1⟩ := box1 B1
    have IT := hide (fun wx (hx : wr.grownBy wx none) => field_any _ s p wx (HC.out.more hx) hs2)
    clear hg B0 B1 hown hall
    by_cases hlt : p < s.size
    · cases hit : fd s p with
      | none =>
        have HN := hide hit
        clear hit
        go_wp2
        refine wp_region_any (by kernel_rfl) ?_
        change wpAny _ _ _ _ _ _ _ (World.drew _)
        refine wpAny_ready (rs := [0, 1]) (by kernel_rfl) (by simp) ?_
        refine AllReady.cons rfl (fun K hK => ?_) (AllReady.cons rfl (fun K hK => ?_) AllReady.nil)
        · go_simp
          refine hK _ _ ?_
          clear hK K
          refine wpAny_ready (rs := [1]) (by kernel_rfl) (by simp) ?_
          refine AllReady.cons rfl (fun K hK => ?_) AllReady.nil
          go_simp
          refine hK _ _ ?_
          clear hK K
          refine wpAny_ready (rs := [2]) (by kernel_rfl) (by simp) ?_
          refine AllReady.cons rfl (fun K hK => ?_) AllReady.nil
          go_simp
          refine (IT.out wr.drew (row_drew (grown_refl _))).mono ?_
          rintro e w3 ⟨hg3', ⟨x, q, hx, -⟩ | ⟨-, rfl⟩⟩
          · rw [HN.out] at hx; cases hx
          · dsimp only
            clear hK K
            have hg3 := of_drew hg3'
            have k0 := hg3.cell c0 (by simp <;> omega)
            have k1 := hg3.cell c1 (by simp <;> omega)
            have g0 := (World.frozen?_of_block (a := ⟨w.heap.size, 0, none⟩) (hg3.block _ (by simp <;> omega) (by simp <;> omega))).trans f0
            have g1 := (World.frozen?_of_block (a := ⟨w.heap.size + 1, 0, none⟩) (hg3.block _ (by simp <;> omega) (by simp <;> omega))).trans f1
            go_wp2
            refine leaves_cons (f := 34) (args := #[.pointer (some ⟨w.heap.size, 0, none⟩), .pointer (some ⟨w.heap.size + 1, 0, none⟩)]) (by simp) (by simp [go_sem]) ?_
            refine (catch_fld w.heap.size _ _ _ _ [] _ k0 k1 g0 g1).mono ?_
            rintro e u' w'' ⟨rfl, rfl, rfl⟩
            simp [Leaves, settle, results, Try.results24, go_sem, k0, k1]
            obtain ⟨hg, -, -, -, -, -, -, hall⟩ := HI.out
            refine ⟨_, _, rfl, row_set (row_set (grown_trans_row hg hg3 (fun g e => by cases e; omega)) (by omega)) (by omega), .inr ⟨?_, rfl, rfl⟩⟩
            rw [hall, allF_none hlt (by omega) HN.out]; rfl
        · go_simp
          refine hK _ _ ?_
          clear hK K
          refine wpAny_ready (rs := [0, 2]) (by kernel_rfl) (by simp) ?_
          refine AllReady.cons rfl (fun K hK => ?_) (AllReady.cons rfl (fun K hK => ?_) AllReady.nil)
          · go_simp
            refine hK _ _ ?_
            clear hK K
            refine wpAny_ready (rs := [2]) (by kernel_rfl) (by simp) ?_
            refine AllReady.cons rfl (fun K hK => ?_) AllReady.nil
            go_simp
            refine (IT.out wr.drew (row_drew (grown_refl _))).mono ?_
            rintro e w3 ⟨hg3', ⟨x, q, hx, -⟩ | ⟨-, rfl⟩⟩
            · rw [HN.out] at hx; cases hx
            · dsimp only
              clear hK K
              have hg3 := of_drew hg3'
              have k0 := hg3.cell c0 (by simp <;> omega)
              have k1 := hg3.cell c1 (by simp <;> omega)
              have g0 := (World.frozen?_of_block (a := ⟨w.heap.size, 0, none⟩) (hg3.block _ (by simp <;> omega) (by simp <;> omega))).trans f0
              have g1 := (World.frozen?_of_block (a := ⟨w.heap.size + 1, 0, none⟩) (hg3.block _ (by simp <;> omega) (by simp <;> omega))).trans f1
              go_wp2
              refine leaves_cons (f := 34) (args := #[.pointer (some ⟨w.heap.size, 0, none⟩), .pointer (some ⟨w.heap.size + 1, 0, none⟩)]) (by simp) (by simp [go_sem]) ?_
              refine (catch_fld w.heap.size _ _ _ _ [] _ k0 k1 g0 g1).mono ?_
              rintro e u' w'' ⟨rfl, rfl, rfl⟩
              simp [Leaves, settle, results, Try.results24, go_sem, k0, k1]
              obtain ⟨hg, -, -, -, -, -, -, hall⟩ := HI.out
              refine ⟨_, _, rfl, row_set (row_set (grown_trans_row hg hg3 (fun g e => by cases e; omega)) (by omega)) (by omega), .inr ⟨?_, rfl, rfl⟩⟩
              rw [hall, allF_none hlt (by omega) HN.out]; rfl
          · go_simp
            refine (IT.out wr.drew (row_drew (grown_refl _))).mono ?_
            rintro e w3 ⟨hg3', ⟨x, q, hx, -⟩ | ⟨-, rfl⟩⟩
            · rw [HN.out] at hx; cases hx
            · dsimp only
              clear hK K
              have hg3 := of_drew hg3'
              have k0 := hg3.cell c0 (by simp <;> omega)
              have k1 := hg3.cell c1 (by simp <;> omega)
              have g0 := (World.frozen?_of_block (a := ⟨w.heap.size, 0, none⟩) (hg3.block _ (by simp <;> omega) (by simp <;> omega))).trans f0
              have g1 := (World.frozen?_of_block (a := ⟨w.heap.size + 1, 0, none⟩) (hg3.block _ (by simp <;> omega) (by simp <;> omega))).trans f1
              go_wp2
              refine leaves_cons (f := 34) (args := #[.pointer (some ⟨w.heap.size, 0, none⟩), .pointer (some ⟨w.heap.size + 1, 0, none⟩)]) (by simp) (by simp [go_sem]) ?_
              refine (catch_fld w.heap.size _ _ _ _ [] _ k0 k1 g0 g1).mono ?_
              rintro e u' w'' ⟨rfl, rfl, rfl⟩
              simp [Leaves, settle, results, Try.results24, go_sem, k0, k1]
              obtain ⟨hg, -, -, -, -, -, -, hall⟩ := HI.out
              refine ⟨_, _, rfl, row_set (row_set (grown_trans_row hg hg3 (fun g e => by cases e; omega)) (by omega)) (by omega), .inr ⟨?_, rfl, rfl⟩⟩
              rw [hall, allF_none hlt (by omega) HN.out]; rfl
      | some yr =>
        obtain ⟨y, r⟩ := yr
        have HN := hide hit
        have hsp := fd_spec hit
        clear hit
        go_wp2
        refine wp_region_any (by kernel_rfl) ?_
        change wpAny _ _ _ _ _ _ _ (World.drew _)
        refine wpAny_ready (rs := [0, 1]) (by kernel_rfl) (by simp) ?_
        refine AllReady.cons rfl (fun K hK => ?_) (AllReady.cons rfl (fun K hK => ?_) AllReady.nil)
        · go_simp
          refine hK _ _ ?_
          clear hK K
          refine wpAny_ready (rs := [1]) (by kernel_rfl) (by simp) ?_
          refine AllReady.cons rfl (fun K hK => ?_) AllReady.nil
          go_simp
          refine hK _ _ ?_
          clear hK K
          refine wpAny_ready (rs := [2]) (by kernel_rfl) (by simp) ?_
          refine AllReady.cons rfl (fun K hK => ?_) AllReady.nil
          go_simp
          refine (IT.out wr.drew (row_drew (grown_refl _))).mono ?_
          rintro e w3 ⟨hg3', ⟨x, q, hx, rfl, hc3⟩ | ⟨hx, -⟩⟩
          · obtain ⟨rfl, rfl⟩ : x = y ∧ q = r := by rw [HN.out] at hx; cases hx; exact ⟨rfl, rfl⟩
            clear hx
            have hg3 := of_drew hg3'
            have hne : ∀ b, b ≠ w.heap.size + 1 + 1 → some b ≠ some (w.heap.size + 1 + 1) := fun b h e => h (by cases e; rfl)
            have b0 := (hg3.block _ (by omega) (hne _ (by omega))).trans HI.out.2.2.2.1
            have b1 := (hg3.block _ (by omega) (hne _ (by omega))).trans HI.out.2.2.2.2.1
            have HOW := hide (HI.out.2.2.2.2.2.1.kept hg3 (fun g e => by cases e; omega))
            have HC3 := hide hc3
            have H0 := hide b0
            have H1 := hide b1
            have hz3 := hg3.size
            obtain ⟨k0, g0⟩ := box1 b0
            have k9 : ∀ o, (w3.alloc o).cell? ⟨w.heap.size, 0, none⟩ = some (.slice ao xs.length cap) := fun o => (grown_new w3 o).cell k0 (by simp)
            clear hc3 b0 b1
            dsimp only [fval]
            refine hK _ _ ?_
            clear hK K
            refine wpAny_ready (rs := [3]) (by kernel_rfl) (by simp) ?_
            refine AllReady.cons rfl (fun K hK => ?_) AllReady.nil
            go_simp
            refine hK _ _ ?_
            clear hK K
            refine wpAny_ready (rs := [4]) (by kernel_rfl) (by simp) ?_
            refine AllReady.cons rfl (fun K hK => ?_) AllReady.nil
            rw [if_pos (by simp [Region.wanted])]
            refine wp_push (.tmp 15) (.tmp 18) 29 34 4 40 _ i0 fcells rfl Try.underlying29 hi hz0 hz1 hz2 rfl (by decide) (w.heap.size + 3) _ xs rfl ?ho w3.heap.size 1 x _ rfl (heap_alloc_new w3 _) rfl rfl ?h1 ?hb ?h63 ?hba ?_
            case ho => exact HOW.out.more (grown_new _ _)
            case h1 => intro u hu; simp [fcells] at hu; rcases hu with rfl | rfl | rfl | rfl <;> rfl
            case hb => omega
            case h63 => simp only [maxLen]; omega
            case hba => simp; omega
            intro v' w5 hown5 hg5
            obtain ⟨ao', cap', rfl⟩ := hown5.form
            have hS := step_fld HI.out HN.out hlt hg3 HC3.out (grown_new w3 _) hown5 hg5
            rw [List.length_append, List.length_singleton] at hS
            have HS := hide hS
            clear hS hown5
            have hw : w5.cell? ⟨w.heap.size, 0, none⟩ = some (.slice ao xs.length cap) ∧ w5.frozen? ⟨w.heap.size, 0, none⟩ = false := side_fld HI.out hg3 (grown_new w3 _) hg5
            obtain ⟨m0, m1⟩ := hw
            refine hK _ _ ?_
            clear hK K
            refine wpAny_ready (rs := [5]) (by kernel_rfl) (by simp) ?_
            refine AllReady.cons rfl (fun K hK => ?_) AllReady.nil
            go_simp
            refine hK _ _ ?_
            clear hK K
            refine wpAny_done (by kernel_rfl) ?_ _
            go_wp2
            go_roundg (s.size - q)
            case measure => omega
            case rel => exact ⟨q, _, _, rfl, HS.out⟩
          · rw [HN.out] at hx; cases hx
        · go_simp
          refine hK _ _ ?_
          clear hK K
          refine wpAny_ready (rs := [0, 2]) (by kernel_rfl) (by simp) ?_
          refine AllReady.cons rfl (fun K hK => ?_) (AllReady.cons rfl (fun K hK => ?_) AllReady.nil)
          · go_simp
            refine hK _ _ ?_
            clear hK K
            refine wpAny_ready (rs := [2]) (by kernel_rfl) (by simp) ?_
            refine AllReady.cons rfl (fun K hK => ?_) AllReady.nil
            go_simp
            refine (IT.out wr.drew (row_drew (grown_refl _))).mono ?_
            rintro e w3 ⟨hg3', ⟨x, q, hx, rfl, hc3⟩ | ⟨hx, -⟩⟩
            · obtain ⟨rfl, rfl⟩ : x = y ∧ q = r := by rw [HN.out] at hx; cases hx; exact ⟨rfl, rfl⟩
              clear hx
              have hg3 := of_drew hg3'
              have hne : ∀ b, b ≠ w.heap.size + 1 + 1 → some b ≠ some (w.heap.size + 1 + 1) := fun b h e => h (by cases e; rfl)
              have b0 := (hg3.block _ (by omega) (hne _ (by omega))).trans HI.out.2.2.2.1
              have b1 := (hg3.block _ (by omega) (hne _ (by omega))).trans HI.out.2.2.2.2.1
              have HOW := hide (HI.out.2.2.2.2.2.1.kept hg3 (fun g e => by cases e; omega))
              have HC3 := hide hc3
              have H0 := hide b0
              have H1 := hide b1
              have hz3 := hg3.size
              obtain ⟨k0, g0⟩ := box1 b0
              have k9 : ∀ o, (w3.alloc o).cell? ⟨w.heap.size, 0, none⟩ = some (.slice ao xs.length cap) := fun o => (grown_new w3 o).cell k0 (by simp)
              clear hc3 b0 b1
              dsimp only [fval]
              refine hK _ _ ?_
              clear hK K
              refine wpAny_ready (rs := [3]) (by kernel_rfl) (by simp) ?_
              refine AllReady.cons rfl (fun K hK => ?_) AllReady.nil
              go_simp
              refine hK _ _ ?_
              clear hK K
              refine wpAny_ready (rs := [4]) (by kernel_rfl) (by simp) ?_
              refine AllReady.cons rfl (fun K hK => ?_) AllReady.nil
              rw [if_pos (by simp [Region.wanted])]
              refine wp_push (.tmp 15) (.tmp 18) 29 34 4 40 _ i0 fcells rfl Try.underlying29 hi hz0 hz1 hz2 rfl (by decide) (w.heap.size + 3) _ xs rfl ?ho w3.heap.size 1 x _ rfl (heap_alloc_new w3 _) rfl rfl ?h1 ?hb ?h63 ?hba ?_
              case ho => exact HOW.out.more (grown_new _ _)
              case h1 => intro u hu; simp [fcells] at hu; rcases hu with rfl | rfl | rfl | rfl <;> rfl
              case hb => omega
              case h63 => simp only [maxLen]; omega
              case hba => simp; omega
              intro v' w5 hown5 hg5
              obtain ⟨ao', cap', rfl⟩ := hown5.form
              have hS := step_fld HI.out HN.out hlt hg3 HC3.out (grown_new w3 _) hown5 hg5
              rw [List.length_append, List.length_singleton] at hS
              have HS := hide hS
              clear hS hown5
              have hw : w5.cell? ⟨w.heap.size, 0, none⟩ = some (.slice ao xs.length cap) ∧ w5.frozen? ⟨w.heap.size, 0, none⟩ = false := side_fld HI.out hg3 (grown_new w3 _) hg5
              obtain ⟨m0, m1⟩ := hw
              refine hK _ _ ?_
              clear hK K
              refine wpAny_ready (rs := [5]) (by kernel_rfl) (by simp) ?_
              refine AllReady.cons rfl (fun K hK => ?_) AllReady.nil
              go_simp
              refine hK _ _ ?_
              clear hK K
              refine wpAny_done (by kernel_rfl) ?_ _
              go_wp2
              go_roundg (s.size - q)
              case measure => omega
              case rel => exact ⟨q, _, _, rfl, HS.out⟩
            · rw [HN.out] at hx; cases hx
          · go_simp
            refine (IT.out wr.drew (row_drew (grown_refl _))).mono ?_
            rintro e w3 ⟨hg3', ⟨x, q, hx, rfl, hc3⟩ | ⟨hx, -⟩⟩
            · obtain ⟨rfl, rfl⟩ : x = y ∧ q = r := by rw [HN.out] at hx; cases hx; exact ⟨rfl, rfl⟩
              clear hx
              have hg3 := of_drew hg3'
              have hne : ∀ b, b ≠ w.heap.size + 1 + 1 → some b ≠ some (w.heap.size + 1 + 1) := fun b h e => h (by cases e; rfl)
              have b0 := (hg3.block _ (by omega) (hne _ (by omega))).trans HI.out.2.2.2.1
              have b1 := (hg3.block _ (by omega) (hne _ (by omega))).trans HI.out.2.2.2.2.1
              have HOW := hide (HI.out.2.2.2.2.2.1.kept hg3 (fun g e => by cases e; omega))
              have HC3 := hide hc3
              have H0 := hide b0
              have H1 := hide b1
              have hz3 := hg3.size
              obtain ⟨k0, g0⟩ := box1 b0
              have k9 : ∀ o, (w3.alloc o).cell? ⟨w.heap.size, 0, none⟩ = some (.slice ao xs.length cap) := fun o => (grown_new w3 o).cell k0 (by simp)
              clear hc3 b0 b1
              dsimp only [fval]
              refine hK _ _ ?_
              clear hK K
              refine wpAny_ready (rs := [0, 3]) (by kernel_rfl) (by simp) ?_
              refine AllReady.cons rfl (fun K hK => ?_) (AllReady.cons rfl (fun K hK => ?_) AllReady.nil)
              · go_simp
                refine hK _ _ ?_
                clear hK K
                refine wpAny_ready (rs := [3]) (by kernel_rfl) (by simp) ?_
                refine AllReady.cons rfl (fun K hK => ?_) AllReady.nil
                go_simp
                refine hK _ _ ?_
                clear hK K
                refine wpAny_ready (rs := [4]) (by kernel_rfl) (by simp) ?_
                refine AllReady.cons rfl (fun K hK => ?_) AllReady.nil
                rw [if_pos (by simp [Region.wanted])]
                refine wp_push (.tmp 15) (.tmp 18) 29 34 4 40 _ i0 fcells rfl Try.underlying29 hi hz0 hz1 hz2 rfl (by decide) (w.heap.size + 3) _ xs rfl ?ho w3.heap.size 1 x _ rfl (heap_alloc_new w3 _) rfl rfl ?h1 ?hb ?h63 ?hba ?_
                case ho => exact HOW.out.more (grown_new _ _)
                case h1 => intro u hu; simp [fcells] at hu; rcases hu with rfl | rfl | rfl | rfl <;> rfl
                case hb => omega
                case h63 => simp only [maxLen]; omega
                case hba => simp; omega
                intro v' w5 hown5 hg5
                obtain ⟨ao', cap', rfl⟩ := hown5.form
                have hS := step_fld HI.out HN.out hlt hg3 HC3.out (grown_new w3 _) hown5 hg5
                rw [List.length_append, List.length_singleton] at hS
                have HS := hide hS
                clear hS hown5
                have hw : w5.cell? ⟨w.heap.size, 0, none⟩ = some (.slice ao xs.length cap) ∧ w5.frozen? ⟨w.heap.size, 0, none⟩ = false := side_fld HI.out hg3 (grown_new w3 _) hg5
                obtain ⟨m0, m1⟩ := hw
                refine hK _ _ ?_
                clear hK K
                refine wpAny_ready (rs := [5]) (by kernel_rfl) (by simp) ?_
                refine AllReady.cons rfl (fun K hK => ?_) AllReady.nil
                go_simp
                refine hK _ _ ?_
                clear hK K
                refine wpAny_done (by kernel_rfl) ?_ _
                go_wp2
                go_roundg (s.size - q)
                case measure => omega
                case rel => exact ⟨q, _, _, rfl, HS.out⟩
              · go_simp
                refine hK _ _ ?_
                clear hK K
                refine wpAny_ready (rs := [0]) (by kernel_rfl) (by simp) ?_
                refine AllReady.cons rfl (fun K hK => ?_) AllReady.nil
                go_simp
                refine hK _ _ ?_
                clear hK K
                refine wpAny_ready (rs := [4]) (by kernel_rfl) (by simp) ?_
                refine AllReady.cons rfl (fun K hK => ?_) AllReady.nil
                rw [if_pos (by simp [Region.wanted])]
                refine wp_push (.tmp 15) (.tmp 18) 29 34 4 40 _ i0 fcells rfl Try.underlying29 hi hz0 hz1 hz2 rfl (by decide) (w.heap.size + 3) _ xs rfl ?ho w3.heap.size 1 x _ rfl (heap_alloc_new w3 _) rfl rfl ?h1 ?hb ?h63 ?hba ?_
                case ho => exact HOW.out.more (grown_new _ _)
                case h1 => intro u hu; simp [fcells] at hu; rcases hu with rfl | rfl | rfl | rfl <;> rfl
                case hb => omega
                case h63 => simp only [maxLen]; omega
                case hba => simp; omega
                intro v' w5 hown5 hg5
                obtain ⟨ao', cap', rfl⟩ := hown5.form
                have hS := step_fld HI.out HN.out hlt hg3 HC3.out (grown_new w3 _) hown5 hg5
                rw [List.length_append, List.length_singleton] at hS
                have HS := hide hS
                clear hS hown5
                have hw : w5.cell? ⟨w.heap.size, 0, none⟩ = some (.slice ao xs.length cap) ∧ w5.frozen? ⟨w.heap.size, 0, none⟩ = false := side_fld HI.out hg3 (grown_new w3 _) hg5
                obtain ⟨m0, m1⟩ := hw
                refine hK _ _ ?_
                clear hK K
                refine wpAny_ready (rs := [5]) (by kernel_rfl) (by simp) ?_
                refine AllReady.cons rfl (fun K hK => ?_) AllReady.nil
                go_simp
                refine hK _ _ ?_
                clear hK K
                refine wpAny_done (by kernel_rfl) ?_ _
                go_wp2
                go_roundg (s.size - q)
                case measure => omega
                case rel => exact ⟨q, _, _, rfl, HS.out⟩
            · rw [HN.out] at hx; cases hx
    · go_wp2
      refine leaves_cons (f := 34) (args := #[.pointer (some ⟨w.heap.size, 0, none⟩), .pointer (some ⟨w.heap.size + 1, 0, none⟩)]) (by simp) (by simp [go_sem]) ?_
      refine (idle_fld _ _ _).mono ?_
      rintro e u' w'' ⟨rfl, rfl, rfl⟩
      simp [Leaves, settle, results, Try.results24, go_sem, c0, c1]
      obtain ⟨hg, -, -, -, -, hown, -, hall⟩ := HI.out
      refine ⟨_, _, rfl, row_set (row_set hg (by omega)) (by omega), .inl ⟨xs, ?_, rfl, ?_⟩⟩
      · rw [hall, allF_end (by omega)]; simp
      · exact ((hown.kept (grown_set _ _ _ _) (fun g e => by cases e; omega)).kept (grown_set _ _ _ _) (fun g e => by cases e; omega)).base_le (by omega)

theorem info_num : (Try.prog.info? 22).map (fun i => (i.zero, i.size, i.bytes)) = some (some (.int .u64 0), 1, 8) := by kernel_rfl

theorem catch_num (n : Nat) (x y : Value) (u : TypeId) (pv : Value) (older : List PanicEntry) (w : World)
    (h0 : w.cell? ⟨n, 0, none⟩ = some x) (h1 : w.cell? ⟨n + 1, 0, none⟩ = some y) (f0 : w.frozen? ⟨n, 0, none⟩ = false) (f1 : w.frozen? ⟨n + 1, 0, none⟩ = false) :
    CallsD Try.prog 38 #[.pointer (some ⟨n, 0, none⟩), .pointer (some ⟨n + 1, 0, none⟩)] (.panicking ({ v := .iface u pv, recovered := false } :: older)) w fun e u' w' =>
      e = .returned (.tuple #[]) ∧ u' = .panicking ({ v := .iface u pv, recovered := true } :: older) ∧ w' = (w.setCell ⟨n, 0, none⟩ (.slice none 0 0)).setCell ⟨n + 1, 0, none⟩ (.int .i64 3) := by
  refine callsD_of_wpS Try.func38 rfl fun c₀ cs hu => ?_
  apply wpS_seq
  apply wpS_region
  simp [wpOpsS, go_sem, recoverD, hu, Try.ntmps38, Exit.thenS]
  refine wpS_cond (t := true) (by simp [Act.eval, Array.replicate]) ?_
  simp only [if_true]
  apply wpS_region
  simp [wpOpsS, go_sem, h0, h1, f0, f1, bodyPostS, results, Try.results38]

theorem idle_num (p q : Addr) (w : World) :
    CallsD Try.prog 38 #[.pointer (some p), .pointer (some q)] .returning w fun e u' w' => e = .returned (.tuple #[]) ∧ u' = .returning ∧ w' = w := by
  refine callsD_of_wpS Try.func38 rfl fun c₀ cs hu => ?_
  apply wpS_seq
  apply wpS_region
  simp [wpOpsS, go_sem, recoverD, hu, Try.ntmps38, Exit.thenS]
  refine wpS_cond (t := false) (by simp [Act.eval, Array.replicate]) ?_
  simp only [Bool.false_eq_true, if_false]
  refine wpS_of_wp (wp_skip ?_)
  cases c₀
  simp_all [bodyPostS, results, Try.results38]

/-- What takeAll answers. -/
def AllT_num (s : ByteArray) (w : World) (e : Ending) (w' : World) : Prop :=
  ∃ v E, e = .returned (.tuple #[v, .int .i64 E]) ∧ w.grownBy w' none ∧ ((∃ xs, all (tk s) s.size = some xs ∧ E = 0 ∧ OwnsL 22 1 ncells w' w.heap.size v xs) ∨ (all (tk s) s.size = none ∧ E = 3 ∧ v = .slice none 0 0))

/-- What holds ahead of each round. -/
def AllI_num (s : ByteArray) (w wr : World) (p : Nat) (v : Value) (xs : List Nat) : Prop :=
  w.grownBy wr none ∧ w.heap.size + 3 ≤ wr.heap.size ∧ Cur wr (w.heap.size + 1 + 1) s p ∧ wr.heap[w.heap.size]? = some (.cells #[v] 35 (0, 0)) ∧ wr.heap[w.heap.size + 1]? = some (.cells #[.int .i64 0] 23 (0, 0)) ∧ OwnsL 22 1 ncells wr (w.heap.size + 3) v xs ∧
    xs.length ≤ p ∧ all (tk s) s.size = (allF (tk s) s.size (s.size - p) p).map (xs ++ ·)

theorem far_num {s : ByteArray} {w wr : World} {p : Nat} {v : Value} {xs : List Nat} (hI : AllI_num s w wr p v xs) {w3 w4 w5 : World} (hg3 : wr.grownBy w3 (some (w.heap.size + 1 + 1))) (hg4 : w3.grownBy w4 none) (hg5 : w4.grownBy w5 v.ownBlock) :
    (∀ b, b < w.heap.size + 3 → w5.heap[b]? = w3.heap[b]?) ∧ (∀ b, b < w.heap.size + 2 → w5.heap[b]? = wr.heap[b]?) := by
  obtain ⟨hg, hsz, -, -, -, hown, -, -⟩ := hI
  have h1 : ∀ b, b < w.heap.size + 3 → w5.heap[b]? = w3.heap[b]? := fun b hb => by
    have := hg3.size
    have := hg4.size
    exact (hg5.block b (by omega) (fun e => by have := World.ownsRow.lt hown b e.symm; omega)).trans (hg4.block b (by omega) (by simp))
  exact ⟨h1, fun b hb => (h1 b (by omega)).trans (hg3.block b (by omega) (fun e => by cases e; omega))⟩

theorem side_num {s : ByteArray} {w wr : World} {p : Nat} {v : Value} {xs : List Nat} (hI : AllI_num s w wr p v xs) {w3 w4 w5 : World} (hg3 : wr.grownBy w3 (some (w.heap.size + 1 + 1))) (hg4 : w3.grownBy w4 none) (hg5 : w4.grownBy w5 v.ownBlock) :
    w5.cell? ⟨w.heap.size, 0, none⟩ = some v ∧ w5.frozen? ⟨w.heap.size, 0, none⟩ = false :=
  box1 (((far_num hI hg3 hg4 hg5).2 _ (by omega)).trans hI.2.2.2.1)

theorem step_num {s : ByteArray} {w wr : World} {p : Nat} {v : Value} {xs : List Nat} (hI : AllI_num s w wr p v xs) {y : Nat} {q : Nat} (hit : tk s p = some (y, q)) (hlt : p < s.size) {w3 w4 w5 : World} (hg3 : wr.grownBy w3 (some (w.heap.size + 1 + 1))) (hc3 : Cur w3 (w.heap.size + 1 + 1) s q)
    (hg4 : w3.grownBy w4 none) {v' : Value} (hown5 : OwnsL 22 1 ncells w5 (w.heap.size + 3) v' (xs ++ [y])) (hg5 : w4.grownBy w5 v.ownBlock) : AllI_num s w (w5.setCell ⟨w.heap.size, 0, none⟩ v') q v' (xs ++ [y]) := by
  obtain ⟨f3, fr⟩ := far_num hI hg3 hg4 hg5
  obtain ⟨hg, hsz, -, b0, b1, hown, hle, hall⟩ := hI
  have hsp := tk_spec hit
  have hg45 : w.grownBy w5 none := own_row (hown.kept hg3 (fun g e => by cases e; omega) |>.more hg4) (grown_trans (grown_trans_row hg hg3 (fun g e => by cases e; omega)) hg4) (by omega) hg5
  have hz : w.heap.size + 3 ≤ w5.heap.size := by have := hg3.size; have := hg4.size; have := hg5.size; omega
  have hgs := grown_set w5 w.heap.size 0 v'
  refine ⟨row_set hg45 (Nat.le_refl _), by simpa using hz, ?_, ?_, ?_, hown5.kept hgs (fun g e => by cases e; omega), ?_, ?_⟩
  · refine Cur.kept (row := some w.heap.size) ?_ hgs (by simp <;> omega)
    have h2 := f3 (w.heap.size + 1 + 1) (by omega)
    exact ⟨(World.cell?_of_block (a := ⟨w.heap.size + 1 + 1, 0, none⟩) h2).trans hc3.1, (World.cell?_of_block (a := ⟨w.heap.size + 1 + 1, 1, none⟩) h2).trans hc3.2.1, (World.frozen?_of_block (a := ⟨w.heap.size + 1 + 1, 1, none⟩) h2).trans hc3.2.2.1, hc3.2.2.2⟩
  · have := (fr _ (by omega)).trans b0
    exact set1 this v'
  · exact (hgs.block _ (by omega) (by simp)).trans ((fr _ (by omega)).trans b1)
  · simp; omega
  · rw [hall, allF_some hlt (by omega) hit, app_cons, allF_fuel (item := tk s) (fun h => by have := tk_spec h; omega) (f' := s.size - q) (by omega) (by omega)]

set_option maxRecDepth 100000 in
set_option maxHeartbeats 3200000 in
theorem takeAll_num (s : ByteArray) (w : World) (hs : s.size ≤ 9223372036854775807) (hb : s.size * 8 ≤ 140737488351232) :
    Calls Try.prog 27 #[.string s, .func (.func 28) #[] #[]] w fun e w' => AllT_num s w e w' := by
  have hmf : ∀ (fn : Fn) (first cap : Array Value) (w : World), (Instr.makeFunc fn first cap).run Try.prog w = .ok (.func fn first cap) w := fun _ _ _ _ => rfl
  obtain ⟨i0, hi, hz0, hz1, hz2⟩ := info_parts info_num
  obtain ⟨w0, hw0⟩ : ∃ w0, w0 = ((w.alloc (.cells #[.slice none 0 0] 35)).alloc (.cells #[.int .i64 0] 23)).alloc (.cells #[.string s, .int .i64 0] 45) := ⟨_, rfl⟩
  have I0 : AllI_num s w w0 0 (.slice none 0 0) [] := by
    have hg0 : w.grownBy w0 none := by rw [hw0]; exact grown_trans (grown_trans (grown_new _ _) (grown_new _ _)) (grown_new _ _)
    have B0 : w0.heap[w.heap.size]? = some (.cells #[.slice none 0 0] 35 (0, 0)) := by
      rw [hw0, heap_in _ _ _ (by simp <;> omega), heap_in _ _ _ (by simp)]; exact heap_at _ _ _ (by simp)
    have B1 : w0.heap[w.heap.size + 1]? = some (.cells #[.int .i64 0] 23 (0, 0)) := by rw [hw0, heap_in _ _ _ (by simp)]; exact heap_at _ _ _ (by simp)
    have B2 : w0.heap[w.heap.size + 1 + 1]? = some (.cells #[.string s, .int .i64 0] 45 (0, 0)) := by rw [hw0]; exact heap_at _ _ _ (by simp)
    obtain ⟨c0, c1, cf0, cf1⟩ := box2 B2
    refine ⟨hg0, by rw [hw0]; simp <;> omega, ⟨c0, c1, cf1, hs, Nat.zero_le _⟩, B0, B1, OwnsL.nil _ _ _ _ _, Nat.zero_le _, ?_⟩
    simp [all]
  go_enter_defers Try.func27, Try.ntmps27
  go_wp2
  rw [← hw0]
  clear hw0
  go_loopg [10] s.size (fun k _ wr => ∃ p v xs, k = s.size - p ∧ AllI_num s w wr p v xs)
  case atStart => exact ⟨0, _, _, rfl, I0⟩
  case round =>
    obtain ⟨p, v, xs, rfl, hI⟩ := hrel
    clear I0
    obtain ⟨ao, cap, rfl⟩ := hI.2.2.2.2.2.1.form
    have HI := hide hI
    obtain ⟨hg, hsz, hcur, B0, B1, hown, hle, hall⟩ := hI
    have HC := hide hcur
    obtain ⟨-, d1, -, -, hp⟩ := hcur
    obtain ⟨c0, f0⟩ := box1 B0
    obtain ⟨c1, f1⟩ := box1 B1
    have IT := hide (fun wx (hx : wr.grownBy wx none) => varint_any _ s p wx (HC.out.more hx))
    clear hg B0 B1 hown hall
    by_cases hlt : p < s.size
    · cases hit : tk s p with
      | none =>
        have HN := hide hit
        clear hit
        go_wp2
        refine wp_region_any (by kernel_rfl) ?_
        change wpAny _ _ _ _ _ _ _ (World.drew _)
        refine wpAny_ready (rs := [0, 1]) (by kernel_rfl) (by simp) ?_
        refine AllReady.cons rfl (fun K hK => ?_) (AllReady.cons rfl (fun K hK => ?_) AllReady.nil)
        · go_simp
          refine hK _ _ ?_
          clear hK K
          refine wpAny_ready (rs := [1]) (by kernel_rfl) (by simp) ?_
          refine AllReady.cons rfl (fun K hK => ?_) AllReady.nil
          go_simp
          refine hK _ _ ?_
          clear hK K
          refine wpAny_ready (rs := [2]) (by kernel_rfl) (by simp) ?_
          refine AllReady.cons rfl (fun K hK => ?_) AllReady.nil
          go_simp
          refine (IT.out wr.drew (row_drew (grown_refl _))).mono ?_
          rintro e w3 ⟨hg3', ⟨x, q, hx, -⟩ | ⟨-, rfl⟩⟩
          · rw [HN.out] at hx; cases hx
          · dsimp only
            clear hK K
            have hg3 := of_drew hg3'
            have k0 := hg3.cell c0 (by simp <;> omega)
            have k1 := hg3.cell c1 (by simp <;> omega)
            have g0 := (World.frozen?_of_block (a := ⟨w.heap.size, 0, none⟩) (hg3.block _ (by simp <;> omega) (by simp <;> omega))).trans f0
            have g1 := (World.frozen?_of_block (a := ⟨w.heap.size + 1, 0, none⟩) (hg3.block _ (by simp <;> omega) (by simp <;> omega))).trans f1
            go_wp2
            refine leaves_cons (f := 38) (args := #[.pointer (some ⟨w.heap.size, 0, none⟩), .pointer (some ⟨w.heap.size + 1, 0, none⟩)]) (by simp) (by simp [go_sem]) ?_
            refine (catch_num w.heap.size _ _ _ _ [] _ k0 k1 g0 g1).mono ?_
            rintro e u' w'' ⟨rfl, rfl, rfl⟩
            simp [Leaves, settle, results, Try.results27, go_sem, k0, k1]
            obtain ⟨hg, -, -, -, -, -, -, hall⟩ := HI.out
            refine ⟨_, _, rfl, row_set (row_set (grown_trans_row hg hg3 (fun g e => by cases e; omega)) (by omega)) (by omega), .inr ⟨?_, rfl, rfl⟩⟩
            rw [hall, allF_none hlt (by omega) HN.out]; rfl
        · go_simp
          refine hK _ _ ?_
          clear hK K
          refine wpAny_ready (rs := [0, 2]) (by kernel_rfl) (by simp) ?_
          refine AllReady.cons rfl (fun K hK => ?_) (AllReady.cons rfl (fun K hK => ?_) AllReady.nil)
          · go_simp
            refine hK _ _ ?_
            clear hK K
            refine wpAny_ready (rs := [2]) (by kernel_rfl) (by simp) ?_
            refine AllReady.cons rfl (fun K hK => ?_) AllReady.nil
            go_simp
            refine (IT.out wr.drew (row_drew (grown_refl _))).mono ?_
            rintro e w3 ⟨hg3', ⟨x, q, hx, -⟩ | ⟨-, rfl⟩⟩
            · rw [HN.out] at hx; cases hx
            · dsimp only
              clear hK K
              have hg3 := of_drew hg3'
              have k0 := hg3.cell c0 (by simp <;> omega)
              have k1 := hg3.cell c1 (by simp <;> omega)
              have g0 := (World.frozen?_of_block (a := ⟨w.heap.size, 0, none⟩) (hg3.block _ (by simp <;> omega) (by simp <;> omega))).trans f0
              have g1 := (World.frozen?_of_block (a := ⟨w.heap.size + 1, 0, none⟩) (hg3.block _ (by simp <;> omega) (by simp <;> omega))).trans f1
              go_wp2
              refine leaves_cons (f := 38) (args := #[.pointer (some ⟨w.heap.size, 0, none⟩), .pointer (some ⟨w.heap.size + 1, 0, none⟩)]) (by simp) (by simp [go_sem]) ?_
              refine (catch_num w.heap.size _ _ _ _ [] _ k0 k1 g0 g1).mono ?_
              rintro e u' w'' ⟨rfl, rfl, rfl⟩
              simp [Leaves, settle, results, Try.results27, go_sem, k0, k1]
              obtain ⟨hg, -, -, -, -, -, -, hall⟩ := HI.out
              refine ⟨_, _, rfl, row_set (row_set (grown_trans_row hg hg3 (fun g e => by cases e; omega)) (by omega)) (by omega), .inr ⟨?_, rfl, rfl⟩⟩
              rw [hall, allF_none hlt (by omega) HN.out]; rfl
          · go_simp
            refine (IT.out wr.drew (row_drew (grown_refl _))).mono ?_
            rintro e w3 ⟨hg3', ⟨x, q, hx, -⟩ | ⟨-, rfl⟩⟩
            · rw [HN.out] at hx; cases hx
            · dsimp only
              clear hK K
              have hg3 := of_drew hg3'
              have k0 := hg3.cell c0 (by simp <;> omega)
              have k1 := hg3.cell c1 (by simp <;> omega)
              have g0 := (World.frozen?_of_block (a := ⟨w.heap.size, 0, none⟩) (hg3.block _ (by simp <;> omega) (by simp <;> omega))).trans f0
              have g1 := (World.frozen?_of_block (a := ⟨w.heap.size + 1, 0, none⟩) (hg3.block _ (by simp <;> omega) (by simp <;> omega))).trans f1
              go_wp2
              refine leaves_cons (f := 38) (args := #[.pointer (some ⟨w.heap.size, 0, none⟩), .pointer (some ⟨w.heap.size + 1, 0, none⟩)]) (by simp) (by simp [go_sem]) ?_
              refine (catch_num w.heap.size _ _ _ _ [] _ k0 k1 g0 g1).mono ?_
              rintro e u' w'' ⟨rfl, rfl, rfl⟩
              simp [Leaves, settle, results, Try.results27, go_sem, k0, k1]
              obtain ⟨hg, -, -, -, -, -, -, hall⟩ := HI.out
              refine ⟨_, _, rfl, row_set (row_set (grown_trans_row hg hg3 (fun g e => by cases e; omega)) (by omega)) (by omega), .inr ⟨?_, rfl, rfl⟩⟩
              rw [hall, allF_none hlt (by omega) HN.out]; rfl
      | some yr =>
        obtain ⟨y, r⟩ := yr
        have HN := hide hit
        have hsp := tk_spec hit
        clear hit
        go_wp2
        refine wp_region_any (by kernel_rfl) ?_
        change wpAny _ _ _ _ _ _ _ (World.drew _)
        refine wpAny_ready (rs := [0, 1]) (by kernel_rfl) (by simp) ?_
        refine AllReady.cons rfl (fun K hK => ?_) (AllReady.cons rfl (fun K hK => ?_) AllReady.nil)
        · go_simp
          refine hK _ _ ?_
          clear hK K
          refine wpAny_ready (rs := [1]) (by kernel_rfl) (by simp) ?_
          refine AllReady.cons rfl (fun K hK => ?_) AllReady.nil
          go_simp
          refine hK _ _ ?_
          clear hK K
          refine wpAny_ready (rs := [2]) (by kernel_rfl) (by simp) ?_
          refine AllReady.cons rfl (fun K hK => ?_) AllReady.nil
          go_simp
          refine (IT.out wr.drew (row_drew (grown_refl _))).mono ?_
          rintro e w3 ⟨hg3', ⟨x, q, hx, rfl, hc3⟩ | ⟨hx, -⟩⟩
          · obtain ⟨rfl, rfl⟩ : x = y ∧ q = r := by rw [HN.out] at hx; cases hx; exact ⟨rfl, rfl⟩
            clear hx
            have hg3 := of_drew hg3'
            have hne : ∀ b, b ≠ w.heap.size + 1 + 1 → some b ≠ some (w.heap.size + 1 + 1) := fun b h e => h (by cases e; rfl)
            have b0 := (hg3.block _ (by omega) (hne _ (by omega))).trans HI.out.2.2.2.1
            have b1 := (hg3.block _ (by omega) (hne _ (by omega))).trans HI.out.2.2.2.2.1
            have HOW := hide (HI.out.2.2.2.2.2.1.kept hg3 (fun g e => by cases e; omega))
            have HC3 := hide hc3
            have H0 := hide b0
            have H1 := hide b1
            have hz3 := hg3.size
            obtain ⟨k0, g0⟩ := box1 b0
            have k9 : ∀ o, (w3.alloc o).cell? ⟨w.heap.size, 0, none⟩ = some (.slice ao xs.length cap) := fun o => (grown_new w3 o).cell k0 (by simp)
            clear hc3 b0 b1
            dsimp only
            refine hK _ _ ?_
            clear hK K
            refine wpAny_ready (rs := [3]) (by kernel_rfl) (by simp) ?_
            refine AllReady.cons rfl (fun K hK => ?_) AllReady.nil
            go_simp
            refine hK _ _ ?_
            clear hK K
            refine wpAny_ready (rs := [4]) (by kernel_rfl) (by simp) ?_
            refine AllReady.cons rfl (fun K hK => ?_) AllReady.nil
            rw [if_pos (by simp [Region.wanted])]
            refine wp_push (.tmp 15) (.tmp 18) 35 22 1 8 _ i0 ncells rfl Try.underlying35 hi hz0 hz1 hz2 rfl (by decide) (w.heap.size + 3) _ xs rfl ?ho w3.heap.size 1 x _ rfl (heap_alloc_new w3 _) rfl rfl ?h1 ?hb ?h63 ?hba ?_
            case ho => exact HOW.out.more (grown_new _ _)
            case h1 => intro u hu; simp [ncells] at hu; rcases hu with rfl | rfl | rfl | rfl <;> rfl
            case hb => omega
            case h63 => simp only [maxLen]; omega
            case hba => simp; omega
            intro v' w5 hown5 hg5
            obtain ⟨ao', cap', rfl⟩ := hown5.form
            have hS := step_num HI.out HN.out hlt hg3 HC3.out (grown_new w3 _) hown5 hg5
            rw [List.length_append, List.length_singleton] at hS
            have HS := hide hS
            clear hS hown5
            have hw : w5.cell? ⟨w.heap.size, 0, none⟩ = some (.slice ao xs.length cap) ∧ w5.frozen? ⟨w.heap.size, 0, none⟩ = false := side_num HI.out hg3 (grown_new w3 _) hg5
            obtain ⟨m0, m1⟩ := hw
            refine hK _ _ ?_
            clear hK K
            refine wpAny_ready (rs := [5]) (by kernel_rfl) (by simp) ?_
            refine AllReady.cons rfl (fun K hK => ?_) AllReady.nil
            go_simp
            refine hK _ _ ?_
            clear hK K
            refine wpAny_done (by kernel_rfl) ?_ _
            go_wp2
            go_roundg (s.size - q)
            case measure => omega
            case rel => exact ⟨q, _, _, rfl, HS.out⟩
          · rw [HN.out] at hx; cases hx
        · go_simp
          refine hK _ _ ?_
          clear hK K
          refine wpAny_ready (rs := [0, 2]) (by kernel_rfl) (by simp) ?_
          refine AllReady.cons rfl (fun K hK => ?_) (AllReady.cons rfl (fun K hK => ?_) AllReady.nil)
          · go_simp
            refine hK _ _ ?_
            clear hK K
            refine wpAny_ready (rs := [2]) (by kernel_rfl) (by simp) ?_
            refine AllReady.cons rfl (fun K hK => ?_) AllReady.nil
            go_simp
            refine (IT.out wr.drew (row_drew (grown_refl _))).mono ?_
            rintro e w3 ⟨hg3', ⟨x, q, hx, rfl, hc3⟩ | ⟨hx, -⟩⟩
            · obtain ⟨rfl, rfl⟩ : x = y ∧ q = r := by rw [HN.out] at hx; cases hx; exact ⟨rfl, rfl⟩
              clear hx
              have hg3 := of_drew hg3'
              have hne : ∀ b, b ≠ w.heap.size + 1 + 1 → some b ≠ some (w.heap.size + 1 + 1) := fun b h e => h (by cases e; rfl)
              have b0 := (hg3.block _ (by omega) (hne _ (by omega))).trans HI.out.2.2.2.1
              have b1 := (hg3.block _ (by omega) (hne _ (by omega))).trans HI.out.2.2.2.2.1
              have HOW := hide (HI.out.2.2.2.2.2.1.kept hg3 (fun g e => by cases e; omega))
              have HC3 := hide hc3
              have H0 := hide b0
              have H1 := hide b1
              have hz3 := hg3.size
              obtain ⟨k0, g0⟩ := box1 b0
              have k9 : ∀ o, (w3.alloc o).cell? ⟨w.heap.size, 0, none⟩ = some (.slice ao xs.length cap) := fun o => (grown_new w3 o).cell k0 (by simp)
              clear hc3 b0 b1
              dsimp only
              refine hK _ _ ?_
              clear hK K
              refine wpAny_ready (rs := [3]) (by kernel_rfl) (by simp) ?_
              refine AllReady.cons rfl (fun K hK => ?_) AllReady.nil
              go_simp
              refine hK _ _ ?_
              clear hK K
              refine wpAny_ready (rs := [4]) (by kernel_rfl) (by simp) ?_
              refine AllReady.cons rfl (fun K hK => ?_) AllReady.nil
              rw [if_pos (by simp [Region.wanted])]
              refine wp_push (.tmp 15) (.tmp 18) 35 22 1 8 _ i0 ncells rfl Try.underlying35 hi hz0 hz1 hz2 rfl (by decide) (w.heap.size + 3) _ xs rfl ?ho w3.heap.size 1 x _ rfl (heap_alloc_new w3 _) rfl rfl ?h1 ?hb ?h63 ?hba ?_
              case ho => exact HOW.out.more (grown_new _ _)
              case h1 => intro u hu; simp [ncells] at hu; rcases hu with rfl | rfl | rfl | rfl <;> rfl
              case hb => omega
              case h63 => simp only [maxLen]; omega
              case hba => simp; omega
              intro v' w5 hown5 hg5
              obtain ⟨ao', cap', rfl⟩ := hown5.form
              have hS := step_num HI.out HN.out hlt hg3 HC3.out (grown_new w3 _) hown5 hg5
              rw [List.length_append, List.length_singleton] at hS
              have HS := hide hS
              clear hS hown5
              have hw : w5.cell? ⟨w.heap.size, 0, none⟩ = some (.slice ao xs.length cap) ∧ w5.frozen? ⟨w.heap.size, 0, none⟩ = false := side_num HI.out hg3 (grown_new w3 _) hg5
              obtain ⟨m0, m1⟩ := hw
              refine hK _ _ ?_
              clear hK K
              refine wpAny_ready (rs := [5]) (by kernel_rfl) (by simp) ?_
              refine AllReady.cons rfl (fun K hK => ?_) AllReady.nil
              go_simp
              refine hK _ _ ?_
              clear hK K
              refine wpAny_done (by kernel_rfl) ?_ _
              go_wp2
              go_roundg (s.size - q)
              case measure => omega
              case rel => exact ⟨q, _, _, rfl, HS.out⟩
            · rw [HN.out] at hx; cases hx
          · go_simp
            refine (IT.out wr.drew (row_drew (grown_refl _))).mono ?_
            rintro e w3 ⟨hg3', ⟨x, q, hx, rfl, hc3⟩ | ⟨hx, -⟩⟩
            · obtain ⟨rfl, rfl⟩ : x = y ∧ q = r := by rw [HN.out] at hx; cases hx; exact ⟨rfl, rfl⟩
              clear hx
              have hg3 := of_drew hg3'
              have hne : ∀ b, b ≠ w.heap.size + 1 + 1 → some b ≠ some (w.heap.size + 1 + 1) := fun b h e => h (by cases e; rfl)
              have b0 := (hg3.block _ (by omega) (hne _ (by omega))).trans HI.out.2.2.2.1
              have b1 := (hg3.block _ (by omega) (hne _ (by omega))).trans HI.out.2.2.2.2.1
              have HOW := hide (HI.out.2.2.2.2.2.1.kept hg3 (fun g e => by cases e; omega))
              have HC3 := hide hc3
              have H0 := hide b0
              have H1 := hide b1
              have hz3 := hg3.size
              obtain ⟨k0, g0⟩ := box1 b0
              have k9 : ∀ o, (w3.alloc o).cell? ⟨w.heap.size, 0, none⟩ = some (.slice ao xs.length cap) := fun o => (grown_new w3 o).cell k0 (by simp)
              clear hc3 b0 b1
              dsimp only
              refine hK _ _ ?_
              clear hK K
              refine wpAny_ready (rs := [0, 3]) (by kernel_rfl) (by simp) ?_
              refine AllReady.cons rfl (fun K hK => ?_) (AllReady.cons rfl (fun K hK => ?_) AllReady.nil)
              · go_simp
                refine hK _ _ ?_
                clear hK K
                refine wpAny_ready (rs := [3]) (by kernel_rfl) (by simp) ?_
                refine AllReady.cons rfl (fun K hK => ?_) AllReady.nil
                go_simp
                refine hK _ _ ?_
                clear hK K
                refine wpAny_ready (rs := [4]) (by kernel_rfl) (by simp) ?_
                refine AllReady.cons rfl (fun K hK => ?_) AllReady.nil
                rw [if_pos (by simp [Region.wanted])]
                refine wp_push (.tmp 15) (.tmp 18) 35 22 1 8 _ i0 ncells rfl Try.underlying35 hi hz0 hz1 hz2 rfl (by decide) (w.heap.size + 3) _ xs rfl ?ho w3.heap.size 1 x _ rfl (heap_alloc_new w3 _) rfl rfl ?h1 ?hb ?h63 ?hba ?_
                case ho => exact HOW.out.more (grown_new _ _)
                case h1 => intro u hu; simp [ncells] at hu; rcases hu with rfl | rfl | rfl | rfl <;> rfl
                case hb => omega
                case h63 => simp only [maxLen]; omega
                case hba => simp; omega
                intro v' w5 hown5 hg5
                obtain ⟨ao', cap', rfl⟩ := hown5.form
                have hS := step_num HI.out HN.out hlt hg3 HC3.out (grown_new w3 _) hown5 hg5
                rw [List.length_append, List.length_singleton] at hS
                have HS := hide hS
                clear hS hown5
                have hw : w5.cell? ⟨w.heap.size, 0, none⟩ = some (.slice ao xs.length cap) ∧ w5.frozen? ⟨w.heap.size, 0, none⟩ = false := side_num HI.out hg3 (grown_new w3 _) hg5
                obtain ⟨m0, m1⟩ := hw
                refine hK _ _ ?_
                clear hK K
                refine wpAny_ready (rs := [5]) (by kernel_rfl) (by simp) ?_
                refine AllReady.cons rfl (fun K hK => ?_) AllReady.nil
                go_simp
                refine hK _ _ ?_
                clear hK K
                refine wpAny_done (by kernel_rfl) ?_ _
                go_wp2
                go_roundg (s.size - q)
                case measure => omega
                case rel => exact ⟨q, _, _, rfl, HS.out⟩
              · go_simp
                refine hK _ _ ?_
                clear hK K
                refine wpAny_ready (rs := [0]) (by kernel_rfl) (by simp) ?_
                refine AllReady.cons rfl (fun K hK => ?_) AllReady.nil
                go_simp
                refine hK _ _ ?_
                clear hK K
                refine wpAny_ready (rs := [4]) (by kernel_rfl) (by simp) ?_
                refine AllReady.cons rfl (fun K hK => ?_) AllReady.nil
                rw [if_pos (by simp [Region.wanted])]
                refine wp_push (.tmp 15) (.tmp 18) 35 22 1 8 _ i0 ncells rfl Try.underlying35 hi hz0 hz1 hz2 rfl (by decide) (w.heap.size + 3) _ xs rfl ?ho w3.heap.size 1 x _ rfl (heap_alloc_new w3 _) rfl rfl ?h1 ?hb ?h63 ?hba ?_
                case ho => exact HOW.out.more (grown_new _ _)
                case h1 => intro u hu; simp [ncells] at hu; rcases hu with rfl | rfl | rfl | rfl <;> rfl
                case hb => omega
                case h63 => simp only [maxLen]; omega
                case hba => simp; omega
                intro v' w5 hown5 hg5
                obtain ⟨ao', cap', rfl⟩ := hown5.form
                have hS := step_num HI.out HN.out hlt hg3 HC3.out (grown_new w3 _) hown5 hg5
                rw [List.length_append, List.length_singleton] at hS
                have HS := hide hS
                clear hS hown5
                have hw : w5.cell? ⟨w.heap.size, 0, none⟩ = some (.slice ao xs.length cap) ∧ w5.frozen? ⟨w.heap.size, 0, none⟩ = false := side_num HI.out hg3 (grown_new w3 _) hg5
                obtain ⟨m0, m1⟩ := hw
                refine hK _ _ ?_
                clear hK K
                refine wpAny_ready (rs := [5]) (by kernel_rfl) (by simp) ?_
                refine AllReady.cons rfl (fun K hK => ?_) AllReady.nil
                go_simp
                refine hK _ _ ?_
                clear hK K
                refine wpAny_done (by kernel_rfl) ?_ _
                go_wp2
                go_roundg (s.size - q)
                case measure => omega
                case rel => exact ⟨q, _, _, rfl, HS.out⟩
            · rw [HN.out] at hx; cases hx
    · go_wp2
      refine leaves_cons (f := 38) (args := #[.pointer (some ⟨w.heap.size, 0, none⟩), .pointer (some ⟨w.heap.size + 1, 0, none⟩)]) (by simp) (by simp [go_sem]) ?_
      refine (idle_num _ _ _).mono ?_
      rintro e u' w'' ⟨rfl, rfl, rfl⟩
      simp [Leaves, settle, results, Try.results27, go_sem, c0, c1]
      obtain ⟨hg, -, -, -, -, hown, -, hall⟩ := HI.out
      refine ⟨_, _, rfl, row_set (row_set hg (by omega)) (by omega), .inl ⟨xs, ?_, rfl, ?_⟩⟩
      · rw [hall, allF_end (by omega)]; simp
      · exact ((hown.kept (grown_set _ _ _ _) (fun g e => by cases e; omega)).kept (grown_set _ _ _ _) (fun g e => by cases e; omega)).base_le (by omega)

end Go.Proofs.Ytoadpjegdhlphaa
