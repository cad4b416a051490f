/- The order of work out of waits and readers, by the walk. -/
import Derived.Test.YtmdpeckeliplkaaDoorGFoundJ
namespace Go.Proofs.YtmdpeckeliplkaaDoor
open Go.RowKit

/-- All that a node's readers wait for is one less. -/
def decAll (W : List Int) (rs : List Int) : List Int := rs.foldl (fun W r => W.set r.toNat (W.getD r.toNat 0 - 1)) W

/-- The least that waits for none, again and again. -/
def ordF : Nat → List Int → List (List Int) → List Int
  | 0, _, _ => []
  | f + 1, W, R => match W.findIdx? (fun z => z == 0) with
    | none => []
    | some i => (i : Int) :: ordF f (decAll (W.set i (-1)) (R.getD i [])) R

/-- How many are not taken yet, or more. -/
def nn (W : List Int) : Nat := W.countP (fun z => decide (0 ≤ z))

theorem decAll_len (W rs : List Int) : (decAll W rs).length = W.length := by
  unfold decAll
  induction rs generalizing W with
  | nil => rfl
  | cons r rs ih => rw [List.foldl_cons, ih]; simp

theorem nn_set_le {x z : Int} : ∀ {W : List Int} {i : Nat}, W[i]? = some z → x ≤ z → nn (W.set i x) ≤ nn W
  | [], i, h, _ => by simp at h
  | y :: W, 0, h, hx => by
    obtain rfl : y = z := by simpa using h
    unfold nn
    rw [List.set_cons_zero, List.countP_cons, List.countP_cons]
    by_cases h0 : 0 ≤ x
    · have h1 : 0 ≤ y := by omega
      simp [h0, h1]
    · simp [h0]
  | y :: W, i + 1, h, hx => by
    have ih := nn_set_le (W := W) (i := i) (by simpa using h) hx
    unfold nn at ih ⊢
    rw [List.set_cons_succ, List.countP_cons, List.countP_cons]
    omega

theorem nn_set_lt : ∀ {W : List Int} {i : Nat}, W[i]? = some 0 → nn (W.set i (-1)) + 1 = nn W
  | [], i, h => by simp at h
  | y :: W, 0, h => by
    obtain rfl : y = 0 := by simpa using h
    unfold nn
    rw [List.set_cons_zero, List.countP_cons, List.countP_cons]
    simp
  | y :: W, i + 1, h => by
    have ih := nn_set_lt (W := W) (i := i) (by simpa using h)
    unfold nn at ih ⊢
    rw [List.set_cons_succ, List.countP_cons, List.countP_cons]
    omega

theorem nn_dec (W rs : List Int) : nn (decAll W rs) ≤ nn W := by
  unfold decAll
  induction rs generalizing W with
  | nil => exact Nat.le_refl _
  | cons r rs ih =>
    rw [List.foldl_cons]
    refine Nat.le_trans (ih _) ?_
    by_cases hr : r.toNat < W.length
    · exact nn_set_le (z := W.getD r.toNat 0) (by rw [List.getD, List.getElem?_eq_getElem hr]; rfl) (by omega)
    · rw [List.set_eq_of_length_le (by omega)]
      exact Nat.le_refl _

theorem dec_step (W : List Int) (rs : List Int) {j : Nat} (hj : j < rs.length) : decAll W (rs.take (j + 1)) = (decAll W (rs.take j)).set rs[j].toNat ((decAll W (rs.take j)).getD rs[j].toNat 0 - 1) := by
  unfold decAll
  rw [List.take_add_one, List.getElem?_eq_getElem hj, List.foldl_append]
  rfl

theorem mem_set_or {l : List Int} {i : Nat} {x z : Int} (h : z ∈ l.set i x) : z ∈ l ∨ z = x := List.mem_or_eq_of_mem_set h

theorem getD_mem_or (l : List Int) (i : Nat) (hi : i < l.length) : l.getD i 0 ∈ l := by
  rw [List.getD, List.getElem?_eq_getElem hi]
  exact List.getElem_mem hi

theorem dec_bound {U : Int} {rs : List Int} : ∀ {W : List Int} {b : Int}, (∀ z ∈ W, -b ≤ z ∧ z ≤ U) → (∀ r ∈ rs, 0 ≤ r ∧ r < W.length) → ∀ z ∈ decAll W rs, -(b + rs.length) ≤ z ∧ z ≤ U := by
  unfold decAll
  induction rs with
  | nil => intro W b h _ z hz; have := h z hz; simp; omega
  | cons r rs ih =>
    intro W b h hr z hz
    rw [List.foldl_cons] at hz
    have hr0 := hr r (by simp)
    have hm := h _ (getD_mem_or W r.toNat (by omega))
    have := ih (W := W.set r.toNat (W.getD r.toNat 0 - 1)) (b := b + 1) (fun y hy => by
      rcases mem_set_or hy with h1 | h1
      · have := h y h1; omega
      · omega) (fun y hy => by rw [List.length_set]; exact hr y (by simp [hy])) z hz
    rw [List.length_cons]
    omega

theorem grown_same_row {a b c : World} {row : Option Nat} (h : a.grownBy b row) {r' : Option Nat} (k : b.grownBy c r') (hr : ∀ g, r' = some g → a.heap.size ≤ g) : a.grownBy c row :=
  ⟨k.os.trans h.os, k.tape.trans h.tape, k.output.trans h.output, Nat.le_trans h.size k.size, fun i hi hne => (k.block i (Nat.lt_of_lt_of_le hi h.size) (fun e => by have := hr i e.symm; omega)).trans (h.block i hi hne)⟩

theorem grown_any {a b : World} (h : a.grownBy b none) (row : Option Nat) : a.grownBy b row := ⟨h.os, h.tape, h.output, h.size, fun i hi _ => h.block i hi (by simp)⟩

/-- The call's own row of numbers. -/
def OwnW (w : World) (base B : Nat) (W : List Int) : Prop := w.ownsRow base 3 1 (.slice (some ⟨B, 0, none⟩) W.length W.length) W.length (W.map (Value.int .i64))

theorem OwnW.at {w : World} {base B : Nat} {W : List Int} (h : OwnW w base B W) {k : Nat} (hk : k < W.length) : w.cell? ⟨B, k, none⟩ = some (.int .i64 (W.getD k 0)) ∧ w.frozen? ⟨B, k, none⟩ = false := by
  refine ⟨?_, World.ownsRow.frozenAt h k⟩
  rw [World.ownsRow.cellAt h k (by omega)]
  simp [List.getD, hk]

theorem OwnW.set {w : World} {base B : Nat} {W : List Int} (h : OwnW w base B W) (k : Nat) (x : Int) : OwnW (w.setCell ⟨B, k, none⟩ (.int .i64 x)) base B (W.set k x) ∧ w.grownBy (w.setCell ⟨B, k, none⟩ (.int .i64 x)) (some B) := by
  have s := World.ownsRow.stored h k (.int .i64 x)
  rw [← List.map_set] at s
  refine ⟨?_, s.2⟩
  unfold OwnW
  rw [List.length_set]
  exact s.1

theorem OwnW.lt {w : World} {base B : Nat} {W : List Int} (h : OwnW w base B W) : base ≤ B ∧ B < w.heap.size := World.ownsRow.lt h B rfl

/-- Who reads each node's value, whatever is done to one block alone. -/
def Rds (w : World) (v : Sl) (R : List (List Int)) (B : Nat) : Prop := v.n = R.length ∧ ∀ (k : Nat), k < R.length → ∃ (b off : Nat) (s : Sl), v.a = some ⟨b, off, none⟩ ∧ ∀ wx, w.grownBy wx (some B) → wx.cell? ⟨b, off + k, none⟩ = some (.slice s.a s.n s.c) ∧ IsInts wx s.v (R.getD k [])

theorem Rds.step {w w' : World} {v : Sl} {R : List (List Int)} {B : Nat} (h : Rds w v R B) (hg : w.grownBy w' (some B)) : Rds w' v R B :=
  ⟨h.1, fun k hk => by
    obtain ⟨b, off, s, e, hc⟩ := h.2 k hk
    exact ⟨b, off, s, e, fun wx hx => hc wx (grown_same hg hx)⟩⟩

theorem ints_addrG {w : World} {a : Option Addr} {l c : Nat} {zs : List Int} (h : IsInts w (.slice a l c) zs) {k : Nat} (hk : k < zs.length) : ∃ b off, a = some ⟨b, off, none⟩ ∧ w.cell? ⟨b, off + k, none⟩ = some (.int .i64 (zs.getD k 0)) := by
  obtain ⟨a', c', e, -, -, -, -, h5, -⟩ := h
  obtain ⟨b, off, ho, hc⟩ := h5 (by omega)
  simp only [Value.slice.injEq] at e
  exact ⟨b, off, e.1.trans ho, hc k hk⟩

theorem find_zero {W : List Int} {k : Nat} (hk : k < W.length) (h0 : W.getD k 0 = 0) (hb : ∀ j, j < k → W.getD j 0 ≠ 0) : W.findIdx? (fun z => z == 0) = some k := by
  rw [List.findIdx?_eq_some_iff_getElem]
  refine ⟨hk, ?_, fun j hj => ?_⟩
  · rw [List.getD, List.getElem?_eq_getElem hk] at h0
    simpa using h0
  · have := hb j hj
    rw [List.getD, List.getElem?_eq_getElem (by omega)] at this
    simpa using this

theorem find_no_zero {W : List Int} (hb : ∀ j, j < W.length → W.getD j 0 ≠ 0) : W.findIdx? (fun z => z == 0) = none := by
  rw [List.findIdx?_eq_none_iff]
  intro x hx
  obtain ⟨j, hj, rfl⟩ := List.getElem_of_mem hx
  have := hb j hj
  rw [List.getD, List.getElem?_eq_getElem hj] at this
  simpa using this

/-- Where the order stands: what is taken, and what waits. -/
structure OSt (w0 wr : World) (base B n : Nat) (T : List Int) (R : List (List Int)) (l : Value) (acc W : List Int) (f : Nat) : Prop where
  grown : w0.grownBy wr (some B)
  own : OwnW wr base B W
  len : W.length = n
  list : Owns wr w0.heap.size l acc
  rest : acc ++ ordF f W R = T
  few : nn W ≤ f
  all : acc.length + nn W ≤ n
  bound : ∀ z ∈ W, -((acc.length : Int) * 2147483648 + 1) ≤ z ∧ z ≤ 1099511627776

def lenV : Value → Nat
  | .slice _ n _ => n
  | _ => 0

set_option maxRecDepth 100000 in
set_option maxHeartbeats 6400000 in
theorem inorder_any (B base : Nat) (vr : Sl) (W0 : List Int) (R : List (List Int)) (w : World) (hW : OwnW w base B W0) (hR : Rds w vr R B) (hRl : R.length = W0.length) (hRb : ∀ r ∈ R, r.length ≤ 1073741824 ∧ ∀ z ∈ r, 0 ≤ z ∧ z < W0.length) (hWb : ∀ z ∈ W0, 0 ≤ z ∧ z ≤ 1099511627776) (hn : W0.length ≤ 1048576) :
    Calls Tryd.prog 57 #[.agg #[.slice (some ⟨B, 0, none⟩) W0.length W0.length, .slice vr.a vr.n vr.c]] w fun e w' => ∃ u : Sl, e = .returned u.v ∧ Owns w' w.heap.size u.v (ordF W0.length W0 R) ∧ w.grownBy w' (some B) := by
  obtain ⟨i0, hi, hz0, hz1, hz2⟩ := info_parts infoInt
  obtain ⟨ra, rn, rc⟩ := vr
  simp only
  obtain ⟨T, hT⟩ : ∃ T, T = ordF W0.length W0 R := ⟨_, rfl⟩
  have hBw := hW.lt.2
  obtain ⟨n, hN⟩ : ∃ n, n = W0.length := ⟨_, rfl⟩
  have hrn : rn = n := (show rn = R.length from hR.1).trans (hRl.trans hN.symm)
  rw [hrn] at hR ⊢
  clear hrn
  obtain ⟨w0, hw0⟩ : ∃ w0, w0 = w.alloc (.cells #[.slice (some ⟨B, 0, none⟩) n n, .slice ra n rc] 100) := ⟨_, rfl⟩
  have g0 : w.grownBy w0 none := by rw [hw0]; exact grown_new _ _
  have b0 := heap_alloc_new w (.cells #[.slice (some ⟨B, 0, none⟩) n n, .slice ra n rc] 100)
  rw [← hw0] at b0
  have BX : Hid (∀ wx, w0.grownBy wx (some B) → wx.cell? ⟨w.heap.size, 0, none⟩ = some (.slice (some ⟨B, 0, none⟩) n n) ∧ wx.cell? ⟨w.heap.size, 1, none⟩ = some (.slice ra n rc)) := fun wx hx => by
    have hb : wx.heap[w.heap.size]? = some (.cells #[.slice (some ⟨B, 0, none⟩) n n, .slice ra n rc] 100 (0, 0)) := (hx.block w.heap.size (by rw [hw0]; simp) (fun e => by injection e with e; omega)).trans b0
    exact ⟨(cell_of_row _ _ 0 _ _ (0, 0) hb).trans rfl, (cell_of_row _ _ 1 _ _ (0, 0) hb).trans rfl⟩
  have RD : Hid (Rds w0 ⟨ra, n, rc⟩ R B) := hR.step (grown_any g0 _)
  have ST0 : Hid (OSt w0 w0 base B n T R (.slice none 0 0) [] W0 n) := by
    refine ⟨World.grownBy.refl _ _, World.ownsRow.kept hW g0 (Or.inr (by simp [Value.ownBlock])), hN.symm, ⟨World.ownsRow_nil _ _ _ _, by simp, by simp⟩, by rw [hT, hN]; rfl, ?_, ?_, fun z hz => ?_⟩
    · rw [hN]; exact List.countP_le_length
    · rw [hN]; have : nn W0 ≤ W0.length := List.countP_le_length; simpa using this
    · have := hWb z hz; simp; omega
  have HRB : Hid (∀ k, k < n → (R.getD k []).length ≤ 1073741824 ∧ ∀ z ∈ R.getD k [], 0 ≤ z ∧ z < n) := fun k hk => by
    rw [List.getD, List.getElem?_eq_getElem (by omega)]
    have := hRb _ (List.getElem_mem (l := R) (n := k) (by omega))
    rw [← hN] at this; exact this
  have HRL : Hid (R.length = n) := hRl.trans hN.symm
  rw [← hT, ← hN]
  rw [← hN] at hn
  clear hT hN hW hR hRl hRb hWb b0
  go_enter Tryd.func57, Tryd.ntmps57
  go_wp2_with fail
  rw [← hw0]
  clear hw0
  go_step3
  go_wp2_with fail
  go_step3
  go_wp2_with fail
  go_loopg [3] n (fun gh l wr => ∃ (acc W : List Int) (f : Nat), gh = n - acc.length ∧ OSt w0 wr base B n T R l acc W f)
  case atStart => exact ⟨[], W0, n, by simp, ST0.out⟩
  case round =>
    obtain ⟨acc, W, f, hgk, hst⟩ := hrel
    have HS := hide hst
    obtain ⟨r0, r1⟩ := BX.out wr hst.grown
    obtain ⟨la, lc, rfl⟩ := own_form hst.list.1
    have hWl := hst.len
    have hal := hst.all
    have hsz := hst.grown.size
    clear hst
    obtain ⟨wp, hwp⟩ : ∃ wp, wp = wr := ⟨_, rfl⟩
    rw [← hwp] at HS r0 r1 hsz ⊢
    clear hwp
    go_wp2_with fail
    clear r0 r1
    go_loopg [3, 11] n (fun g2 l i wx => wx = wp ∧ l = .slice la acc.length lc ∧ ∃ k : Nat, g2 = n - k ∧ k ≤ n ∧ i = .int .i64 k ∧ ∀ j, j < k → W.getD j 0 ≠ 0)
    case atStart => exact ⟨rfl, rfl, 0, rfl, Nat.zero_le _, rfl, fun j hj => by omega⟩
    case round =>
      obtain ⟨rfl, rfl, k, hg2, hk, rfl, hnz⟩ := hrel
      have HNZ := hide hnz
      clear hnz
      by_cases hlt : k < n
      · obtain ⟨c0, c1⟩ := HS.out.own.at (k := k) (by omega)
        by_cases hz : W.getD k 0 = 0
        · have HZ := hide hz
          rw [hz] at c0
          have OW : Hid (∀ o, Owns (wr.alloc o) w0.heap.size (.slice la acc.length lc) acc) := fun o => HS.out.list.new (grown_new _ _)
          have hacc : acc.length ≤ 1048576 := by omega
          obtain ⟨hrn, hrd⟩ := RD.out
          obtain ⟨b, off, ⟨sa, sn, sc⟩, hra, hcl⟩ := hrd k (by rw [HRL.out]; exact hlt)
          have hra : ra = some ⟨b, off, none⟩ := hra
          clear hrn
          subst hra
          obtain ⟨sa', sc', hsv, s1, s2, s3, -⟩ := (hcl w0 (World.grownBy.refl _ _)).2
          obtain ⟨rfl, rfl, rfl⟩ : sa = sa' ∧ sn = (R.getD k []).length ∧ sc = sc' := by simpa [Sl.v] using hsv
          obtain ⟨hrl, hrz⟩ := HRB.out k hlt
          obtain ⟨RK, hRK⟩ : ∃ RK, RK = R.getD k [] := ⟨_, rfl⟩
          have HRK := hide hRK
          have CL := hide hcl
          simp only [Sl.v] at CL
          rw [← hRK] at CL hrl hrz s1 s3
          have HRZ := hide hrz
          have FX : Hid (∀ (w8 : World) (na : Option Addr) (nc : Nat), w8.ownsRow w0.heap.size 3 1 (.slice na (acc.length + 1) nc) (acc.length + 1) (acc.map (Value.int .i64) ++ [.int .i64 (k : Int)]) → (wr.alloc (.cells #[.int .i64 (k : Int)] 3)).grownBy w8 (Value.slice la acc.length lc).ownBlock →
              w8.cell? ⟨w.heap.size, 0, none⟩ = some (.slice (some ⟨B, 0, none⟩) n n) ∧ w8.cell? ⟨B, k, none⟩ = some (.int .i64 0) ∧ w8.frozen? ⟨B, k, none⟩ = false ∧ (w8.setCell ⟨B, k, none⟩ (.int .i64 (-1))).cell? ⟨w.heap.size, 1, none⟩ = some (.slice (some ⟨b, off, none⟩) n rc) ∧ (w8.setCell ⟨B, k, none⟩ (.int .i64 (-1))).cell? ⟨b, off + k, none⟩ = some (.slice sa RK.length sc) ∧
              w0.grownBy (w8.setCell ⟨B, k, none⟩ (.int .i64 (-1))) (some B) ∧ OwnW (w8.setCell ⟨B, k, none⟩ (.int .i64 (-1))) base B (W.set k (-1)) ∧ Owns (w8.setCell ⟨B, k, none⟩ (.int .i64 (-1))) w0.heap.size (.slice na (acc.length + 1) nc) (acc ++ [(k : Int)])) := by
            intro w8 na nc ho hg
            have hs := HS.out
            have hB0 : B < w0.heap.size := by have := g0.size; omega
            have gg : w0.grownBy w8 (some B) := grown_same_row (grown_same_row hs.grown (grown_new _ _) (fun g e => by cases e)) hg (fun g e => (hs.list.lt g e).1)
            have own8 : OwnW w8 base B W := World.ownsRow.kept (World.ownsRow.kept hs.own (grown_new _ _) (Or.inr (by simp [Value.ownBlock]))) hg (Or.inr (fun e => by have := (hs.list.lt B e.symm).1; omega))
            have s9 := own8.set k (-1)
            have g9 := grown_same gg s9.2
            have c8 := own8.at (k := k) (by rw [hs.len]; exact hlt)
            rw [HZ.out] at c8
            refine ⟨(BX.out w8 gg).1, c8.1, c8.2, (BX.out _ g9).2, (CL.out _ g9).1, g9, s9.1, ?_, ?_, fun z hz => ?_⟩
            · rw [List.length_append, List.map_append]
              exact World.ownsRow.kept ho s9.2 (by
                by_cases e : (Value.slice na (acc.length + 1) nc).ownBlock = none
                · exact Or.inl e
                · exact Or.inr (fun e2 => by have := (World.ownsRow.lt ho B e2).1; omega))
            · simp; omega
            · rcases List.mem_append.1 hz with h | h
              · exact hs.list.2.2 z h
              · simp at h; omega
          clear c1 hcl hrd hsv hRK hrz hz
          go_wp2_with (at_builtin; refine wpList_append_own _ rfl (.tmp 18) (.tmp 20) 40 rfl w0.heap.size 3 i0 (.int .i64 0) 1 8 Tryd.underlying40 hi hz0 hz1 hz2 rfl (by decide) _ _ _ rfl (by exact (OW.out _).1) ⟨wr.heap.size, 0, none⟩ 1 1 [.int .i64 (k : Int)] rfl rfl (by have h := cell_one_new wr (Value.int .i64 (k : Int)) 3; simpa using h) (by simp [Value.oneCell']) (by simp only [maxLen]; omega) (by omega) (by simp; omega) ?_; intro v' w8 hown' hgrow _; obtain ⟨na, nc, rfl⟩ := own_form hown'; obtain ⟨q1, q2, q3, q4, q5, q6, q7, q8⟩ := FX.out w8 na nc hown' hgrow; have HQ6 := hide q6; have HQ7 := hide q7; have HQ8 := hide q8; clear q6 q7 q8 hown' hgrow)
          clear q1 q2 q3 q4 q5
          generalize hwS : w8.setCell ⟨B, k, none⟩ (.int .i64 (-1)) = wS at HQ6 HQ7 HQ8 ⊢
          clear hwS
          go_loopg [32] RK.length (fun g3 j wx => ∃ t : Nat, g3 = RK.length - t ∧ t ≤ RK.length ∧ j = .int .i64 t ∧ wS.grownBy wx (some B) ∧ OwnW wx base B (decAll (W.set k (-1)) (RK.take t)))
          case atStart => exact ⟨0, rfl, Nat.zero_le _, rfl, World.grownBy.refl _ _, HQ7.out⟩
          case round =>
            obtain ⟨t, hg3, ht, rfl, hgx, hox⟩ := hrel
            have HOX := hide hox
            have HGX := hide (grown_same HQ6.out hgx)
            have HGY := hide hgx
            clear hox hgx
            by_cases htl : t < RK.length
            · have HI := (CL.out wr HGX.out).2
              obtain ⟨sb, so, rfl, d0⟩ := ints_addrG HI (k := t) htl
              have hz0' := HRZ.out (RK.getD t 0) (getD_mem_or _ _ htl)
              obtain ⟨q, hq⟩ : ∃ q : Nat, RK.getD t 0 = (q : Int) := ⟨(RK.getD t 0).toNat, by omega⟩
              have hql : q < n := by omega
              rw [hq] at d0
              have HQ : Hid (RK[t].toNat = q) := by
                show _ = _
                rw [List.getD, List.getElem?_eq_getElem htl] at hq
                have : RK[t] = (q : Int) := hq
                omega
              have HLD : Hid ((decAll (W.set k (-1)) (RK.take t)).length = n) := by show _ = _; rw [decAll_len, List.length_set]; exact hWl
              obtain ⟨c2, c3⟩ := HOX.out.at (k := q) (by rw [HLD.out]; exact hql)
              have hbd := dec_bound (rs := RK.take t) (W := W.set k (-1)) (b := (acc.length : Int) * 2147483648 + 1) (U := 1099511627776) (fun z hz => by
                rcases mem_set_or hz with h | h
                · exact HS.out.bound z h
                · omega) (fun r hr => by rw [List.length_set, hWl]; exact HRZ.out r (List.mem_of_mem_take hr)) _ (getD_mem_or _ q (by rw [HLD.out]; exact hql))
              rw [List.length_take] at hbd
              have HST := hide (HOX.out.set q ((decAll (W.set k (-1)) (RK.take t)).getD q 0 - 1))
              have HDS := hide (dec_step (W.set k (-1)) RK htl)
              obtain ⟨X, hX⟩ : ∃ X, X = (decAll (W.set k (-1)) (RK.take t)).getD q 0 := ⟨_, rfl⟩
              rw [← hX] at c2 hbd HST
              rw [HQ.out, ← hX] at HDS
              have hX1 : -4503599627370496 ≤ X := by omega
              have hX2 : X ≤ 1099511627776 := hbd.2
              obtain ⟨b0', -⟩ := BX.out wr HGX.out
              clear HI hz0' hq hX hbd
              go_wp2_with fail
              go_roundg (RK.length - (t + 1))
              case measure => omega
              case rel => exact ⟨t + 1, rfl, by omega, by go_num, grown_same HGY.out HST.out.2, by rw [HDS.out]; exact HST.out.1⟩
            · obtain rfl : t = RK.length := by omega
              rw [List.take_of_length_le (Nat.le_refl _)] at HOX
              have hpos : acc.length + 1 ≤ n := by
                have hk0 : W[k]? = some 0 := by
                  have := HZ.out
                  rw [List.getD, List.getElem?_eq_getElem (by omega)] at this
                  rw [List.getElem?_eq_getElem (by omega)]
                  exact congrArg some this
                have := nn_set_lt hk0
                omega
              have FIN : Hid (OSt w0 wr base B n T R (.slice na (acc.length + 1) nc) (acc ++ [(k : Int)]) (decAll (W.set k (-1)) RK) (f - 1)) := by
                have hs := HS.out
                have hk0 : W[k]? = some 0 := by
                  have := HZ.out
                  rw [List.getD, List.getElem?_eq_getElem (by omega)] at this
                  rw [List.getElem?_eq_getElem (by omega)]
                  exact congrArg some this
                have n1 := nn_set_lt hk0
                have n2 := nn_dec (W.set k (-1)) RK
                have hf := hs.few
                refine ⟨HGX.out, HOX.out, by rw [decAll_len, List.length_set]; exact hWl, HQ8.out.more HGY.out ?_, ?_, by omega, by rw [List.length_append]; simp; omega, fun z hz => ?_⟩
                · by_cases e : (Value.slice na (acc.length + 1) nc).ownBlock = none
                  · exact Or.inl e
                  · exact Or.inr (fun e2 => by have := (HQ8.out.lt B e2).1; have := g0.size; omega)
                · have hr := hs.rest
                  obtain ⟨f', rfl⟩ : ∃ f', f = f' + 1 := ⟨f - 1, by omega⟩
                  unfold ordF at hr
                  rw [find_zero (by omega) HZ.out HNZ.out] at hr
                  rw [Nat.add_sub_cancel, List.append_assoc, HRK.out]
                  exact hr
                · have := dec_bound (rs := RK) (W := W.set k (-1)) (b := (acc.length : Int) * 2147483648 + 1) (U := 1099511627776) (fun z hz => by
                    rcases mem_set_or hz with h | h
                    · exact hs.bound z h
                    · omega) (fun r hr => by rw [List.length_set, hWl]; exact HRZ.out r hr) z hz
                  rw [List.length_append]
                  simp only [List.length_cons, List.length_nil, Nat.zero_add]
                  omega
              go_wp2_with fail
              go_roundg (n - (acc.length + 1))
              case measure => omega
              case rel => exact ⟨_, _, _, by simp, FIN.out⟩
        · have hzb : (W.getD k 0 != 0) = true := by simpa using hz
          have HN : Hid (∀ j, j < k + 1 → W.getD j 0 ≠ 0) := fun j hj => by
            by_cases e : j = k
            · rw [e]; exact hz
            · exact HNZ.out j (by omega)
          obtain ⟨Z, hZ⟩ : ∃ Z, Z = W.getD k 0 := ⟨_, rfl⟩
          rw [← hZ] at c0 hzb
          clear hz hZ
          go_wp2_with fail
          go_roundg (n - (k + 1))
          case measure => omega
          case rel => exact ⟨by trivial, rfl, k + 1, rfl, by omega, by go_num, HN.out⟩
      · obtain rfl : k = n := by omega
        have E : Hid (acc = T) := by
          show _ = _
          have h := HS.out.rest
          have e : ordF f W R = [] := by
            cases f with
            | zero => rfl
            | succ f => unfold ordF; rw [find_no_zero (fun j hj => HNZ.out j (by omega))]
          rw [e, List.append_nil] at h
          exact h
        go_wp2_with fail
        try rw [Exit.noGoto_ret]
        go_ret
        exact ⟨⟨la, acc.length, lc⟩, rfl, by rw [← E.out]; exact HS.out.list.base_le (by have := g0.size; omega), grown_same (grown_any g0 _) HS.out.grown⟩
end Go.Proofs.YtmdpeckeliplkaaDoor
