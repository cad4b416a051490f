/- Joined texts: RdP, RdGr. -/
import Derived.Test.YtahmmilhmoogbaaGreatDoorPartAU
import Derived.Test.YtahmmilhmoogbaaGreatDoorPartAT
import Derived.Deep.AppendLies
namespace Go.Proofs.YtahmmilhmoogbaaGreatDoor

open Go.RowKit

def plF : List Int → List Bool → List Int → List Int
  | d :: ds, g :: gs, ps => plF ds gs (furF d.toNat g ps)
  | _, _, ps => ps

def cntF : List Int → List Bool → Nat
  | d :: ds, g :: gs => (if g = true then 1 else d.toNat) * cntF ds gs
  | _, _ => 1

theorem plF_snoc (d : Int) (g : Bool) : ∀ (ds : List Int) (gs : List Bool) (ps : List Int), ds.length = gs.length → plF (ds ++ [d]) (gs ++ [g]) ps = furF d.toNat g (plF ds gs ps)
  | [], [], ps, _ => rfl
  | a :: ds, b :: gs, ps, h => by
    simp only [List.cons_append, plF]
    exact plF_snoc d g ds gs _ (by simpa using h)
  | [], _ :: _, _, h => by simp at h
  | _ :: _, [], _, h => by simp at h

theorem cntF_snoc (d : Int) (g : Bool) : ∀ (ds : List Int) (gs : List Bool), ds.length = gs.length → cntF (ds ++ [d]) (gs ++ [g]) = cntF ds gs * (if g = true then 1 else d.toNat)
  | [], [], _ => by simp [cntF]
  | a :: ds, b :: gs, h => by
    simp only [List.cons_append, cntF]
    rw [cntF_snoc d g ds gs (by simpa using h), Nat.mul_assoc]
  | [], _ :: _, h => by simp at h
  | _ :: _, [], h => by simp at h

theorem furF_mem {d : Nat} {g : Bool} {ps : List Int} {m : Nat} (h : ∀ p ∈ ps, 0 ≤ p ∧ p < m) : ∀ z ∈ furF d g ps, 0 ≤ z ∧ z < ((m * (if g = true then 1 else d) : Nat) : Int) := by
  intro z hz
  unfold furF at hz
  obtain ⟨p, hp, hz⟩ := List.mem_flatMap.1 hz
  obtain ⟨c, hc, rfl⟩ := List.mem_map.1 hz
  have hcd := List.mem_range.1 hc
  obtain ⟨h1, h2⟩ := h p hp
  cases g with
  | true => simp only [furG, if_true, Nat.mul_one]; exact ⟨h1, h2⟩
  | false =>
    have e1 : (p + 1) * (d : Int) ≤ (m : Int) * (d : Int) := Int.mul_le_mul_of_nonneg_right (by omega) (Int.natCast_nonneg _)
    have e2 : 0 ≤ p * (d : Int) := Int.mul_nonneg h1 (Int.natCast_nonneg _)
    rw [Int.add_mul, Int.one_mul] at e1
    simp only [furG, Bool.false_eq_true, if_false]
    rw [Int.natCast_mul]
    omega

structure Pls (x : List Int) (gone : List Bool) : Prop where
  len : ((plF x gone [0]).length : Int) = prod x
  mem : ∀ p ∈ plF x gone [0], 0 ≤ p ∧ p < (cntF x gone : Int)
  cnt : (cntF x gone : Int) ≤ prod x
  one : 1 ≤ cntF x gone

theorem pls_any : ∀ (n : Nat) (x : List Int) (gone : List Bool), x.length = n → gone.length = n → (∀ z ∈ x, 1 ≤ z) → Pls x gone
  | 0, x, gone, h1, h2, _ => by
    rw [List.length_eq_zero_iff.1 h1, List.length_eq_zero_iff.1 h2]
    exact ⟨rfl, fun p hp => by simp [plF] at hp; subst hp; simp [cntF], by simp [cntF, prod], by simp [cntF]⟩
  | n + 1, x, gone, h1, h2, hp => by
    obtain ⟨ds, d, rfl⟩ : ∃ ds d, x = ds ++ [d] := ⟨x.dropLast, x.getLast (by intro e; rw [e] at h1; simp at h1), (List.dropLast_concat_getLast _).symm⟩
    obtain ⟨gs, g, rfl⟩ : ∃ gs g, gone = gs ++ [g] := ⟨gone.dropLast, gone.getLast (by intro e; rw [e] at h2; simp at h2), (List.dropLast_concat_getLast _).symm⟩
    have e1 : ds.length = n := by simpa using h1
    have e2 : gs.length = n := by simpa using h2
    have ih := pls_any n ds gs e1 e2 (fun z hz => hp z (List.mem_append_left _ hz))
    have hd : 1 ≤ d := hp d (by simp)
    have dn : ((d.toNat : Nat) : Int) = d := Int.toNat_of_nonneg (by omega)
    have hpd : prod (ds ++ [d]) = prod ds * d := by rw [prod_append]; simp [prod]
    have hp0 : 0 ≤ prod ds := by have := ih.cnt; omega
    have m1 : prod ds * 1 ≤ prod ds * d := Int.mul_le_mul_of_nonneg_left hd hp0
    refine ⟨?_, ?_, ?_, ?_⟩
    · rw [plF_snoc d g ds gs _ (by omega), furF_len, Int.natCast_mul, ih.len, dn, hpd]
    · rw [plF_snoc d g ds gs _ (by omega), cntF_snoc d g ds gs (by omega)]
      exact furF_mem ih.mem
    · rw [cntF_snoc d g ds gs (by omega), hpd, Int.natCast_mul]
      cases g with
      | true => simp only [if_true]; have := ih.cnt; omega
      | false =>
        simp only [Bool.false_eq_true, if_false]
        rw [dn]
        exact Int.mul_le_mul_of_nonneg_right ih.cnt (by omega)
    · rw [cntF_snoc d g ds gs (by omega)]
      cases g with
      | true => simpa using ih.one
      | false => simp only [Bool.false_eq_true, if_false]; exact Nat.mul_pos ih.one (by omega)

def grpR (pl : List Int) (k p : Nat) : List Int := ((List.range k).filter fun i => pl.getD i 0 == (p : Int)).map Int.ofNat
def grpL (pl : List Int) (n k : Nat) : List (List Int) := (List.range n).map (grpR pl k)

theorem grpL_len (pl : List Int) (n k : Nat) : (grpL pl n k).length = n := by simp [grpL]

theorem grpL_at (pl : List Int) (n k m : Nat) (h : m < n) : (grpL pl n k).getD m [] = grpR pl k m := by
  simp [grpL, List.getD, h]

theorem grpR_step (pl : List Int) (k p : Nat) : grpR pl (k + 1) p = grpR pl k p ++ (if pl.getD k 0 == (p : Int) then [(k : Int)] else []) := by
  unfold grpR
  rw [List.range_succ, List.filter_append, List.map_append]
  congr 1
  rw [List.filter_cons]
  split <;> simp

theorem grpL_step (pl : List Int) (n k m : Nat) (hm : m < n) (h : pl.getD k 0 = (m : Int)) : grpL pl n (k + 1) = (grpL pl n k).set m (grpR pl k m ++ [(k : Int)]) := by
  apply List.ext_getElem?
  intro i
  rw [List.getElem?_set]
  unfold grpL
  rw [List.length_map, List.length_range, List.getElem?_map, List.getElem?_map]
  by_cases hi : i < n
  · rw [List.getElem?_range hi]
    by_cases e : m = i
    · subst e
      rw [if_pos rfl, if_pos hm]
      simp only [Option.map_some]
      rw [grpR_step, h, if_pos (by simp)]
    · rw [if_neg e]
      simp only [Option.map_some]
      rw [grpR_step, h, if_neg (by simp; omega), List.append_nil]
  · rw [List.getElem?_eq_none (by simp; omega), if_neg (by omega)]
    rfl

theorem grpR_le (pl : List Int) (k p : Nat) : (grpR pl k p).length ≤ k := by
  unfold grpR
  rw [List.length_map]
  exact Nat.le_trans (List.length_filter_le _ _) (by simp)

theorem grpR_mem (pl : List Int) (k p : Nat) : ∀ z ∈ grpR pl k p, 0 ≤ z ∧ z < (k : Int) := by
  intro z hz
  unfold grpR at hz
  obtain ⟨i, hi, rfl⟩ := List.mem_map.1 hz
  have := List.mem_range.1 (List.mem_filter.1 hi).1
  exact ⟨Int.natCast_nonneg _, Int.ofNat_lt.2 this⟩

end Go.Proofs.YtahmmilhmoogbaaGreatDoor

namespace Go.Proofs.YtahmmilhmoogbaaGreatDoor

open Go.RowKit

theorem infoIntsR : (Tryz.prog.info? 22).map (fun i => (i.zero, i.size, i.bytes)) = some (some (.slice none 0 0), 1, 24) := by kernel_rfl

theorem getD_setR {α : Type} (l : List α) (m : Nat) (v d : α) (j : Nat) (hm : m < l.length) : (l.set m v).getD j d = if j = m then v else l.getD j d := by
  simp only [List.getD, List.getElem?_set]
  by_cases e : m = j
  · subst e; simp [hm]
  · rw [if_neg e, if_neg (fun h => e h.symm)]

theorem some_orR {v : Value} {row : Option Nat} (h : ∀ g, v.ownBlock = some g → some g ≠ row) : v.ownBlock = none ∨ v.ownBlock ≠ row := by
  cases e : v.ownBlock with
  | none => exact Or.inl rfl
  | some g => exact Or.inr (h g e)

theorem own_otherR {w : World} {b1 b2 t1 t2 s1 s2 n1 n2 : Nat} {v1 v2 : Value} {c1 c2 : List Value} (h1 : w.ownsRow b1 t1 s1 v1 n1 c1) (h2 : w.ownsRow b2 t2 s2 v2 n2 c2) (ht : t1 ≠ t2) {g : Nat} (e1 : v1.ownBlock = some g) (e2 : v2.ownBlock = some g) : False := by
  rcases h1.2 with ⟨rfl, -⟩ | ⟨x, cap, cur, rfl, -, hx, -⟩
  · cases e1
  · rcases h2.2 with ⟨rfl, -⟩ | ⟨y, cap2, cur2, rfl, -, hy, -⟩
    · cases e2
    · obtain rfl : x = g := by simpa [Value.ownBlock] using e1
      obtain rfl : y = x := by simpa [Value.ownBlock] using e2
      rw [hx] at hy
      exact ht (Obj.cells.inj (Option.some.inj hy)).2.1

def nilG : Sl := ⟨none, 0, 0⟩

structure Gr (w : World) (base Bw n : Nat) (R : List (List Int)) (rs : List Sl) : Prop where
  row : w.ownsRow base 22 1 (.slice (some ⟨Bw, 0, none⟩) n n) n (rs.map (fun s => .slice s.a s.n s.c))
  len : rs.length = n
  each : ∀ k, k < n → Owns w base (rs.getD k nilG).v (R.getD k [])
  apart : ∀ k, k < n → ∀ g, (rs.getD k nilG).v.ownBlock = some g → ∀ j, j < n → j ≠ k → (rs.getD j nilG).v.ownBlock ≠ some g

theorem Gr.ne {w : World} {base Bw n : Nat} {R : List (List Int)} {rs : List Sl} (h : Gr w base Bw n R rs) {k : Nat} (hk : k < n) {g : Nat} (e : (rs.getD k nilG).v.ownBlock = some g) : g ≠ Bw :=
  fun e2 => own_otherR (h.each k hk).1 h.row (by decide) e (by rw [e2]; rfl)

theorem Gr.new {w w' : World} {base Bw n : Nat} {R : List (List Int)} {rs : List Sl} (h : Gr w base Bw n R rs) (hg : w.grownBy w' none) : Gr w' base Bw n R rs :=
  ⟨World.ownsRow.kept h.row hg (Or.inr (by simp [Value.ownBlock])), h.len, fun k hk => (h.each k hk).new hg, h.apart⟩

theorem Gr.rd {w : World} {base Bw n : Nat} {R : List (List Int)} {rs : List Sl} (h : Gr w base Bw n R rs) {k : Nat} (hk : k < n) : w.cell? ⟨Bw, k, none⟩ = some (.slice (rs.getD k nilG).a (rs.getD k nilG).n (rs.getD k nilG).c) ∧ w.frozen? ⟨Bw, k, none⟩ = false := by
  have hl := h.len
  refine ⟨?_, World.ownsRow.frozenAt h.row k⟩
  rw [World.ownsRow.cellAt h.row k (by omega), List.getElem?_map, List.getD, List.getElem?_eq_getElem (by omega)]
  rfl

theorem Gr.app {w w1 : World} {base Bw n : Nat} {R : List (List Int)} {rs : List Sl} (h : Gr w base Bw n R rs) (hlR : R.length = n) {m : Nat} (hm : m < n) {v' : Sl} {i : Nat} (hg : w.grownBy w1 (rs.getD m nilG).v.ownBlock)
    (ho : w1.ownsRow base 3 1 v'.v ((R.getD m []).length + 1) ((R.getD m []).map (Value.int .i64) ++ [.int .i64 (i : Int)])) (hat : v'.v.ownBlock = (rs.getD m nilG).v.ownBlock ∨ v'.v.ownBlock = some w.heap.size) (hi : i ≤ 1048576) (hl : (R.getD m []).length ≤ 1048576) :
    w1.cell? ⟨Bw, m, none⟩ = some (.slice (rs.getD m nilG).a (rs.getD m nilG).n (rs.getD m nilG).c) ∧ w1.frozen? ⟨Bw, m, none⟩ = false ∧ Gr (w1.setCell ⟨Bw, m, none⟩ (.slice v'.a v'.n v'.c)) base Bw n (R.set m (R.getD m [] ++ [(i : Int)])) (rs.set m v') ∧ w1.grownBy (w1.setCell ⟨Bw, m, none⟩ (.slice v'.a v'.n v'.c)) (some Bw) := by
  have hlen : rs.length = n := h.len
  have r1 : w1.ownsRow base 22 1 (.slice (some ⟨Bw, 0, none⟩) n n) n (rs.map (fun s => .slice s.a s.n s.c)) :=
    World.ownsRow.kept h.row hg (Or.inr (fun e => h.ne hm e.symm rfl))
  have hv1 : ∀ g, v'.v.ownBlock = some g → ∀ j, j < n → j ≠ m → (rs.getD j nilG).v.ownBlock ≠ some g := by
    intro g e
    rcases hat with h1 | h1
    · exact h.apart m hm g (h1.symm.trans e)
    · have e2 : w.heap.size = g := by rw [h1] at e; injection e
      intro j hj hne e3
      have := ((h.each j hj).1.lt g e3).2
      omega
  have k1 : ∀ k, k < n → k ≠ m → Owns w1 base (rs.getD k nilG).v (R.getD k []) := fun k hk hne => (h.each k hk).more hg (some_orR fun g e e2 => h.apart k hk g e m hm (fun e3 => hne e3.symm) e2.symm)
  have own1 : Owns w1 base v'.v (R.getD m [] ++ [(i : Int)]) := by
    refine ⟨?_, ?_, fun z hz => ?_⟩
    · rw [List.length_append, List.map_append]; exact ho
    · rw [List.length_append, List.length_singleton]; omega
    · rcases List.mem_append.1 hz with h1 | h1
      · exact (h.each m hm).2.2 z h1
      · simp at h1; omega
  have nv : ∀ g, v'.v.ownBlock = some g → g ≠ Bw := fun g e e2 => own_otherR ho r1 (by decide) e (by rw [e2]; rfl)
  have st := World.ownsRow.stored r1 m (.slice v'.a v'.n v'.c)
  refine ⟨?_, World.ownsRow.frozenAt r1 m, ⟨?_, by simp [hlen], fun k hk => ?_, fun k hk g e j hj hne => ?_⟩, st.2⟩
  · rw [World.ownsRow.cellAt r1 m (by omega), List.getElem?_map, List.getD, List.getElem?_eq_getElem (by omega)]
    rfl
  · have := st.1
    rw [← List.map_set (f := fun s : Sl => Value.slice s.a s.n s.c) (a := v')] at this
    exact this
  · rw [getD_setR _ _ _ _ _ (by omega), getD_setR _ _ _ _ _ (by omega)]
    by_cases e : k = m
    · rw [if_pos e, if_pos e]
      exact own1.more st.2 (some_orR fun g e2 e3 => by have := nv g e2; injection e3 with e3; omega)
    · rw [if_neg e, if_neg e]
      exact (k1 k hk e).more st.2 (some_orR fun g e2 e3 => by have := h.ne hk e2; injection e3 with e3; omega)
  · rw [getD_setR _ _ _ _ _ (by omega)] at e ⊢
    by_cases ek : k = m
    · rw [if_pos ek] at e
      rw [if_neg (by omega)]
      exact hv1 g e j hj (by omega)
    · rw [if_neg ek] at e
      by_cases ej : j = m
      · rw [if_pos ej]
        intro e2
        exact hv1 g e2 k hk ek e
      · rw [if_neg ej]
        exact h.apart k hk g e j hj hne

theorem Gr.nils {w : World} {base Bw n : Nat} {R : List (List Int)} (h : w.ownsRow base 22 1 (.slice (some ⟨Bw, 0, none⟩) n n) n (madeCells (Value.slice none 0 0).cells (n * 1)).toList) (hR : ∀ k, k < n → R.getD k [] = []) : Gr w base Bw n R (List.replicate n ⟨none, 0, 0⟩) := by
  have e : (madeCells (Value.slice none 0 0).cells (n * 1)).toList = (List.replicate n (⟨none, 0, 0⟩ : Sl)).map (fun s => Value.slice s.a s.n s.c) := by
    rw [Nat.mul_one]
    simp [madeCells, Value.cells, Nat.mod_one]
    exact List.ext_getElem (by simp) fun i h1 h2 => by simp
  rw [e] at h
  have hn : ∀ k, (List.replicate n (⟨none, 0, 0⟩ : Sl)).getD k nilG = ⟨none, 0, 0⟩ := fun k => by
    simp only [List.getD, List.getElem?_replicate]
    split <;> rfl
  refine ⟨h, by simp, fun k hk => ?_, fun k hk g e2 => ?_⟩
  · rw [hn, hR k hk]
    exact owns_nil _ _
  · rw [hn] at e2
    cases e2

end Go.Proofs.YtahmmilhmoogbaaGreatDoor
