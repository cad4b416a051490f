/- Waits and readers of a graph's nodes: what they are, and how they lie. -/
import Derived.Test.YtmdpeckeliplkaaDoorGOrdJ
import Derived.Maps.AppendAt
import Derived.Test.YtmdpeckeliplkaaDoorGLitJ
namespace Go.Proofs.YtmdpeckeliplkaaDoor
open Go.RowKit

/-- A name's place among others. -/
def pos (l : List ByteArray) (x : ByteArray) : Nat := l.findIdx (fun y => y.data.toList == x.data.toList)

theorem pos_lt {l : List ByteArray} {x : ByteArray} (h : inL x l = true) : pos l x < l.length := by
  unfold inL at h
  rw [List.any_eq_true] at h
  exact List.findIdx_lt_length_of_exists h

theorem pos_at {l : List ByteArray} {x : ByteArray} (h : inL x l = true) : l[pos l x]? = some x := by
  have hl := pos_lt h
  rw [List.getElem?_eq_getElem hl]
  have e : (fun y : ByteArray => y.data.toList == x.data.toList) l[pos l x] = true := List.findIdx_getElem (w := hl)
  have e2 : l[pos l x].data.toList = x.data.toList := by simpa using e
  have e3 : l[pos l x].data = x.data := Array.toList_inj.1 e2
  refine congrArg some ?_
  generalize l[pos l x] = y at e3
  cases y
  cases x
  simp at e3
  rw [e3]

/-- One more name that a node reads. -/
def lnk (l : List ByteArray) (k0 i : Nat) (p : List Int × List (List Int)) (x : ByteArray) : List Int × List (List Int) :=
  if k0 ≤ pos l x then (p.1.set i (p.1.getD i 0 + 1), p.2.set (pos l x - k0) (p.2.getD (pos l x - k0) [] ++ [(i : Int)])) else p

def lnkRow (l : List ByteArray) (k0 i : Nat) (p : List Int × List (List Int)) (xs : List ByteArray) : List Int × List (List Int) := xs.foldl (lnk l k0 i) p

/-- Waits and readers, of the first k nodes. -/
def linksN (cs : List Nc) (l : List ByteArray) (k0 : Nat) : Nat → List Int × List (List Int)
  | 0 => (List.replicate cs.length 0, List.replicate cs.length [])
  | k + 1 => lnkRow l k0 k (linksN cs l k0 k) ((cs[k]?.map (·.ins)).getD [])

/-- How great they may be. -/
structure LB (n cnt : Nat) (p : List Int × List (List Int)) : Prop where
  l1 : p.1.length = n
  l2 : p.2.length = n
  b1 : ∀ z ∈ p.1, 0 ≤ z ∧ z ≤ cnt
  b2 : ∀ r ∈ p.2, r.length ≤ cnt ∧ ∀ z ∈ r, 0 ≤ z ∧ z < n

theorem LB.start (n : Nat) : LB n 0 (List.replicate n 0, List.replicate n []) :=
  ⟨by simp, by simp, fun z hz => by simp at hz; omega, fun r hr => by simp at hr; simp [hr.2]⟩

theorem LB.le {n a b : Nat} {p : List Int × List (List Int)} (h : LB n a p) (hab : a ≤ b) : LB n b p :=
  ⟨h.l1, h.l2, fun z hz => by have := h.b1 z hz; omega, fun r hr => ⟨by have := (h.b2 r hr).1; omega, (h.b2 r hr).2⟩⟩

theorem LB.step {n cnt : Nat} {p : List Int × List (List Int)} (h : LB n cnt p) {l : List ByteArray} {k0 i : Nat} {x : ByteArray} (hi : i < n) (hx : pos l x < k0 + n) : LB n (cnt + 1) (lnk l k0 i p x) := by
  unfold lnk
  split
  · rename_i hk
    have hm : pos l x - k0 < p.2.length := by rw [h.l2]; omega
    refine ⟨by simp [h.l1], by simp [h.l2], fun z hz => ?_, fun r hr => ?_⟩
    · rcases mem_set_or hz with h1 | h1
      · have := h.b1 z h1; omega
      · have := h.b1 _ (getD_mem_or p.1 i (by rw [h.l1]; exact hi)); omega
    · rcases List.mem_or_eq_of_mem_set hr with h1 | h1
      · exact ⟨by have := (h.b2 r h1).1; omega, (h.b2 r h1).2⟩
      · have hq := h.b2 (p.2.getD (pos l x - k0) []) (by rw [List.getD, List.getElem?_eq_getElem hm]; exact List.getElem_mem hm)
        rw [h1]
        refine ⟨by have := hq.1; rw [List.length_append, List.length_singleton]; omega, fun z hz => ?_⟩
        rcases List.mem_append.1 hz with h2 | h2
        · exact hq.2 z h2
        · simp at h2; omega
  · exact h.le (by omega)

theorem lnkRow_step (l : List ByteArray) (k0 i : Nat) (p : List Int × List (List Int)) (xs : List ByteArray) {t : Nat} (ht : t < xs.length) : lnkRow l k0 i p (xs.take (t + 1)) = lnk l k0 i (lnkRow l k0 i p (xs.take t)) xs[t] := by
  unfold lnkRow
  rw [List.take_add_one, List.getElem?_eq_getElem ht, List.foldl_append]
  rfl



/-- How waits and readers lie: the call's own rows, apart from one another. -/
structure Lk (w : World) (base Bw Br : Nat) (p : List Int × List (List Int)) (rs : List Sl) : Prop where
  own : OwnW w base Bw p.1
  row : w.ownsRow base 40 1 (.slice (some ⟨Br, 0, none⟩) p.2.length p.2.length) p.2.length (rs.map (fun s => .slice s.a s.n s.c))
  len : rs.length = p.2.length
  each : ∀ k, k < p.2.length → Owns w base (rs.getD k nilS).v (p.2.getD k [])
  apart : ∀ k, k < p.2.length → ∀ g, (rs.getD k nilS).v.ownBlock = some g → g ≠ Bw ∧ g ≠ Br ∧ ∀ j, j < p.2.length → j ≠ k → (rs.getD j nilS).v.ownBlock ≠ some g
  ne : Bw ≠ Br

theorem some_or {v : Value} {row : Option Nat} (h : ∀ g, v.ownBlock = some g → some g ≠ row) : v.ownBlock = none ∨ v.ownBlock ≠ row := by
  cases e : v.ownBlock with
  | none => exact Or.inl rfl
  | some g => exact Or.inr (h g e)

theorem Lk.new {w w' : World} {base Bw Br : Nat} {p : List Int × List (List Int)} {rs : List Sl} (h : Lk w base Bw Br p rs) (hg : w.grownBy w' none) : Lk w' base Bw Br p rs :=
  ⟨World.ownsRow.kept h.own hg (Or.inr (by simp [Value.ownBlock])), World.ownsRow.kept h.row hg (Or.inr (by simp [Value.ownBlock])), h.len, fun k hk => (h.each k hk).new hg, h.apart, h.ne⟩

theorem Lk.inc {w : World} {base Bw Br : Nat} {W : List Int} {R : List (List Int)} {rs : List Sl} (h : Lk w base Bw Br (W, R) rs) (i : Nat) (x : Int) :
    Lk (w.setCell ⟨Bw, i, none⟩ (.int .i64 x)) base Bw Br (W.set i x, R) rs ∧ w.grownBy (w.setCell ⟨Bw, i, none⟩ (.int .i64 x)) (some Bw) := by
  have s := OwnW.set h.own i x
  refine ⟨⟨s.1, World.ownsRow.kept h.row s.2 (Or.inr (by simp [Value.ownBlock]; exact fun e => h.ne e.symm)), h.len, fun k hk => ?_, h.apart, h.ne⟩, s.2⟩
  exact (h.each k hk).more s.2 (some_or fun g e => by have := (h.apart k hk g e).1; simpa using this)

theorem Lk.app {w w1 : World} {base Bw Br : Nat} {W : List Int} {R : List (List Int)} {rs : List Sl} (h : Lk w base Bw Br (W, R) rs) {m : Nat} (hm : m < R.length) {v' : Sl} {i : Nat} (hg : w.grownBy w1 (rs.getD m nilS).v.ownBlock)
    (ho : w1.ownsRow base 3 1 v'.v ((R.getD m []).length + 1) ((R.getD m []).map (Value.int .i64) ++ [.int .i64 (i : Int)])) (hat : v'.v.ownBlock = (rs.getD m nilS).v.ownBlock ∨ v'.v.ownBlock = some w.heap.size) (hi : i ≤ 1048576) (hl : (R.getD m []).length ≤ 1099511627776) :
    Lk (w1.setCell ⟨Br, m, none⟩ (.slice v'.a v'.n v'.c)) base Bw Br (W, R.set m (R.getD m [] ++ [(i : Int)])) (rs.set m v') ∧ w1.grownBy (w1.setCell ⟨Br, m, none⟩ (.slice v'.a v'.n v'.c)) (some Br) := by
  have hlen : rs.length = R.length := h.len
  have hBw := (World.ownsRow.lt h.own Bw rfl).2
  have hBr := (World.ownsRow.lt h.row Br rfl).2
  have row1 : w1.ownsRow base 40 1 (.slice (some ⟨Br, 0, none⟩) R.length R.length) R.length (rs.map (fun s => .slice s.a s.n s.c)) :=
    World.ownsRow.kept h.row hg (Or.inr (fun e => by exact (h.apart m hm Br (by rw [← e]; rfl)).2.1 rfl))
  have own1 : OwnW w1 base Bw W := World.ownsRow.kept h.own hg (Or.inr (fun e => by exact (h.apart m hm Bw (by rw [← e]; rfl)).1 rfl))
  have st := World.ownsRow.stored row1 m (.slice v'.a v'.n v'.c)
  have hv1 : ∀ g, v'.v.ownBlock = some g → g ≠ Bw ∧ g ≠ Br ∧ ∀ j, j < R.length → j ≠ m → (rs.getD j nilS).v.ownBlock ≠ some g := by
    intro g e
    rcases hat with h1 | h1
    · exact h.apart m hm g (h1.symm.trans e)
    · have e2 : w.heap.size = g := by rw [h1] at e; injection e
      refine ⟨by omega, by omega, fun j hj hne e3 => ?_⟩
      have := ((h.each j hj).lt g e3).2
      omega
  have gset : ∀ j, (rs.set m v').getD j nilS = if j = m then v' else rs.getD j nilS := fun j => by
    by_cases e : j = m
    · subst e
      rw [if_pos rfl, List.getD, List.getElem?_set_self (by omega)]
      rfl
    · rw [if_neg e, List.getD, List.getElem?_set_ne (fun h => e h.symm)]
      rfl
  have rset : ∀ j, (R.set m (R.getD m [] ++ [(i : Int)])).getD j [] = if j = m then R.getD m [] ++ [(i : Int)] else R.getD j [] := fun j => by
    by_cases e : j = m
    · subst e
      rw [if_pos rfl, List.getD, List.getElem?_set_self (by omega)]
      rfl
    · rw [if_neg e, List.getD, List.getElem?_set_ne (fun h => e h.symm)]
      rfl
  refine ⟨⟨World.ownsRow.kept own1 st.2 (Or.inr (by simp [Value.ownBlock]; exact h.ne)), ?_, by simp [hlen], fun k hk => ?_, fun k hk g e => ?_, h.ne⟩, st.2⟩
  · have := st.1
    rw [← List.map_set (f := fun s : Sl => Value.slice s.a s.n s.c) (a := v')] at this
    simpa using this
  · have hk' : k < R.length := by simpa using hk
    show Owns _ base ((rs.set m v').getD k nilS).v ((R.set m (R.getD m [] ++ [(i : Int)])).getD k [])
    rw [gset, rset]
    by_cases e : k = m
    · rw [if_pos e, if_pos e]
      refine Owns.more (w := w1) ⟨?_, ?_, fun z hz => ?_⟩ st.2 (some_or fun g e => by have := (hv1 g e).2.1; simpa using this)
      · rw [List.length_append, List.map_append]; exact ho
      · rw [List.length_append, List.length_singleton]; omega
      · rcases List.mem_append.1 hz with h1 | h1
        · exact (h.each m hm).2.2 z h1
        · simp at h1; omega
    · rw [if_neg e, if_neg e]
      refine ((h.each k hk').more hg (some_or fun g e1 e2 => ?_)).more st.2 (some_or fun g e1 => by have := (h.apart k hk' g e1).2.1; simpa using this)
      exact (h.apart k hk' g e1).2.2 m hm (fun e3 => e e3.symm) e2.symm
  · have hk' : k < R.length := by simpa using hk
    have e : ((rs.set m v').getD k nilS).v.ownBlock = some g := e
    show g ≠ Bw ∧ g ≠ Br ∧ ∀ j, j < (R.set m (R.getD m [] ++ [(i : Int)])).length → j ≠ k → ((rs.set m v').getD j nilS).v.ownBlock ≠ some g
    rw [gset] at e
    by_cases ek : k = m
    · rw [if_pos ek] at e
      obtain ⟨a1, a2, a3⟩ := hv1 g e
      refine ⟨a1, a2, fun j hj hne => ?_⟩
      rw [gset, if_neg (by omega)]
      exact a3 j (by simpa using hj) (by omega)
    · rw [if_neg ek] at e
      obtain ⟨a1, a2, a3⟩ := h.apart k hk' g e
      refine ⟨a1, a2, fun j hj hne => ?_⟩
      rw [gset]
      by_cases ej : j = m
      · rw [if_pos ej]
        intro e2
        exact (hv1 g e2).2.2 k hk' ek e
      · rw [if_neg ej]
        exact a3 j (by simpa using hj) hne
end Go.Proofs.YtmdpeckeliplkaaDoor
