/- Names written anew in a copy, in memory. -/
import Derived.Test.YtflalpchhojenaaDoorGCopyJJ
import Derived.Test.YtflalpchhojenaaDoorGRenPJ
namespace Go.Proofs.YtflalpchhojenaaDoor
open Go.RowKit

theorem flat_set {α : Type} {size : Nat} {f : α → List Value} (hl : ∀ a, (f a).length = size) {j : Nat} (hj : j < size) {a' : α} {u : Value} : ∀ {xs : List α} {k : Nat} {a : α}, xs[k]? = some a → f a' = (f a).set j u → (xs.flatMap f).set (k * size + j) u = (xs.set k a').flatMap f
  | [], k, a, hk, _ => by simp at hk
  | x :: l, 0, a, hk, hf => by
    obtain rfl : x = a := by simpa using hk
    rw [List.set_cons_zero, List.flatMap_cons, List.flatMap_cons, Nat.zero_mul, Nat.zero_add, List.set_append_left _ _ (by rw [hl]; exact hj), hf]
  | x :: l, k + 1, a, hk, hf => by
    have hk' : l[k]? = some a := by simpa using hk
    rw [List.set_cons_succ, List.flatMap_cons, List.flatMap_cons, List.set_append_right _ _ (by rw [hl, Nat.add_mul]; omega), hl, show (k + 1) * size + j - size = k * size + j by rw [Nat.add_mul]; omega, flat_set hl hj hk' hf]

theorem owns_set {α : Type} {te : TypeId} {size : Nat} {f : α → List Value} {w : World} {base b n cap : Nat} {xs : List α} (h : OwnsL te size f w base (.slice (some ⟨b, 0, none⟩) n cap) xs) (hl : ∀ a, (f a).length = size) {k j : Nat} {a a' : α} {u : Value} (hk : xs[k]? = some a) (hj : j < size) (hf : f a' = (f a).set j u) :
    OwnsL te size f (w.setCell ⟨b, k * size + j, none⟩ u) base (.slice (some ⟨b, 0, none⟩) n cap) (xs.set k a') ∧ w.grownBy (w.setCell ⟨b, k * size + j, none⟩ u) (some b) := by
  obtain ⟨pa, pc, e⟩ := OwnsL.form h
  have hn : n = xs.length := by simp only [Value.slice.injEq] at e; exact e.2.1
  subst hn
  have s := World.ownsRow.stored h (k * size + j) u
  refine ⟨?_, s.2⟩
  unfold OwnsL
  rw [List.length_set, ← flat_set hl hj hk hf]
  exact s.1

theorem owns_cell {α : Type} {te : TypeId} {size : Nat} {f : α → List Value} {w : World} {base b n cap : Nat} {xs : List α} (h : OwnsL te size f w base (.slice (some ⟨b, 0, none⟩) n cap) xs) (k : Nat) : w.frozen? ⟨b, k, none⟩ = false := by
  obtain ⟨pa, pc, e⟩ := OwnsL.form h
  have hn : n = xs.length := by simp only [Value.slice.injEq] at e; exact e.2.1
  subst hn
  exact World.ownsRow.frozenAt h k

theorem OwnD.upd {α β : Type} {te : TypeId} {size : Nat} {f : α → List Value} {H : World → α → β → Prop} {foot : α → β → Nat → Prop} {w : World} {lo hi b n cap : Nat} {ps : List (α × β)} (HK : Feet H foot) (h : OwnD te size f H foot w lo hi (.slice (some ⟨b, 0, none⟩) n cap) ps) (hl : ∀ a, (f a).length = size) {k j : Nat} {a a' : α} {c : β} {u : Value} (hk : ps[k]? = some (a, c)) (hj : j < size) (hf : f a' = (f a).set j u) (hft : ∀ b, foot a' c b → foot a c b) (hH : ∀ w, H w a c → H w a' c) :
    OwnD te size f H foot (w.setCell ⟨b, k * size + j, none⟩ u) lo hi (.slice (some ⟨b, 0, none⟩) n cap) (ps.set k (a', c)) ∧ w.grownBy (w.setCell ⟨b, k * size + j, none⟩ u) (some b) := by
  have hk1 : (ps.map (·.1))[k]? = some a := by rw [List.getElem?_map, hk]; rfl
  obtain ⟨s1, s2⟩ := owns_set h.own hl hk1 hj hf
  have hob : (Value.slice (some ⟨b, 0, none⟩) n cap).ownBlock = some b := rfl
  have hmem : ∀ p ∈ ps.set k (a', c), p ∈ ps ∨ p = (a', c) := fun p hp => List.mem_or_eq_of_mem_set hp
  have hac : (a, c) ∈ ps := List.mem_of_getElem? hk
  have kp : ∀ p ∈ ps, H (w.setCell ⟨b, k * size + j, none⟩ u) p.1 p.2 := fun p hp => HK _ _ _ _ (h.has p hp) fun b' hb e => s2.block b' hb (fun e2 => (h.new p hp b' e).2.2 (by rw [hob]; exact e2.symm))
  refine ⟨⟨by rw [List.map_set]; exact s1, h.row, fun p hp => ?_, fun p hp b' e => ?_, by have := s2.size; have := h.le; omega⟩, s2⟩
  · rcases hmem p hp with hp | rfl
    · exact kp p hp
    · exact hH _ (kp (a, c) hac)
  · rcases hmem p hp with hp | rfl
    · exact h.new p hp b' e
    · exact h.new (a, c) hac b' (hft b' e)

/-- The copy while names are written anew. -/
structure RS (w2 : World) (B : Nat) (h : Gra) (i0 i1 o0 o1 n0 n1 t0 t1 : Nat) (wr : World) (ms : List (Nod × Ni)) (vi vo : List (Val × List Int)) (ts : List (Nam × List Int × List Int)) : Prop where
  box : wr.heap[B]? = some (.cells #[.string h.name, .slice h.nv.a h.nv.n h.nv.c, .slice h.iv.a h.iv.n h.iv.c, .slice h.ov.a h.ov.n h.ov.c, .slice h.tv.a h.tv.n h.tv.c] 26 (0, 0))
  ins : OwnVals wr i0 i1 h.iv.v vi
  outs : OwnVals wr o0 o1 h.ov.v vo
  nodes : OwnNods wr n0 n1 h.nv.v ms
  inits : OwnNams wr t0 t1 h.tv.v ts
  nown : ∀ p ∈ ms, NOwn wr p
  sep : NSep ms
  apt : (i1 ≤ o0 ∨ o1 ≤ i0) ∧ i1 ≤ n0 ∧ o1 ≤ n0 ∧ n1 ≤ t0 ∧ n0 ≤ n1
  low : w2.heap.size ≤ i0 ∧ w2.heap.size ≤ o0 ∧ w2.heap.size ≤ n0 ∧ w2.heap.size ≤ t0
  hiB : i1 ≤ B ∧ o1 ≤ B ∧ n1 ≤ B ∧ t1 ≤ B
  grown : w2.grownBy wr none

theorem nown_past {wr W : World} {n0 n1 b : Nat} {v : Value} {ms : List (Nod × Ni)} (hn : OwnNods wr n0 n1 v ms) (h : ∀ p ∈ ms, NOwn wr p) (g : wr.grownBy W (some b)) (hb : b < n0 ∨ n1 ≤ b) : ∀ p ∈ ms, NOwn W p := fun p hp => (h p hp).kept fun c e => by
  have k := hn.new p hp c e
  have := hn.le
  exact g.block c (by omega) (fun e2 => by have := Option.some.inj e2; omega)

section
variable {w2 wr : World} {B : Nat} {h : Gra} {i0 i1 o0 o1 n0 n1 t0 t1 : Nat} {ms : List (Nod × Ni)} {vi vo : List (Val × List Int)} {ts : List (Nam × List Int × List Int)}

theorem RS.setIn (r : RS w2 B h i0 i1 o0 o1 n0 n1 t0 t1 wr ms vi vo ts) {b n c : Nat} (hv : h.iv = ⟨some ⟨b, 0, none⟩, n, c⟩) {k : Nat} {A : Val} {ds : List Int} (hk : vi[k]? = some (A, ds)) (y : ByteArray) :
    RS w2 B h i0 i1 o0 o1 n0 n1 t0 t1 (wr.setCell ⟨b, k * 3, none⟩ (.string y)) ms (vi.set k (⟨y, A.ty, A.dv⟩, ds)) vo ts := by
  obtain ⟨a1, a2, a3, a4, a5⟩ := r.apt
  have hi := r.ins
  rw [hv] at hi
  obtain ⟨u1, u2⟩ := hi.upd valFeet vcells_len (j := 0) (a' := ⟨y, A.ty, A.dv⟩) (u := .string y) hk (by omega) rfl (fun b e => e) (fun w e => e)
  rw [Nat.add_zero] at u1 u2
  have hb : i0 ≤ b ∧ b < i1 := ⟨(World.ownsRow.lt hi.own b rfl).1, hi.row b rfl⟩
  have hl := r.low
  have hB := r.hiB
  have fo : ∀ g, some b = some g → g < o0 ∨ o1 ≤ g := fun g e => by cases e; omega
  have fn : b < n0 ∨ n1 ≤ b := by omega
  refine ⟨(u2.block B (Array.getElem?_eq_some_iff.1 r.box).1 (fun e => by have := Option.some.inj e; omega)).trans r.box, by rw [hv]; exact u1, r.outs.past valFeet u2 fo, r.nodes.past nodFeet u2 (fun g e => by cases e; exact fn), r.inits.past namFeet u2 (fun g e => by cases e; omega), nown_past r.nodes r.nown u2 fn, r.sep, r.apt, r.low, r.hiB, grown_trans_row r.grown u2 (fun g e => by cases e; omega)⟩

theorem RS.setOut (r : RS w2 B h i0 i1 o0 o1 n0 n1 t0 t1 wr ms vi vo ts) {b n c : Nat} (hv : h.ov = ⟨some ⟨b, 0, none⟩, n, c⟩) {k : Nat} {A : Val} {ds : List Int} (hk : vo[k]? = some (A, ds)) (y : ByteArray) :
    RS w2 B h i0 i1 o0 o1 n0 n1 t0 t1 (wr.setCell ⟨b, k * 3, none⟩ (.string y)) ms vi (vo.set k (⟨y, A.ty, A.dv⟩, ds)) ts := by
  obtain ⟨a1, a2, a3, a4, a5⟩ := r.apt
  have hi := r.outs
  rw [hv] at hi
  obtain ⟨u1, u2⟩ := hi.upd valFeet vcells_len (j := 0) (a' := ⟨y, A.ty, A.dv⟩) (u := .string y) hk (by omega) rfl (fun b e => e) (fun w e => e)
  rw [Nat.add_zero] at u1 u2
  have hb : o0 ≤ b ∧ b < o1 := ⟨(World.ownsRow.lt hi.own b rfl).1, hi.row b rfl⟩
  have hl := r.low
  have hB := r.hiB
  have fo : ∀ g, some b = some g → g < i0 ∨ i1 ≤ g := fun g e => by cases e; omega
  have fn : b < n0 ∨ n1 ≤ b := by omega
  refine ⟨(u2.block B (Array.getElem?_eq_some_iff.1 r.box).1 (fun e => by have := Option.some.inj e; omega)).trans r.box, r.ins.past valFeet u2 fo, by rw [hv]; exact u1, r.nodes.past nodFeet u2 (fun g e => by cases e; exact fn), r.inits.past namFeet u2 (fun g e => by cases e; omega), nown_past r.nodes r.nown u2 fn, r.sep, r.apt, r.low, r.hiB, grown_trans_row r.grown u2 (fun g e => by cases e; omega)⟩

theorem RS.setInit (r : RS w2 B h i0 i1 o0 o1 n0 n1 t0 t1 wr ms vi vo ts) {b n c : Nat} (hv : h.tv = ⟨some ⟨b, 0, none⟩, n, c⟩) {k : Nat} {A : Nam} {q : List Int × List Int} (hk : ts[k]? = some (A, q)) (y : ByteArray) :
    RS w2 B h i0 i1 o0 o1 n0 n1 t0 t1 (wr.setCell ⟨b, k * 4, none⟩ (.string y)) ms vi vo (ts.set k (⟨y, A.ty, A.dv, A.tv⟩, q)) := by
  obtain ⟨a1, a2, a3, a4, a5⟩ := r.apt
  have hi := r.inits
  rw [hv] at hi
  obtain ⟨u1, u2⟩ := hi.upd namFeet mcells_len (j := 0) (a' := ⟨y, A.ty, A.dv, A.tv⟩) (u := .string y) hk (by omega) rfl (fun b e => e) (fun w e => e)
  rw [Nat.add_zero] at u1 u2
  have hb : t0 ≤ b ∧ b < t1 := ⟨(World.ownsRow.lt hi.own b rfl).1, hi.row b rfl⟩
  have hl := r.low
  have hB := r.hiB
  have fn : b < n0 ∨ n1 ≤ b := by omega
  refine ⟨(u2.block B (Array.getElem?_eq_some_iff.1 r.box).1 (fun e => by have := Option.some.inj e; omega)).trans r.box, r.ins.past valFeet u2 (fun g e => by cases e; omega), r.outs.past valFeet u2 (fun g e => by cases e; omega), r.nodes.past nodFeet u2 (fun g e => by cases e; exact fn), by rw [hv]; exact u1, nown_past r.nodes r.nown u2 fn, r.sep, r.apt, r.low, r.hiB, grown_trans_row r.grown u2 (fun g e => by cases e; omega)⟩

theorem NSep.same {ms ms' : List (Nod × Ni)} (h : NSep ms) (hs : ∀ (i : Nat) (p : Nod × Ni), ms'[i]? = some p → ∃ q, ms[i]? = some q ∧ ∀ b, nodFt p.1 p.2 b → nodFt q.1 q.2 b) : NSep ms' := by
  intro i j p q hp hq hij b h1 h2
  obtain ⟨p', hp', f1⟩ := hs i p hp
  obtain ⟨q', hq', f2⟩ := hs j q hq
  exact h i j p' q' hp' hq' hij b (f1 b h1) (f2 b h2)

theorem set_at {α : Type} {l : List α} {k i : Nat} {x p : α} (h : (l.set k x)[i]? = some p) : (i = k ∧ p = x ∧ i < l.length) ∨ (i ≠ k ∧ l[i]? = some p) := by
  rw [List.getElem?_set] at h
  by_cases e : k = i
  · rw [if_pos e] at h
    split at h
    · exact Or.inl ⟨e.symm, by simpa using h.symm, by omega⟩
    · simp at h
  · rw [if_neg e] at h
    exact Or.inr ⟨fun e2 => e e2.symm, h⟩

theorem RS.setNodeOut (r : RS w2 B h i0 i1 o0 o1 n0 n1 t0 t1 wr ms vi vo ts) {b n c : Nat} (hv : h.nv = ⟨some ⟨b, 0, none⟩, n, c⟩) {k : Nat} {A : Nod} {q : Ni} (hk : ms[k]? = some (A, q)) (y : ByteArray) :
    RS w2 B h i0 i1 o0 o1 n0 n1 t0 t1 (wr.setCell ⟨b, k * 5 + 3, none⟩ (.string y)) (ms.set k (⟨A.op, A.name, A.iv, y, A.av⟩, q)) vi vo ts := by
  obtain ⟨a1, a2, a3, a4, a5⟩ := r.apt
  have hi := r.nodes
  rw [hv] at hi
  obtain ⟨u1, u2⟩ := hi.upd nodFeet ncells_len (j := 3) (a' := ⟨A.op, A.name, A.iv, y, A.av⟩) (u := .string y) hk (by omega) rfl (fun b e => e) (fun w e => ⟨e.ins, e.av, e.has, e.few, e.short⟩)
  have hb : n0 ≤ b ∧ b < n1 := ⟨(World.ownsRow.lt hi.own b rfl).1, hi.row b rfl⟩
  have hl := r.low
  have hB := r.hiB
  have kp : ∀ p ∈ ms, NOwn (wr.setCell ⟨b, k * 5 + 3, none⟩ (.string y)) p := fun p hp => (r.nown p hp).kept fun x e => by
    have kk := hi.new p hp x e
    have := hi.le
    exact u2.block x (by omega) (fun e2 => kk.2.2 e2.symm)
  refine ⟨(u2.block B (Array.getElem?_eq_some_iff.1 r.box).1 (fun e => by have := Option.some.inj e; omega)).trans r.box, r.ins.past valFeet u2 (fun g e => by cases e; omega), r.outs.past valFeet u2 (fun g e => by cases e; omega), by rw [hv]; exact u1, r.inits.past namFeet u2 (fun g e => by cases e; omega), fun p hp => ?_, r.sep.same fun i p hp => ?_, r.apt, r.low, r.hiB, grown_trans_row r.grown u2 (fun g e => by cases e; omega)⟩
  · rcases List.mem_or_eq_of_mem_set hp with hp | rfl
    · exact kp p hp
    · have := kp _ (List.mem_of_getElem? hk)
      exact ⟨this.ins, this.ap1, this.ap2⟩
  · rcases set_at hp with ⟨rfl, rfl, -⟩ | ⟨-, hp⟩
    · exact ⟨_, hk, fun b e => e⟩
    · exact ⟨p, hp, fun b e => e⟩

theorem RS.setNodeIn (r : RS w2 B h i0 i1 o0 o1 n0 n1 t0 t1 wr ms vi vo ts) {k : Nat} {A : Nod} {q : Ni} (hk : ms[k]? = some (A, q)) {bi m c : Nat} (hv : A.iv = ⟨some ⟨bi, 0, none⟩, m, c⟩) {j : Nat} {x : ByteArray} (hj : q.ins[j]? = some x) (y : ByteArray) :
    RS w2 B h i0 i1 o0 o1 n0 n1 t0 t1 (wr.setCell ⟨bi, j, none⟩ (.string y)) (ms.set k (A, ⟨q.ins.set j y, q.xs, q.cs⟩)) vi vo ts := by
  obtain ⟨a1, a2, a3, a4, a5⟩ := r.apt
  have hm := List.mem_of_getElem? hk
  have hno := r.nown _ hm
  have hins := hno.ins
  simp only at hins
  rw [hv] at hins
  obtain ⟨u1, u2⟩ := owns_set hins scell_len (j := 0) (a' := y) (u := .string y) hj (by omega) rfl
  rw [Nat.mul_one, Nat.add_zero] at u1 u2
  have hbf : nodFt A q bi := Or.inl (by rw [hv]; rfl)
  have hb := r.nodes.new _ hm bi hbf
  have hl := r.low
  have hB := r.hiB
  have hle := r.nodes.le
  -- what lies apart
  have kA : ∀ b, (A.av.v.ownBlock = some b ∨ ∃ a ∈ q.xs, a.dv.v.ownBlock = some b ∨ a.tv.v.ownBlock = some b ∨ a.iv.v.ownBlock = some b) → b ≠ bi := by
    intro b e hbi
    subst hbi
    rcases e with e | ⟨a, ha, e⟩
    · exact hno.ap1 b (by simp only; rw [hv]; rfl) e
    · exact (hno.ap2 a ha).any e (by simp only; rw [hv]; rfl)
  have kO : ∀ (i : Nat) (p : Nod × Ni), ms[i]? = some p → i ≠ k → ∀ b, nodFt p.1 p.2 b → b ≠ bi := fun i p hp hik b e hbi => r.sep i k p (A, q) hp hk hik b e (hbi ▸ hbf)
  have hold := r.nodes.has _ hm
  have hnew : nodH (wr.setCell ⟨bi, j, none⟩ (.string y)) A ⟨q.ins.set j y, q.xs, q.cs⟩ := by
    obtain ⟨-, -, -, -, -, hi3⟩ := hold.ins.form
    refine ⟨?_, hold.av.kept fun b hb' e => u2.block b hb' (fun e2 => kA b (Or.inl e) (Option.some.inj e2)), fun j' a e => ?_, hold.few, hold.short⟩
    · rw [hv]
      exact u1.isL (bytes := 16) scell_len (by rw [List.length_set]; exact hi3)
    · obtain ⟨d, e1, e2⟩ := hold.has j' a e
      exact ⟨d, e1, e2.kept fun b hb' e3 => u2.block b hb' (fun e4 => kA b (Or.inr ⟨a, List.mem_of_getElem? e, e3⟩) (Option.some.inj e4))⟩
  refine ⟨(u2.block B (Array.getElem?_eq_some_iff.1 r.box).1 (fun e => by have := Option.some.inj e; omega)).trans r.box, r.ins.past valFeet u2 (fun g e => by cases e; omega), r.outs.past valFeet u2 (fun g e => by cases e; omega), ?_, r.inits.past namFeet u2 (fun g e => by cases e; omega), fun p hp => ?_, r.sep.same fun i p hp => ?_, r.apt, r.low, r.hiB, grown_trans_row r.grown u2 (fun g e => by cases e; omega)⟩
  · have hmap : (ms.set k (A, ⟨q.ins.set j y, q.xs, q.cs⟩)).map (·.1) = ms.map (·.1) := by
      rw [List.map_set]
      refine List.ext_getElem? fun i => ?_
      rw [List.getElem?_set]
      split
      · rename_i e
        subst e
        rw [List.getElem?_map, hk, List.length_map, if_pos (List.getElem?_eq_some_iff.1 hk).1]
        rfl
      · rfl
    refine ⟨by rw [hmap]; exact owns_block r.nodes.own (fun b e => u2.block b (World.ownsRow.lt r.nodes.own b e).2 (fun e2 => hb.2.2 (by rw [e]; exact e2))), r.nodes.row, fun p hp => ?_, fun p hp b e => ?_, by have := u2.size; omega⟩
    · obtain ⟨i, hi⟩ := List.mem_iff_getElem?.1 hp
      rcases set_at hi with ⟨rfl, rfl, -⟩ | ⟨hik, hi⟩
      · exact hnew
      · exact nodFeet _ _ _ _ (r.nodes.has p (List.mem_of_getElem? hi)) fun b hb' e => u2.block b hb' (fun e2 => kO i p hi hik b e (Option.some.inj e2))
    · rcases List.mem_or_eq_of_mem_set hp with hp | rfl
      · exact r.nodes.new p hp b e
      · exact r.nodes.new (A, q) hm b e
  · obtain ⟨i, hi⟩ := List.mem_iff_getElem?.1 hp
    rcases set_at hi with ⟨rfl, rfl, -⟩ | ⟨hik, hi⟩
    · exact ⟨by simp only; rw [hv]; exact u1, hno.ap1, hno.ap2⟩
    · exact (r.nown p (List.mem_of_getElem? hi)).kept fun b e => by
        have k2 := r.nodes.new p (List.mem_of_getElem? hi) b e
        exact u2.block b (by omega) (fun e2 => kO i p hi hik b e (Option.some.inj e2))
  · rcases set_at hp with ⟨rfl, rfl, -⟩ | ⟨-, hp⟩
    · exact ⟨_, hk, fun b e => e⟩
    · exact ⟨p, hp, fun b e => e⟩
end
end Go.Proofs.YtflalpchhojenaaDoor
