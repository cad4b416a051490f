/- Joined texts: GLst, GCopyV. -/
import Derived.Test.YtmdpeckeliplkaaDoorPartF
import Derived.Test.YtmdpeckeliplkaaDoorGNamesJ
import Derived.Deep.RegionHeld3
import Derived.Deep.AppendLies
/- A list of the call's own whose elements have lists of their own. -/
namespace Go.Proofs.YtmdpeckeliplkaaDoor
open Go.RowKit

/-- A list of the call's own: its elements, what the lists of each hold, and where all of them lie: from lo on, ahead of hi. -/
structure OwnD {α β : Type} (te : TypeId) (size : Nat) (f : α → List Value) (H : World → α → β → Prop) (foot : α → β → Nat → Prop) (w : World) (lo hi : Nat) (v : Value) (ps : List (α × β)) : Prop where
  own : OwnsL te size f w lo v (ps.map (·.1))
  row : ∀ b, v.ownBlock = some b → b < hi
  has : ∀ p ∈ ps, H w p.1 p.2
  new : ∀ p ∈ ps, ∀ b, foot p.1 p.2 b → lo ≤ b ∧ b < hi ∧ v.ownBlock ≠ some b
  le : hi ≤ w.heap.size

/-- What an element's lists hold hangs on their blocks alone. -/
def Feet {α β : Type} (H : World → α → β → Prop) (foot : α → β → Nat → Prop) : Prop := ∀ (w w' : World) (a : α) (c : β), H w a c → (∀ b, b < w.heap.size → foot a c b → w'.heap[b]? = w.heap[b]?) → H w' a c

section
variable {α β : Type} {te : TypeId} {size : Nat} {f : α → List Value} {H : World → α → β → Prop} {foot : α → β → Nat → Prop}

theorem OwnD.nil {w : World} {lo hi : Nat} (h : hi ≤ w.heap.size) : OwnD te size f H foot w lo hi (.slice none 0 0) [] :=
  ⟨OwnsL.nil .., (fun b e => by simp [Value.ownBlock] at e), (fun p hp => by cases hp), (fun p hp => by cases hp), h⟩

theorem OwnD.kept {w w' : World} {lo hi : Nat} {v : Value} {ps : List (α × β)} (HK : Feet H foot) (h : OwnD te size f H foot w lo hi v ps) (hs : hi ≤ w'.heap.size) (hk : ∀ b, lo ≤ b → b < hi → w'.heap[b]? = w.heap[b]?) : OwnD te size f H foot w' lo hi v ps :=
  ⟨owns_block h.own (fun b e => hk b (World.ownsRow.lt h.own b e).1 (h.row b e)), h.row, fun p hp => HK _ _ _ _ (h.has p hp) (fun b _ e => have k := h.new p hp b e; hk b k.1 k.2.1), h.new, hs⟩

theorem OwnD.past {w w' : World} {lo hi : Nat} {v : Value} {ps : List (α × β)} {row : Option Nat} (HK : Feet H foot) (h : OwnD te size f H foot w lo hi v ps) (hg : w.grownBy w' row) (hr : ∀ g, row = some g → g < lo ∨ hi ≤ g) : OwnD te size f H foot w' lo hi v ps :=
  h.kept HK (Nat.le_trans h.le hg.size) fun b h1 h2 => hg.block b (Nat.lt_of_lt_of_le h2 h.le) (fun e => by have := hr b e.symm; omega)

theorem OwnD.more {w w' : World} {lo hi : Nat} {v : Value} {ps : List (α × β)} (HK : Feet H foot) (h : OwnD te size f H foot w lo hi v ps) (hg : w.grownBy w' none) : OwnD te size f H foot w' lo hi v ps := h.past HK hg (by simp)

theorem OwnD.wide {w : World} {lo hi lo' hi' : Nat} {v : Value} {ps : List (α × β)} (h : OwnD te size f H foot w lo hi v ps) (hl : lo' ≤ lo) (hh : hi ≤ hi') (hw : hi' ≤ w.heap.size) : OwnD te size f H foot w lo' hi' v ps :=
  ⟨h.own.base_le hl, fun b e => Nat.lt_of_lt_of_le (h.row b e) hh, h.has, fun p hp b e => have k := h.new p hp b e; ⟨Nat.le_trans hl k.1, Nat.lt_of_lt_of_le k.2.1 hh, k.2.2⟩, hw⟩

theorem OwnD.snoc {w W w' : World} {lo hi g n cap : Nat} {v : Value} {ps : List (α × β)} {y : α} {c : β} (HK : Feet H foot) (h : OwnD te size f H foot w lo hi v ps) (hb : lo ≤ w.heap.size) (hg : w.grownBy W none) (hgr : W.grownBy w' v.ownBlock) (hat : v.ownBlock = some g ∨ g = W.heap.size)
    (own' : OwnsL te size f w' lo (.slice (some ⟨g, 0, none⟩) n cap) (ps.map (·.1) ++ [y])) (hy : H W y c) (fy : ∀ b, foot y c b → w.heap.size ≤ b ∧ b < W.heap.size) : OwnD te size f H foot w' lo w'.heap.size (.slice (some ⟨g, 0, none⟩) n cap) (ps ++ [(y, c)]) := by
  have vlt : ∀ b, v.ownBlock = some b → lo ≤ b ∧ b < w.heap.size := fun b e => World.ownsRow.lt h.own b e
  have s0 := h.le
  have s1 := hg.size
  have s2 := hgr.size
  have og : ∀ b, (Value.slice (some ⟨g, 0, none⟩) n cap).ownBlock = some b → g = b := fun b e => by simpa [Value.ownBlock] using e
  refine ⟨by rw [List.map_append]; exact own', fun b e => (World.ownsRow.lt own' b e).2, fun p hp => ?_, fun p hp b e => ?_, Nat.le_refl _⟩
  · rcases List.mem_append.1 hp with hp | hp
    · exact HK _ _ _ _ (h.has p hp) fun b hb e => (hgr.block b (by omega) (fun e2 => (h.new p hp b e).2.2 e2.symm)).trans (hg.block b hb (by simp))
    · obtain rfl : p = (y, c) := by simpa using hp
      exact HK _ _ _ _ hy fun b hb e => hgr.block b hb (fun e2 => by have := vlt b e2.symm; have := fy b e; omega)
  · rcases List.mem_append.1 hp with hp | hp
    · have k := h.new p hp b e
      refine ⟨k.1, by omega, fun e2 => ?_⟩
      have e3 := og b e2
      subst e3
      rcases hat with h2 | h2
      · exact k.2.2 h2
      · omega
    · obtain rfl : p = (y, c) := by simpa using hp
      have k := fy b e
      refine ⟨by omega, by omega, fun e2 => ?_⟩
      have e3 := og b e2
      subst e3
      rcases hat with h2 | h2
      · have := vlt _ h2; omega
      · omega
end

/-- A value's dims. -/
def valH (w : World) (v : Val) (ds : List Int) : Prop := IsInts w v.dv.v ds
def valFt (v : Val) (_ : List Int) (b : Nat) : Prop := v.dv.v.ownBlock = some b

theorem valFeet : Feet valH valFt := fun _ _ _ _ h hk => IsInts.kept h fun b hb e => hk b hb e

/-- A named tensor's dims and elements. -/
def namH (w : World) (v : Nam) (q : List Int × List Int) : Prop := IsInts w v.dv.v q.1 ∧ IsInts w v.tv.v q.2
def namFt (v : Nam) (_ : List Int × List Int) (b : Nat) : Prop := v.dv.v.ownBlock = some b ∨ v.tv.v.ownBlock = some b

theorem namFeet : Feet namH namFt := fun _ _ _ _ h hk => ⟨h.1.kept fun b hb e => hk b hb (Or.inl e), h.2.kept fun b hb e => hk b hb (Or.inr e)⟩

/-- A node's lists. -/
structure Ni where
  ins : List ByteArray
  xs : List Atr
  cs : List Cont

def nodH (w : World) (n : Nod) (q : Ni) : Prop := NodeIn w n q.ins q.xs q.cs
def nodFt (n : Nod) (q : Ni) (b : Nat) : Prop := n.iv.v.ownBlock = some b ∨ n.av.v.ownBlock = some b ∨ ∃ a ∈ q.xs, a.dv.v.ownBlock = some b ∨ a.tv.v.ownBlock = some b ∨ a.iv.v.ownBlock = some b

theorem nodFeet : Feet nodH nodFt := fun _ _ _ _ h hk => ⟨h.ins.kept fun b hb e => hk b hb (Or.inl e), h.av.kept fun b hb e => hk b hb (Or.inr (Or.inl e)), fun j a e => by
  obtain ⟨c, e1, e2⟩ := h.has j a e
  exact ⟨c, e1, e2.kept fun b hb e3 => hk b hb (Or.inr (Or.inr ⟨a, List.mem_of_getElem? e, e3⟩))⟩, h.few, h.short⟩

abbrev OwnVals (w : World) (lo hi : Nat) (v : Value) (ps : List (Val × List Int)) : Prop := OwnD 42 3 vcells valH valFt w lo hi v ps
abbrev OwnNams (w : World) (lo hi : Nat) (v : Value) (ps : List (Nam × List Int × List Int)) : Prop := OwnD 59 4 mcells namH namFt w lo hi v ps
abbrev OwnNods (w : World) (lo hi : Nat) (v : Value) (ps : List (Nod × Ni)) : Prop := OwnD 52 5 ncells nodH nodFt w lo hi v ps
end Go.Proofs.YtmdpeckeliplkaaDoor

/- Values of their own, by the walk. -/
namespace Go.Proofs.YtmdpeckeliplkaaDoor
open Go.RowKit

def vkey (p : Val × List Int) : ByteArray × Int × List Int := (p.1.name, p.1.ty, p.2)
def mkey (p : Nam × List Int × List Int) : ByteArray × Int × List Int × List Int := (p.1.name, p.1.ty, p.2)

theorem infoVal : (Tryd.prog.info? 42).map (fun i => (i.zero, i.size, i.bytes)) = some (some (.agg #[.string ⟨#[]⟩, .int .i64 0, .slice none 0 0]), 3, 48) := by kernel_rfl

theorem vcell_one (v : Val) : ∀ u ∈ vcells v, u.oneCell' = true := by
  intro u hu
  simp only [vcells, List.mem_cons, List.not_mem_nil, or_false] at hu
  rcases hu with rfl | rfl | rfl <;> rfl

theorem take_map_key {α κ : Type} (f : α → κ) {xs : List α} {k : Nat} {x : α} (hk : xs[k]? = some x) : (xs.take (k + 1)).map f = (xs.take k).map f ++ [f x] := by
  rw [List.take_add_one, List.map_append, hk]
  rfl

theorem owns_row_at {α : Type} {te : TypeId} {size n : Nat} {f : α → List Value} {w : World} {base : Nat} {v : Value} {xs : List α} (h : OwnsL te size f w base v xs) (hn : xs.length = n) : w.ownsRow base te size v n (xs.flatMap f) := by
  subst hn
  exact h

theorem owns_at_row {α : Type} {te : TypeId} {size n : Nat} {f : α → List Value} {w : World} {base : Nat} {v : Value} {xs : List α} {y : α} (hn : xs.length = n) (h : w.ownsRow base te size v (n + 1) (xs.flatMap f ++ f y)) : OwnsL te size f w base v (xs ++ [y]) := by
  subst hn
  unfold OwnsL
  rw [List.length_append, List.flatMap_append]
  simpa using h

set_option maxRecDepth 100000 in
set_option maxHeartbeats 3200000 in
theorem copyvals_any (v : Value) (ps : List (Val × List Int)) (w : World) (hv : IsVals w v (ps.map (·.1))) (hd : ∀ p ∈ ps, IsInts w p.1.dv.v p.2) (hl : ps.length ≤ 1048576) :
    Calls Tryd.prog 19 #[v] w fun e w' => ∃ (u : Sl) (qs : List (Val × List Int)), e = .returned u.v ∧ OwnVals w' w.heap.size w'.heap.size u.v qs ∧ qs.map vkey = ps.map vkey ∧ w.grownBy w' none := by
  obtain ⟨i0, hi, hz0, hz1, hz2⟩ := info_parts infoVal
  have H := hide hv
  have HD := hide hd
  obtain ⟨xa, xc, e1, p1, p2, p3⟩ := hv.form
  rw [List.length_map] at e1 p1 p3
  subst e1
  clear hv hd
  go_enter Tryd.func19, Tryd.ntmps19
  go_wp2_with fail
  go_loopw [3, 4] (fun l i wr => w.grownBy wr none ∧ ∃ (k : Nat) (ua : Option Addr) (uc : Nat) (qs : List (Val × List Int)), k ≤ ps.length ∧ i = .int .i64 k ∧ l = .slice ua k uc ∧ OwnVals wr w.heap.size wr.heap.size (.slice ua k uc) qs ∧ qs.map vkey = (ps.take k).map vkey) (fun _ i _ => ps.length - (intOf i).toNat)
  case atStart => exact ⟨grown_refl _, 0, none, 0, [], Nat.zero_le _, rfl, rfl, OwnD.nil (Nat.le_refl _), rfl⟩
  case round =>
    obtain ⟨hg, k, ua, uc, qs, hk, rfl, rfl, hown, hkey⟩ := hrel
    have HO := hide hown
    have HKY := hide hkey
    have QL : Hid ((qs.map (·.1)).length = k) := by show _ = _; have h := congrArg List.length hkey; simp only [List.length_map, List.length_take] at h; rw [List.length_map]; omega
    clear hown hkey
    by_cases hlt : k < ps.length
    · have HLk := H.out.more hg
      have hlt' : k < (ps.map (·.1)).length := by rw [List.length_map]; exact hlt
      obtain ⟨b, off, rfl⟩ := HLk.addr hlt'
      obtain ⟨a0, a1, a2⟩ := HLk.val k hlt'
      obtain ⟨A, ds, hA⟩ : ∃ A ds, ps[k] = (A, ds) := ⟨_, _, rfl⟩
      have HA : Hid (ps[k]? = some (A, ds)) := by show _ = _; rw [List.getElem?_eq_getElem hlt, hA]
      have eA : (ps.map (·.1))[k] = A := by rw [List.getElem_map, hA]
      rw [eA] at a0 a1 a2
      have HDS : Hid (IsInts wr A.dv.v ds) := (HD.out (A, ds) (by rw [← hA]; exact List.getElem_mem hlt)).more hg
      have CI := hide (fun (wx : World) (hx : wr.grownBy wx none) => copyints_any A.dv.v ds wx (HDS.out.more hx))
      have CX := hide (fun (wx : World) (hx : wx.heap[b]? = wr.heap[b]?) => And.intro ((World.cell?_of_block hx).trans a0) (And.intro ((World.cell?_of_block hx).trans a1) ((World.cell?_of_block hx).trans a2)))
      have hbw : b < w.heap.size := World.block_lt_of_cell? w _ (H.out.val k hlt').1
      have NB : Hid (some b ≠ (Value.slice ua k uc).ownBlock) := fun e => by have := World.ownsRow.lt HO.out.own b e.symm; omega
      have hsz := hg.size
      have gd := grown_drew (grown_refl wr)
      clear HLk eA hA
      go_wp2_with fail
      go_region_held3 (fun w' => w'.cell? ⟨b, off + k * 3, none⟩ = some (.string A.name) ∧ w'.cell? ⟨b, off + k * 3 + 1, none⟩ = some (.int .i64 A.ty) ∧ w'.cell? ⟨b, off + k * 3 + 2, none⟩ = some (.slice A.dv.a A.dv.n A.dv.c)) (go_keep) (first | (go_at_call 38; refine (CI.out _ (by exact gd)).mono ?_; rintro e w3 ⟨u, rfl, hu, nu, hg3⟩; have g3 : wr.grownBy w3 none := grown_trans gd hg3; have B3 : Hid (w3.heap[b]? = wr.heap[b]? ∧ b < w3.heap.size) := (And.intro (g3.block b (by omega) (by simp)) (by have := g3.size; omega)); obtain ⟨a0, a1, a2⟩ := CX.out w3 B3.out.1; have OW : Hid (∀ o, (w3.alloc o).ownsRow w.heap.size 42 3 (.slice ua k uc) k ((qs.map (·.1)).flatMap vcells)) := (fun o => owns_row_at ((HO.out.own.more g3).more (grown_new _ _)) QL.out)) | (refine step_append_lies _ (by rfl) (.tmp 11) (.tmp 29) 23 (by rfl) w.heap.size 42 i0 (.agg #[.string ⟨#[]⟩, .int .i64 0, .slice none 0 0]) 3 48 Tryd.underlying23 hi hz0 hz1 hz2 (by rfl) (by decide) (.slice ua k uc) k ((qs.map (·.1)).flatMap vcells) (by rfl) (by exact OW.out _) ⟨w3.heap.size, 0, none⟩ 1 1 (vcells ⟨A.name, A.ty, u⟩) (by rfl) (by rfl) (by exact World.news_of_block (heap_alloc_new w3 _)) (vcell_one _) (by omega) (by simp only [maxLen]; omega) (by omega) (by have := g3.size; simp; omega) (w3.heap.size + 1) (by simp) ?_; intro gg cap w8 hown8 hgrow hat hlt8; obtain ⟨a0, a1, a2⟩ := CX.out w8 ((hgrow.block b (by have := B3.out.2; simp; omega) NB.out).trans (((grown_new w3 _).block b B3.out.2 (by simp)).trans B3.out.1))) | fail)
      have ST : Hid (w.grownBy w8 none ∧ OwnVals w8 w.heap.size w8.heap.size (.slice (some ⟨gg, 0, none⟩) (k + 1) cap) (qs ++ [(⟨A.name, A.ty, u⟩, ds)]) ∧ (qs ++ [((⟨A.name, A.ty, u⟩ : Val), ds)]).map vkey = (ps.take (k + 1)).map vkey) := by
        have gn := grown_new w3 (.cells #[.string A.name, .int .i64 A.ty, .slice u.a u.n u.c] 42)
        refine ⟨grown_trans_row (grown_trans (grown_trans hg g3) gn) hgrow (fun r e => (World.ownsRow.lt HO.out.own r e).1), ?_, ?_⟩
        · refine HO.out.snoc valFeet hsz (grown_trans g3 gn) hgrow (by simpa using hat) (owns_at_row QL.out hown8) (hu.more gn) (fun b e => ?_)
          have := nu b e
          have := gn.size
          simp at *
          omega
        · rw [take_map_key vkey HA.out, List.map_append, HKY.out]
          rfl
      clear hown8 hgrow hat hlt8 a0 a1 a2 hu nu hg3
      go_wp2_with fail
      go_roundw
      case rel => exact ⟨ST.out.1, k + 1, _, _, _, by omega, by go_num, rfl, ST.out.2.1, ST.out.2.2⟩
      case measure => simp [intOf]; omega
    · obtain rfl : k = ps.length := by omega
      rw [List.take_of_length_le (Nat.le_refl _)] at HKY
      go_wp2
      go_ret
      exact ⟨⟨ua, ps.length, uc⟩, qs, rfl, HO.out, HKY.out, hg⟩
end Go.Proofs.YtmdpeckeliplkaaDoor
