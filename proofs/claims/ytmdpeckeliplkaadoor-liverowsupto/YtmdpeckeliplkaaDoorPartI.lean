/- Joined texts: GLst, GCopyV, NSameN. -/
import Derived.Test.YtmdpeckeliplkaaDoorPartF
import Derived.Test.YtmdpeckeliplkaaDoorGNamesJ
import Derived.Deep.RegionHeld3
import Derived.Deep.AppendLies
/- A list of the call's own whose elements have lists of their own. -/
namespace Go.Proofs.YtmdpeckeliplkaaDoor
open Go.RowKit

/-- A list of the call's own: its elements, what the lists of each hold, and where all of them lie: from lo on, ahead of hi. -/
structure OwnD {α β : Type} (te : TypeId) (size : Nat) (f : α → List Value) (H : World → α → β → Prop) (foot : α → β → Nat → Prop) (w : World) (lo hi : Nat) (v : Value) (ps : List (α × β)) : Prop where
  own : OwnsL te size f w lo v (ps.map (·.1))
  row : ∀ b, v.ownBlock = some b → b < hi
  has : ∀ p ∈ ps, H w p.1 p.2
  new : ∀ p ∈ ps, ∀ b, foot p.1 p.2 b → lo ≤ b ∧ b < hi ∧ v.ownBlock ≠ some b
  le : hi ≤ w.heap.size

/-- What an element's lists hold hangs on their blocks alone. -/
def Feet {α β : Type} (H : World → α → β → Prop) (foot : α → β → Nat → Prop) : Prop := ∀ (w w' : World) (a : α) (c : β), H w a c → (∀ b, b < w.heap.size → foot a c b → w'.heap[b]? = w.heap[b]?) → H w' a c

section
variable {α β : Type} {te : TypeId} {size : Nat} {f : α → List Value} {H : World → α → β → Prop} {foot : α → β → Nat → Prop}

theorem OwnD.nil {w : World} {lo hi : Nat} (h : hi ≤ w.heap.size) : OwnD te size f H foot w lo hi (.slice none 0 0) [] :=
  ⟨OwnsL.nil .., (fun b e => by simp [Value.ownBlock] at e), (fun p hp => by cases hp), (fun p hp => by cases hp), h⟩

theorem OwnD.kept {w w' : World} {lo hi : Nat} {v : Value} {ps : List (α × β)} (HK : Feet H foot) (h : OwnD te size f H foot w lo hi v ps) (hs : hi ≤ w'.heap.size) (hk : ∀ b, lo ≤ b → b < hi → w'.heap[b]? = w.heap[b]?) : OwnD te size f H foot w' lo hi v ps :=
  ⟨owns_block h.own (fun b e => hk b (World.ownsRow.lt h.own b e).1 (h.row b e)), h.row, fun p hp => HK _ _ _ _ (h.has p hp) (fun b _ e => have k := h.new p hp b e; hk b k.1 k.2.1), h.new, hs⟩

theorem OwnD.past {w w' : World} {lo hi : Nat} {v : Value} {ps : List (α × β)} {row : Option Nat} (HK : Feet H foot) (h : OwnD te size f H foot w lo hi v ps) (hg : w.grownBy w' row) (hr : ∀ g, row = some g → g < lo ∨ hi ≤ g) : OwnD te size f H foot w' lo hi v ps :=
  h.kept HK (Nat.le_trans h.le hg.size) fun b h1 h2 => hg.block b (Nat.lt_of_lt_of_le h2 h.le) (fun e => by have := hr b e.symm; omega)

theorem OwnD.more {w w' : World} {lo hi : Nat} {v : Value} {ps : List (α × β)} (HK : Feet H foot) (h : OwnD te size f H foot w lo hi v ps) (hg : w.grownBy w' none) : OwnD te size f H foot w' lo hi v ps := h.past HK hg (by simp)

theorem OwnD.wide {w : World} {lo hi lo' hi' : Nat} {v : Value} {ps : List (α × β)} (h : OwnD te size f H foot w lo hi v ps) (hl : lo' ≤ lo) (hh : hi ≤ hi') (hw : hi' ≤ w.heap.size) : OwnD te size f H foot w lo' hi' v ps :=
  ⟨h.own.base_le hl, fun b e => Nat.lt_of_lt_of_le (h.row b e) hh, h.has, fun p hp b e => have k := h.new p hp b e; ⟨Nat.le_trans hl k.1, Nat.lt_of_lt_of_le k.2.1 hh, k.2.2⟩, hw⟩

theorem OwnD.snoc {w W w' : World} {lo hi g n cap : Nat} {v : Value} {ps : List (α × β)} {y : α} {c : β} (HK : Feet H foot) (h : OwnD te size f H foot w lo hi v ps) (hb : lo ≤ w.heap.size) (hg : w.grownBy W none) (hgr : W.grownBy w' v.ownBlock) (hat : v.ownBlock = some g ∨ g = W.heap.size)
    (own' : OwnsL te size f w' lo (.slice (some ⟨g, 0, none⟩) n cap) (ps.map (·.1) ++ [y])) (hy : H W y c) (fy : ∀ b, foot y c b → w.heap.size ≤ b ∧ b < W.heap.size) : OwnD te size f H foot w' lo w'.heap.size (.slice (some ⟨g, 0, none⟩) n cap) (ps ++ [(y, c)]) := by
  have vlt : ∀ b, v.ownBlock = some b → lo ≤ b ∧ b < w.heap.size := fun b e => World.ownsRow.lt h.own b e
  have s0 := h.le
  have s1 := hg.size
  have s2 := hgr.size
  have og : ∀ b, (Value.slice (some ⟨g, 0, none⟩) n cap).ownBlock = some b → g = b := fun b e => by simpa [Value.ownBlock] using e
  refine ⟨by rw [List.map_append]; exact own', fun b e => (World.ownsRow.lt own' b e).2, fun p hp => ?_, fun p hp b e => ?_, Nat.le_refl _⟩
  · rcases List.mem_append.1 hp with hp | hp
    · exact HK _ _ _ _ (h.has p hp) fun b hb e => (hgr.block b (by omega) (fun e2 => (h.new p hp b e).2.2 e2.symm)).trans (hg.block b hb (by simp))
    · obtain rfl : p = (y, c) := by simpa using hp
      exact HK _ _ _ _ hy fun b hb e => hgr.block b hb (fun e2 => by have := vlt b e2.symm; have := fy b e; omega)
  · rcases List.mem_append.1 hp with hp | hp
    · have k := h.new p hp b e
      refine ⟨k.1, by omega, fun e2 => ?_⟩
      have e3 := og b e2
      subst e3
      rcases hat with h2 | h2
      · exact k.2.2 h2
      · omega
    · obtain rfl : p = (y, c) := by simpa using hp
      have k := fy b e
      refine ⟨by omega, by omega, fun e2 => ?_⟩
      have e3 := og b e2
      subst e3
      rcases hat with h2 | h2
      · have := vlt _ h2; omega
      · omega
end

/-- A value's dims. -/
def valH (w : World) (v : Val) (ds : List Int) : Prop := IsInts w v.dv.v ds
def valFt (v : Val) (_ : List Int) (b : Nat) : Prop := v.dv.v.ownBlock = some b

theorem valFeet : Feet valH valFt := fun _ _ _ _ h hk => IsInts.kept h fun b hb e => hk b hb e

/-- A named tensor's dims and elements. -/
def namH (w : World) (v : Nam) (q : List Int × List Int) : Prop := IsInts w v.dv.v q.1 ∧ IsInts w v.tv.v q.2
def namFt (v : Nam) (_ : List Int × List Int) (b : Nat) : Prop := v.dv.v.ownBlock = some b ∨ v.tv.v.ownBlock = some b

theorem namFeet : Feet namH namFt := fun _ _ _ _ h hk => ⟨h.1.kept fun b hb e => hk b hb (Or.inl e), h.2.kept fun b hb e => hk b hb (Or.inr e)⟩

/-- A node's lists. -/
structure Ni where
  ins : List ByteArray
  xs : List Atr
  cs : List Cont

def nodH (w : World) (n : Nod) (q : Ni) : Prop := NodeIn w n q.ins q.xs q.cs
def nodFt (n : Nod) (q : Ni) (b : Nat) : Prop := n.iv.v.ownBlock = some b ∨ n.av.v.ownBlock = some b ∨ ∃ a ∈ q.xs, a.dv.v.ownBlock = some b ∨ a.tv.v.ownBlock = some b ∨ a.iv.v.ownBlock = some b

theorem nodFeet : Feet nodH nodFt := fun _ _ _ _ h hk => ⟨h.ins.kept fun b hb e => hk b hb (Or.inl e), h.av.kept fun b hb e => hk b hb (Or.inr (Or.inl e)), fun j a e => by
  obtain ⟨c, e1, e2⟩ := h.has j a e
  exact ⟨c, e1, e2.kept fun b hb e3 => hk b hb (Or.inr (Or.inr ⟨a, List.mem_of_getElem? e, e3⟩))⟩, h.few, h.short⟩

abbrev OwnVals (w : World) (lo hi : Nat) (v : Value) (ps : List (Val × List Int)) : Prop := OwnD 42 3 vcells valH valFt w lo hi v ps
abbrev OwnNams (w : World) (lo hi : Nat) (v : Value) (ps : List (Nam × List Int × List Int)) : Prop := OwnD 59 4 mcells namH namFt w lo hi v ps
abbrev OwnNods (w : World) (lo hi : Nat) (v : Value) (ps : List (Nod × Ni)) : Prop := OwnD 52 5 ncells nodH nodFt w lo hi v ps
end Go.Proofs.YtmdpeckeliplkaaDoor

/- Values of their own, by the walk. -/
namespace Go.Proofs.YtmdpeckeliplkaaDoor
open Go.RowKit

def vkey (p : Val × List Int) : ByteArray × Int × List Int := (p.1.name, p.1.ty, p.2)
def mkey (p : Nam × List Int × List Int) : ByteArray × Int × List Int × List Int := (p.1.name, p.1.ty, p.2)

theorem infoVal : (Tryd.prog.info? 42).map (fun i => (i.zero, i.size, i.bytes)) = some (some (.agg #[.string ⟨#[]⟩, .int .i64 0, .slice none 0 0]), 3, 48) := by kernel_rfl

theorem vcell_one (v : Val) : ∀ u ∈ vcells v, u.oneCell' = true := by
  intro u hu
  simp only [vcells, List.mem_cons, List.not_mem_nil, or_false] at hu
  rcases hu with rfl | rfl | rfl <;> rfl

theorem take_map_key {α κ : Type} (f : α → κ) {xs : List α} {k : Nat} {x : α} (hk : xs[k]? = some x) : (xs.take (k + 1)).map f = (xs.take k).map f ++ [f x] := by
  rw [List.take_add_one, List.map_append, hk]
  rfl

theorem owns_row_at {α : Type} {te : TypeId} {size n : Nat} {f : α → List Value} {w : World} {base : Nat} {v : Value} {xs : List α} (h : OwnsL te size f w base v xs) (hn : xs.length = n) : w.ownsRow base te size v n (xs.flatMap f) := by
  subst hn
  exact h

theorem owns_at_row {α : Type} {te : TypeId} {size n : Nat} {f : α → List Value} {w : World} {base : Nat} {v : Value} {xs : List α} {y : α} (hn : xs.length = n) (h : w.ownsRow base te size v (n + 1) (xs.flatMap f ++ f y)) : OwnsL te size f w base v (xs ++ [y]) := by
  subst hn
  unfold OwnsL
  rw [List.length_append, List.flatMap_append]
  simpa using h

set_option maxRecDepth 100000 in
set_option maxHeartbeats 3200000 in
theorem copyvals_any (v : Value) (ps : List (Val × List Int)) (w : World) (hv : IsVals w v (ps.map (·.1))) (hd : ∀ p ∈ ps, IsInts w p.1.dv.v p.2) (hl : ps.length ≤ 1048576) :
    Calls Tryd.prog 19 #[v] w fun e w' => ∃ (u : Sl) (qs : List (Val × List Int)), e = .returned u.v ∧ OwnVals w' w.heap.size w'.heap.size u.v qs ∧ qs.map vkey = ps.map vkey ∧ w.grownBy w' none := by
  obtain ⟨i0, hi, hz0, hz1, hz2⟩ := info_parts infoVal
  have H := hide hv
  have HD := hide hd
  obtain ⟨xa, xc, e1, p1, p2, p3⟩ := hv.form
  rw [List.length_map] at e1 p1 p3
  subst e1
  clear hv hd
  go_enter Tryd.func19, Tryd.ntmps19
  go_wp2_with fail
  go_loopw [3, 4] (fun l i wr => w.grownBy wr none ∧ ∃ (k : Nat) (ua : Option Addr) (uc : Nat) (qs : List (Val × List Int)), k ≤ ps.length ∧ i = .int .i64 k ∧ l = .slice ua k uc ∧ OwnVals wr w.heap.size wr.heap.size (.slice ua k uc) qs ∧ qs.map vkey = (ps.take k).map vkey) (fun _ i _ => ps.length - (intOf i).toNat)
  case atStart => exact ⟨grown_refl _, 0, none, 0, [], Nat.zero_le _, rfl, rfl, OwnD.nil (Nat.le_refl _), rfl⟩
  case round =>
    obtain ⟨hg, k, ua, uc, qs, hk, rfl, rfl, hown, hkey⟩ := hrel
    have HO := hide hown
    have HKY := hide hkey
    have QL : Hid ((qs.map (·.1)).length = k) := by show _ = _; have h := congrArg List.length hkey; simp only [List.length_map, List.length_take] at h; rw [List.length_map]; omega
    clear hown hkey
    by_cases hlt : k < ps.length
    · have HLk := H.out.more hg
      have hlt' : k < (ps.map (·.1)).length := by rw [List.length_map]; exact hlt
      obtain ⟨b, off, rfl⟩ := HLk.addr hlt'
      obtain ⟨a0, a1, a2⟩ := HLk.val k hlt'
      obtain ⟨A, ds, hA⟩ : ∃ A ds, ps[k] = (A, ds) := ⟨_, _, rfl⟩
      have HA : Hid (ps[k]? = some (A, ds)) := by show _ = _; rw [List.getElem?_eq_getElem hlt, hA]
      have eA : (ps.map (·.1))[k] = A := by rw [List.getElem_map, hA]
      rw [eA] at a0 a1 a2
      have HDS : Hid (IsInts wr A.dv.v ds) := (HD.out (A, ds) (by rw [← hA]; exact List.getElem_mem hlt)).more hg
      have CI := hide (fun (wx : World) (hx : wr.grownBy wx none) => copyints_any A.dv.v ds wx (HDS.out.more hx))
      have CX := hide (fun (wx : World) (hx : wx.heap[b]? = wr.heap[b]?) => And.intro ((World.cell?_of_block hx).trans a0) (And.intro ((World.cell?_of_block hx).trans a1) ((World.cell?_of_block hx).trans a2)))
      have hbw : b < w.heap.size := World.block_lt_of_cell? w _ (H.out.val k hlt').1
      have NB : Hid (some b ≠ (Value.slice ua k uc).ownBlock) := fun e => by have := World.ownsRow.lt HO.out.own b e.symm; omega
      have hsz := hg.size
      have gd := grown_drew (grown_refl wr)
      clear HLk eA hA
      go_wp2_with fail
      go_region_held3 (fun w' => w'.cell? ⟨b, off + k * 3, none⟩ = some (.string A.name) ∧ w'.cell? ⟨b, off + k * 3 + 1, none⟩ = some (.int .i64 A.ty) ∧ w'.cell? ⟨b, off + k * 3 + 2, none⟩ = some (.slice A.dv.a A.dv.n A.dv.c)) (go_keep) (first | (go_at_call 38; refine (CI.out _ (by exact gd)).mono ?_; rintro e w3 ⟨u, rfl, hu, nu, hg3⟩; have g3 : wr.grownBy w3 none := grown_trans gd hg3; have B3 : Hid (w3.heap[b]? = wr.heap[b]? ∧ b < w3.heap.size) := (And.intro (g3.block b (by omega) (by simp)) (by have := g3.size; omega)); obtain ⟨a0, a1, a2⟩ := CX.out w3 B3.out.1; have OW : Hid (∀ o, (w3.alloc o).ownsRow w.heap.size 42 3 (.slice ua k uc) k ((qs.map (·.1)).flatMap vcells)) := (fun o => owns_row_at ((HO.out.own.more g3).more (grown_new _ _)) QL.out)) | (refine step_append_lies _ (by rfl) (.tmp 11) (.tmp 29) 23 (by rfl) w.heap.size 42 i0 (.agg #[.string ⟨#[]⟩, .int .i64 0, .slice none 0 0]) 3 48 Tryd.underlying23 hi hz0 hz1 hz2 (by rfl) (by decide) (.slice ua k uc) k ((qs.map (·.1)).flatMap vcells) (by rfl) (by exact OW.out _) ⟨w3.heap.size, 0, none⟩ 1 1 (vcells ⟨A.name, A.ty, u⟩) (by rfl) (by rfl) (by exact World.news_of_block (heap_alloc_new w3 _)) (vcell_one _) (by omega) (by simp only [maxLen]; omega) (by omega) (by have := g3.size; simp; omega) (w3.heap.size + 1) (by simp) ?_; intro gg cap w8 hown8 hgrow hat hlt8; obtain ⟨a0, a1, a2⟩ := CX.out w8 ((hgrow.block b (by have := B3.out.2; simp; omega) NB.out).trans (((grown_new w3 _).block b B3.out.2 (by simp)).trans B3.out.1))) | fail)
      have ST : Hid (w.grownBy w8 none ∧ OwnVals w8 w.heap.size w8.heap.size (.slice (some ⟨gg, 0, none⟩) (k + 1) cap) (qs ++ [(⟨A.name, A.ty, u⟩, ds)]) ∧ (qs ++ [((⟨A.name, A.ty, u⟩ : Val), ds)]).map vkey = (ps.take (k + 1)).map vkey) := by
        have gn := grown_new w3 (.cells #[.string A.name, .int .i64 A.ty, .slice u.a u.n u.c] 42)
        refine ⟨grown_trans_row (grown_trans (grown_trans hg g3) gn) hgrow (fun r e => (World.ownsRow.lt HO.out.own r e).1), ?_, ?_⟩
        · refine HO.out.snoc valFeet hsz (grown_trans g3 gn) hgrow (by simpa using hat) (owns_at_row QL.out hown8) (hu.more gn) (fun b e => ?_)
          have := nu b e
          have := gn.size
          simp at *
          omega
        · rw [take_map_key vkey HA.out, List.map_append, HKY.out]
          rfl
      clear hown8 hgrow hat hlt8 a0 a1 a2 hu nu hg3
      go_wp2_with fail
      go_roundw
      case rel => exact ⟨ST.out.1, k + 1, _, _, _, by omega, by go_num, rfl, ST.out.2.1, ST.out.2.2⟩
      case measure => simp [intOf]; omega
    · obtain rfl : k = ps.length := by omega
      rw [List.take_of_length_le (Nat.le_refl _)] at HKY
      go_wp2
      go_ret
      exact ⟨⟨ua, ps.length, uc⟩, qs, rfl, HO.out, HKY.out, hg⟩
end Go.Proofs.YtmdpeckeliplkaaDoor

/- The same tensors, attributes and nodes: the document's answer, by the walk. -/
namespace Go.Proofs.YtmdpeckeliplkaaDoor
open Go.RowKit

theorem ints_addr' {w : World} {a : Option Addr} {l c : Nat} {zs : List Int} (h : IsInts w (.slice a l c) zs) {k : Nat} (hk : k < zs.length) : ∃ b off, a = some ⟨b, off, none⟩ ∧ w.cell? ⟨b, off + k, none⟩ = some (.int .i64 (zs.getD k 0)) := by
  obtain ⟨ao, cap, e, h1, h2, h3, h4, h5, h6⟩ := h
  cases e
  obtain ⟨b, off, rfl, hc⟩ := h5 (by omega)
  exact ⟨b, off, rfl, hc k hk⟩

set_option maxRecDepth 100000 in
set_option maxHeartbeats 1600000 in
theorem sameints_eq (u v : Value) (xs : List Int) (w : World) (hu : IsInts w u xs) (hv : IsInts w v xs) :
    Calls Tryd.prog 42 #[u, v] w fun e w' => e = .returned (.bool true) ∧ w.grownBy w' none := by
  have HU := hide hu
  have HV := hide hv
  obtain ⟨ua, uc, rfl, h1, h2, h3, -⟩ := hu
  obtain ⟨va, vc, rfl, k1, k2, k3, -⟩ := hv
  go_enter Tryd.func42, Tryd.ntmps42
  go_wp2
  go_loopw [5] (fun i wr => w.grownBy wr none ∧ ∃ k : Nat, k ≤ xs.length ∧ i = .int .i64 k) (fun i _ => xs.length - (intOf i).toNat)
  case atStart => exact ⟨grown_refl _, 0, Nat.zero_le _, rfl⟩
  case round =>
    obtain ⟨hg, k, hk, rfl⟩ := hrel
    by_cases hlt : k < xs.length
    · obtain ⟨ub, uo, rfl, a0⟩ := ints_addr' (HU.out.more hg) hlt
      obtain ⟨vb, vo, rfl, b0⟩ := ints_addr' (HV.out.more hg) hlt
      obtain ⟨X, hX⟩ : ∃ X, X = xs.getD k 0 := ⟨_, rfl⟩
      rw [← hX] at a0 b0
      clear hX
      go_wp2
      go_region
      all_goals
        go_wp2
        go_roundw
        case rel => exact ⟨grown_drew hg, k + 1, by omega, by go_num⟩
        case measure => simp [intOf]; omega
    · go_wp2
      go_ret
      exact ⟨rfl, hg⟩

set_option maxRecDepth 100000 in
set_option maxHeartbeats 1600000 in
theorem sameten_eq (ty : Int) (d t d' t' : Value) (ds ts : List Int) (w : World) (hd : IsInts w d ds) (ht : IsInts w t ts) (hd' : IsInts w d' ds) (ht' : IsInts w t' ts) :
    Calls Tryd.prog 28 #[.agg #[.int .i64 ty, d, t], .agg #[.int .i64 ty, d', t']] w fun e w' => e = .returned (.bool true) ∧ w.grownBy w' none := by
  have HD := hide hd
  have HD' := hide hd'
  have HT := hide ht
  have HT' := hide ht'
  obtain ⟨da, dc, rfl, -⟩ := hd
  obtain ⟨ea, ec, rfl, -⟩ := hd'
  obtain ⟨ua, uc, rfl, h1, h2, h3, -⟩ := ht
  obtain ⟨va, vc, rfl, k1, k2, k3, -⟩ := ht'
  obtain ⟨w0, hw0⟩ : ∃ w0, w0 = (w.alloc (.cells #[.int .i64 ty, .slice da ds.length dc, .slice ua ts.length uc] 57)).alloc (.cells #[.int .i64 ty, .slice ea ds.length ec, .slice va ts.length vc] 57) := ⟨_, rfl⟩
  have g0 : w.grownBy w0 none := by rw [hw0]; exact grown_trans (grown_new _ _) (grown_new _ _)
  have hbx := two_boxes w (.cells #[.int .i64 ty, .slice da ds.length dc, .slice ua ts.length uc] 57) (.cells #[.int .i64 ty, .slice ea ds.length ec, .slice va ts.length vc] 57)
  have hbx0 := hbx
  rw [← hw0] at hbx
  have B1 : Hid (∀ wx, w0.grownBy wx none → wx.heap[w.heap.size]? = some (.cells #[.int .i64 ty, .slice da ds.length dc, .slice ua ts.length uc] 57 (0, 0))) := fun wx hg => box_kept hbx.1 hg
  have B2 : Hid (∀ wx, w0.grownBy wx none → wx.heap[w.heap.size + 1]? = some (.cells #[.int .i64 ty, .slice ea ds.length ec, .slice va ts.length vc] 57 (0, 0))) := fun wx hg => box_kept hbx.2 hg
  obtain ⟨a0, a1, a2⟩ := ten_cells hbx0.1
  obtain ⟨b0, b1, b2⟩ := ten_cells hbx0.2
  clear hbx hbx0
  go_enter Tryd.func28, Tryd.ntmps28
  go_wp2_with fail
  rw [← hw0]
  clear hw0 a0 a1 a2 b0 b1 b2
  refine (sameints_eq _ _ ds w0 (HD.out.more g0) (HD'.out.more g0)).mono ?_
  rintro e w1 ⟨rfl, hg1⟩
  obtain ⟨a0, a1, a2⟩ := ten_cells (B1.out w1 hg1)
  obtain ⟨b0, b1, b2⟩ := ten_cells (B2.out w1 hg1)
  go_wp2_with fail
  clear a0 a1 a2 b0 b1 b2
  go_loopw [5] (fun i wr => w0.grownBy wr none ∧ ∃ k : Nat, k ≤ ts.length ∧ i = .int .i64 k) (fun i _ => ts.length - (intOf i).toNat)
  case atStart => exact ⟨hg1, 0, Nat.zero_le _, rfl⟩
  case round =>
    obtain ⟨hg, k, hk, rfl⟩ := hrel
    obtain ⟨a0, a1, a2⟩ := ten_cells (B1.out wr hg)
    obtain ⟨b0, b1, b2⟩ := ten_cells (B2.out wr hg)
    by_cases hlt : k < ts.length
    · obtain ⟨ub, uo, rfl, x0⟩ := ints_addr' (HT.out.more (grown_trans g0 hg)) hlt
      obtain ⟨vb, vo, rfl, y0⟩ := ints_addr' (HT'.out.more (grown_trans g0 hg)) hlt
      obtain ⟨X, hX⟩ : ∃ X, X = ts.getD k 0 := ⟨_, rfl⟩
      rw [← hX] at x0 y0
      clear hX
      go_wp2
      go_region
      all_goals
        go_wp2
        go_roundw
        case rel => exact ⟨grown_drew hg, k + 1, by omega, by go_num⟩
        case measure => simp [intOf]; omega
    · go_wp2
      go_ret
      exact ⟨rfl, grown_trans g0 hg⟩

set_option maxRecDepth 100000 in
set_option maxHeartbeats 3200000 in
theorem sameattr_eq (A D : Atr) (c : Cont) (w : World) (he : strip A = strip D) (ha : Has w A c) (hb : Has w D c) :
    Calls Tryd.prog 43 #[aval A, aval D] w fun e w' => e = .returned (.bool true) ∧ w.grownBy w' none := by
  have HA := hide ha
  have HB := hide hb
  have vd : aval D = .agg #[.string A.name, .int .i64 A.kind, .int .i64 A.f, .int .i64 A.i, .string A.s, .int .i64 A.ty, .slice D.dv.a D.dv.n D.dv.c, .slice D.tv.a D.tv.n D.tv.c, .slice D.iv.a D.iv.n D.iv.c] := by
    obtain ⟨d0, d1, d2, d3, d4, d5, d6, d7, d8⟩ := D
    obtain ⟨a0, a1, a2, a3, a4, a5, a6, a7, a8⟩ := A
    simp only [strip, Atr.mk.injEq] at he
    obtain ⟨rfl, rfl, rfl, rfl, rfl, rfl, -⟩ := he
    rfl
  rw [vd]
  unfold aval
  have hai := ha.i
  have hbi := hb.i
  obtain ⟨ia, icp, ei, h1, h2, h3, -⟩ := hai
  obtain ⟨ja, jcp, ej, k1, k2, k3, -⟩ := hbi
  simp only [Sl.v, Value.slice.injEq] at ei ej
  have en := ei.2.1
  have em := ej.2.1
  obtain ⟨w0, hw0⟩ : ∃ w0, w0 = (w.alloc (.cells #[.string A.name, .int .i64 A.kind, .int .i64 A.f, .int .i64 A.i, .string A.s, .int .i64 A.ty, .slice A.dv.a A.dv.n A.dv.c, .slice A.tv.a A.tv.n A.tv.c, .slice A.iv.a A.iv.n A.iv.c] 82)).alloc (.cells #[.string A.name, .int .i64 A.kind, .int .i64 A.f, .int .i64 A.i, .string A.s, .int .i64 A.ty, .slice D.dv.a D.dv.n D.dv.c, .slice D.tv.a D.tv.n D.tv.c, .slice D.iv.a D.iv.n D.iv.c] 82) := ⟨_, rfl⟩
  have g0 : w.grownBy w0 none := by rw [hw0]; exact grown_trans (grown_new _ _) (grown_new _ _)
  have hbx := two_boxes w (.cells #[.string A.name, .int .i64 A.kind, .int .i64 A.f, .int .i64 A.i, .string A.s, .int .i64 A.ty, .slice A.dv.a A.dv.n A.dv.c, .slice A.tv.a A.tv.n A.tv.c, .slice A.iv.a A.iv.n A.iv.c] 82) (.cells #[.string A.name, .int .i64 A.kind, .int .i64 A.f, .int .i64 A.i, .string A.s, .int .i64 A.ty, .slice D.dv.a D.dv.n D.dv.c, .slice D.tv.a D.tv.n D.tv.c, .slice D.iv.a D.iv.n D.iv.c] 82)
  have hbx0 := hbx
  rw [← hw0] at hbx
  have B1 : Hid (∀ wx, w0.grownBy wx none → wx.heap[w.heap.size]? = some (.cells #[.string A.name, .int .i64 A.kind, .int .i64 A.f, .int .i64 A.i, .string A.s, .int .i64 A.ty, .slice A.dv.a A.dv.n A.dv.c, .slice A.tv.a A.tv.n A.tv.c, .slice A.iv.a A.iv.n A.iv.c] 82 (0, 0))) := fun wx hg => box_kept hbx.1 hg
  have B2 : Hid (∀ wx, w0.grownBy wx none → wx.heap[w.heap.size + 1]? = some (.cells #[.string A.name, .int .i64 A.kind, .int .i64 A.f, .int .i64 A.i, .string A.s, .int .i64 A.ty, .slice D.dv.a D.dv.n D.dv.c, .slice D.tv.a D.tv.n D.tv.c, .slice D.iv.a D.iv.n D.iv.c] 82 (0, 0))) := fun wx hg => box_kept hbx.2 hg
  obtain ⟨a0, a1, a2, a3, a4, a5, a6, a7, a8⟩ := atr_cells (a := A) hbx0.1
  obtain ⟨b0, b1, b2, b3, b4, b5, b6, b7, b8⟩ := atr_cells (a := ⟨A.name, A.kind, A.f, A.i, A.s, A.ty, D.dv, D.tv, D.iv⟩) hbx0.2
  have ST := hide (sameten_eq A.ty A.dv.v A.tv.v D.dv.v D.tv.v c.d c.t w0 (ha.d.more g0) (ha.t.more g0) (hb.d.more g0) (hb.t.more g0))
  clear hbx hbx0 ha hb he vd ei ej
  rw [en] at a8 B1
  rw [em] at b8 B2
  rw [en, em]
  rw [en, em] at hw0
  clear en em
  go_enter Tryd.func43, Tryd.ntmps43
  go_wp2_with fail
  rw [← hw0]
  clear hw0 a0 a1 a2 a3 a4 a5 a6 a7 a8 b0 b1 b2 b3 b4 b5 b6 b7 b8
  refine ST.out.mono ?_
  rintro e w1 ⟨rfl, hg1⟩
  obtain ⟨a0, a1, a2, a3, a4, a5, a6, a7, a8⟩ := atr_cells (a := ⟨A.name, A.kind, A.f, A.i, A.s, A.ty, A.dv, A.tv, ⟨A.iv.a, c.i.length, A.iv.c⟩⟩) (B1.out w1 hg1)
  obtain ⟨b0, b1, b2, b3, b4, b5, b6, b7, b8⟩ := atr_cells (a := ⟨A.name, A.kind, A.f, A.i, A.s, A.ty, D.dv, D.tv, ⟨D.iv.a, c.i.length, D.iv.c⟩⟩) (B2.out w1 hg1)
  go_wp2_with fail
  clear a0 a1 a2 a3 a4 a5 a6 a7 a8 b0 b1 b2 b3 b4 b5 b6 b7 b8
  go_loopw [5] (fun i wr => w0.grownBy wr none ∧ ∃ k : Nat, k ≤ c.i.length ∧ i = .int .i64 k) (fun i _ => c.i.length - (intOf i).toNat)
  case atStart => exact ⟨hg1, 0, Nat.zero_le _, rfl⟩
  case round =>
    obtain ⟨hg, k, hk, rfl⟩ := hrel
    obtain ⟨a0, a1, a2, a3, a4, a5, a6, a7, a8⟩ := atr_cells (a := ⟨A.name, A.kind, A.f, A.i, A.s, A.ty, A.dv, A.tv, ⟨A.iv.a, c.i.length, A.iv.c⟩⟩) (B1.out wr hg)
    obtain ⟨b0, b1, b2, b3, b4, b5, b6, b7, b8⟩ := atr_cells (a := ⟨A.name, A.kind, A.f, A.i, A.s, A.ty, D.dv, D.tv, ⟨D.iv.a, c.i.length, D.iv.c⟩⟩) (B2.out wr hg)
    simp only at a8 b8
    by_cases hlt : k < c.i.length
    · obtain ⟨ub, uo, ea, x0⟩ := ints_addr' (HA.out.i.more (grown_trans g0 hg)) hlt
      obtain ⟨vb, vo, eb, y0⟩ := ints_addr' (HB.out.i.more (grown_trans g0 hg)) hlt
      rw [ea] at a8
      rw [eb] at b8
      obtain ⟨X, hX⟩ : ∃ X, X = c.i.getD k 0 := ⟨_, rfl⟩
      rw [← hX] at x0 y0
      clear hX ea eb
      go_wp2
      go_region
      all_goals
        go_wp2
        go_roundw
        case rel => exact ⟨grown_drew hg, k + 1, by omega, by go_num⟩
        case measure => simp [intOf]; omega
    · go_wp2
      go_ret
      exact ⟨rfl, grown_trans g0 hg⟩

set_option maxRecDepth 100000 in
set_option maxHeartbeats 6400000 in
theorem samenode_eq (op nam out : ByteArray) (iv av jv bv : Sl) (ins : List ByteArray) (xs ys : List Atr) (cs : List Cont) (w : World) (h1 : NodeIn w ⟨op, nam, iv, out, av⟩ ins ys cs) (h2 : NodeIn w ⟨op, nam, jv, out, bv⟩ ins xs cs) (he : ys.map strip = xs.map strip) :
    Calls Tryd.prog 27 #[nval ⟨op, nam, iv, out, av⟩, nval ⟨op, nam, jv, out, bv⟩] w fun e w' => e = .returned (.bool true) ∧ w.grownBy w' none := by
  have H1 := hide h1
  have H2 := hide h2
  have HE := hide he
  have hyl : ys.length = xs.length := by have := congrArg List.length he; simpa using this
  obtain ⟨iva, ivc, ei, i1, i2, i3⟩ := h1.ins.form
  obtain ⟨jva, jvc, ej, j1, j2, j3⟩ := h2.ins.form
  obtain ⟨ava, avc, ea, a1, a2, a3⟩ := h1.av.form
  obtain ⟨bva, bvc, eb, b1, b2, b3⟩ := h2.av.form
  obtain ⟨xa, xn, xc⟩ := iv
  obtain ⟨ya, yn, yc⟩ := jv
  obtain ⟨za, zn, zc⟩ := av
  obtain ⟨ua, un, uc⟩ := bv
  simp only [Sl.v, Value.slice.injEq] at ei ej ea eb
  obtain ⟨rfl, rfl, rfl⟩ := ei
  obtain ⟨rfl, rfl, rfl⟩ := ej
  obtain ⟨rfl, rfl, rfl⟩ := ea
  obtain ⟨rfl, rfl, rfl⟩ := eb
  rw [hyl] at a1 a3 H1 ⊢
  clear h1 h2 he hyl
  unfold nval
  simp only
  obtain ⟨w0, hw0⟩ : ∃ w0, w0 = (w.alloc (.cells #[.string op, .string nam, .slice xa ins.length xc, .string out, .slice za xs.length zc] 52)).alloc (.cells #[.string op, .string nam, .slice ya ins.length yc, .string out, .slice ua xs.length uc] 52) := ⟨_, rfl⟩
  have g0 : w.grownBy w0 none := by rw [hw0]; exact grown_trans (grown_new _ _) (grown_new _ _)
  have hbx := two_boxes w (.cells #[.string op, .string nam, .slice xa ins.length xc, .string out, .slice za xs.length zc] 52) (.cells #[.string op, .string nam, .slice ya ins.length yc, .string out, .slice ua xs.length uc] 52)
  have hbx0 := hbx
  rw [← hw0] at hbx
  have B1 : Hid (∀ wx, w0.grownBy wx none → wx.heap[w.heap.size]? = some (.cells #[.string op, .string nam, .slice xa ins.length xc, .string out, .slice za xs.length zc] 52 (0, 0))) := fun wx hg => box_kept hbx.1 hg
  have B2 : Hid (∀ wx, w0.grownBy wx none → wx.heap[w.heap.size + 1]? = some (.cells #[.string op, .string nam, .slice ya ins.length yc, .string out, .slice ua xs.length uc] 52 (0, 0))) := fun wx hg => box_kept hbx.2 hg
  obtain ⟨n0, n1, n2, n3, n4⟩ := nod_cells (n := ⟨op, nam, ⟨xa, ins.length, xc⟩, out, ⟨za, xs.length, zc⟩⟩) hbx0.1
  obtain ⟨m0, m1, m2, m3, m4⟩ := nod_cells (n := ⟨op, nam, ⟨ya, ins.length, yc⟩, out, ⟨ua, xs.length, uc⟩⟩) hbx0.2
  clear hbx hbx0
  go_enter Tryd.func27, Tryd.ntmps27
  go_wp2_with fail
  rw [← hw0]
  clear hw0 n0 n1 n2 n3 n4 m0 m1 m2 m3 m4
  go_loopw [5] (fun i wr => w0.grownBy wr none ∧ ∃ k : Nat, k ≤ ins.length ∧ i = .int .i64 k) (fun i _ => ins.length - (intOf i).toNat)
  case atStart => exact ⟨grown_refl _, 0, Nat.zero_le _, rfl⟩
  case round =>
    obtain ⟨hg, k, hk, rfl⟩ := hrel
    obtain ⟨n0, n1, n2, n3, n4⟩ := nod_cells (n := ⟨op, nam, ⟨xa, ins.length, xc⟩, out, ⟨za, xs.length, zc⟩⟩) (B1.out wr hg)
    obtain ⟨m0, m1, m2, m3, m4⟩ := nod_cells (n := ⟨op, nam, ⟨ya, ins.length, yc⟩, out, ⟨ua, xs.length, uc⟩⟩) (B2.out wr hg)
    simp only at n2 n4 m2 m4
    by_cases hlt : k < ins.length
    · have I1 := H1.out.ins.more (grown_trans g0 hg)
      have I2 := H2.out.ins.more (grown_trans g0 hg)
      obtain ⟨ub, uo, rfl⟩ := I1.addr hlt
      obtain ⟨vb, vo, rfl⟩ := I2.addr hlt
      have x0 := str_at I1 k hlt
      have y0 := str_at I2 k hlt
      obtain ⟨X, hX⟩ : ∃ X, X = ins[k] := ⟨_, rfl⟩
      rw [← hX] at x0 y0
      clear hX I1 I2
      go_wp2
      go_region
      all_goals
        go_wp2
        go_roundw
        case rel => exact ⟨grown_drew hg, k + 1, by omega, by go_num⟩
        case measure => simp [intOf]; omega
    · obtain ⟨wo, rfl⟩ : ∃ wo, wo = wr := ⟨_, rfl⟩
      go_wp2_with fail
      clear n0 n1 n2 n3 n4 m0 m1 m2 m3 m4
      go_loopw [6] (fun i wr => w0.grownBy wr none ∧ ∃ k : Nat, k ≤ xs.length ∧ i = .int .i64 k) (fun i _ => xs.length - (intOf i).toNat)
      case atStart => exact ⟨hg, 0, Nat.zero_le _, rfl⟩
      case round =>
        obtain ⟨hg, k, hk, rfl⟩ := hrel
        obtain ⟨n0, n1, n2, n3, n4⟩ := nod_cells (n := ⟨op, nam, ⟨xa, ins.length, xc⟩, out, ⟨za, xs.length, zc⟩⟩) (B1.out wr hg)
        obtain ⟨m0, m1, m2, m3, m4⟩ := nod_cells (n := ⟨op, nam, ⟨ya, ins.length, yc⟩, out, ⟨ua, xs.length, uc⟩⟩) (B2.out wr hg)
        simp only at n2 n4 m2 m4
        by_cases hlt : k < xs.length
        · have A1 := H1.out.av.more (grown_trans g0 hg)
          have A2 := H2.out.av.more (grown_trans g0 hg)
          have hyk : k < ys.length := by have := congrArg List.length HE.out; simp at this; omega
          obtain ⟨ub, uo, rfl⟩ := A1.addr hyk
          obtain ⟨vb, vo, rfl⟩ := A2.addr hlt
          obtain ⟨p0, p1, p2, p3, p4, p5, p6, p7, p8⟩ := A1.attr k hyk
          obtain ⟨q0, q1, q2, q3, q4, q5, q6, q7, q8⟩ := A2.attr k hlt
          obtain ⟨c, hc, hc1⟩ := H1.out.has k ys[k] (List.getElem?_eq_getElem hyk)
          obtain ⟨c', hc', hc2⟩ := H2.out.has k xs[k] (List.getElem?_eq_getElem hlt)
          obtain rfl : c = c' := Option.some.inj (hc.symm.trans hc')
          have hst : strip ys[k] = strip xs[k] := by
            have h := congrArg (fun l : List Atr => l[k]?) HE.out
            simp only [List.getElem?_map, List.getElem?_eq_getElem hyk, List.getElem?_eq_getElem hlt, Option.map_some, Option.some.injEq] at h
            exact h
          have SA := hide (sameattr_eq ys[k] xs[k] c wr.drew hst (hc1.more (grown_trans g0 (grown_drew hg))) (hc2.more (grown_trans g0 (grown_drew hg))))
          obtain ⟨A, hA⟩ : ∃ A, A = ys[k] := ⟨_, rfl⟩
          obtain ⟨D, hD⟩ : ∃ D, D = xs[k] := ⟨_, rfl⟩
          rw [← hA] at p0 p1 p2 p3 p4 p5 p6 p7 p8 SA
          rw [← hD] at q0 q1 q2 q3 q4 q5 q6 q7 q8 SA
          unfold aval at SA
          clear A1 A2 hA hD hc hc' hc1 hc2 hst
          go_wp2_with fail
          go_region_held3 (fun w' => w'.cell? ⟨w.heap.size, 4, none⟩ = some (.slice (some ⟨ub, uo, none⟩) xs.length zc) ∧ w'.cell? ⟨w.heap.size + 1, 4, none⟩ = some (.slice (some ⟨vb, vo, none⟩) xs.length uc) ∧ w'.cell? ⟨ub, uo + k * 9, none⟩ = some (.string A.name) ∧ w'.cell? ⟨ub, uo + k * 9 + 1, none⟩ = some (.int .i64 A.kind) ∧ w'.cell? ⟨ub, uo + k * 9 + 2, none⟩ = some (.int .i64 A.f) ∧ w'.cell? ⟨ub, uo + k * 9 + 3, none⟩ = some (.int .i64 A.i) ∧ w'.cell? ⟨ub, uo + k * 9 + 4, none⟩ = some (.string A.s) ∧ w'.cell? ⟨ub, uo + k * 9 + 5, none⟩ = some (.int .i64 A.ty) ∧ w'.cell? ⟨ub, uo + k * 9 + 6, none⟩ = some (.slice A.dv.a A.dv.n A.dv.c) ∧ w'.cell? ⟨ub, uo + k * 9 + 7, none⟩ = some (.slice A.tv.a A.tv.n A.tv.c) ∧ w'.cell? ⟨ub, uo + k * 9 + 8, none⟩ = some (.slice A.iv.a A.iv.n A.iv.c) ∧ w'.cell? ⟨vb, vo + k * 9, none⟩ = some (.string D.name) ∧ w'.cell? ⟨vb, vo + k * 9 + 1, none⟩ = some (.int .i64 D.kind) ∧ w'.cell? ⟨vb, vo + k * 9 + 2, none⟩ = some (.int .i64 D.f) ∧ w'.cell? ⟨vb, vo + k * 9 + 3, none⟩ = some (.int .i64 D.i) ∧ w'.cell? ⟨vb, vo + k * 9 + 4, none⟩ = some (.string D.s) ∧ w'.cell? ⟨vb, vo + k * 9 + 5, none⟩ = some (.int .i64 D.ty) ∧ w'.cell? ⟨vb, vo + k * 9 + 6, none⟩ = some (.slice D.dv.a D.dv.n D.dv.c) ∧ w'.cell? ⟨vb, vo + k * 9 + 7, none⟩ = some (.slice D.tv.a D.tv.n D.tv.c) ∧ w'.cell? ⟨vb, vo + k * 9 + 8, none⟩ = some (.slice D.iv.a D.iv.n D.iv.c)) (go_keep) (first | (go_at_call 43; refine SA.out.mono ?_; rintro e w3 ⟨rfl, hg3⟩; have g3 := grown_trans (grown_drew hg) hg3; have gk : wr.grownBy w3 none := grown_trans (grown_drew (grown_refl wr)) hg3; have p0 := cell_still p0 gk; have p1 := cell_still p1 gk; have p2 := cell_still p2 gk; have p3 := cell_still p3 gk; have p4 := cell_still p4 gk; have p5 := cell_still p5 gk; have p6 := cell_still p6 gk; have p7 := cell_still p7 gk; have p8 := cell_still p8 gk; have q0 := cell_still q0 gk; have q1 := cell_still q1 gk; have q2 := cell_still q2 gk; have q3 := cell_still q3 gk; have q4 := cell_still q4 gk; have q5 := cell_still q5 gk; have q6 := cell_still q6 gk; have q7 := cell_still q7 gk; have q8 := cell_still q8 gk; obtain ⟨-, -, -, -, n4⟩ := nod_cells (n := ⟨op, nam, ⟨xa, ins.length, xc⟩, out, ⟨some ⟨ub, uo, none⟩, xs.length, zc⟩⟩) (B1.out w3 g3); obtain ⟨-, -, -, -, m4⟩ := nod_cells (n := ⟨op, nam, ⟨ya, ins.length, yc⟩, out, ⟨some ⟨vb, vo, none⟩, xs.length, uc⟩⟩) (B2.out w3 g3)))
          all_goals
            go_wp2
            go_roundw
            case rel => exact ⟨g3, k + 1, by omega, by go_num⟩
            case measure => simp [intOf]; omega
        · go_wp2
          go_ret
          exact ⟨rfl, grown_trans g0 hg⟩
end Go.Proofs.YtmdpeckeliplkaaDoor
