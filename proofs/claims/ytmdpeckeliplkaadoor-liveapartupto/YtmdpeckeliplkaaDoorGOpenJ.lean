/- A graph that comes in, within the bound. -/
import Derived.Test.YtmdpeckeliplkaaDoorPartJ
import Derived.Test.YtmdpeckeliplkaaDoorNOpenJ
import Derived.Test.YtmdpeckeliplkaaDoorNOpenVJ
namespace Go.Proofs.YtmdpeckeliplkaaDoor
open Go.RowKit Go.ChangeShapes

theorem cellsNam : Tryd.prog.cellsOf 59 = 4 := by kernel_rfl

theorem cellsGra : Tryd.prog.cellsOf 26 = 5 := by kernel_rfl

theorem cellsSM : Tryd.prog.cellsOf 24 = 1 := by kernel_rfl

theorem cellsSN : Tryd.prog.cellsOf 22 = 1 := by kernel_rfl

section
variable {H : Type} {enc : TypeId × Value → H} {W : World}

set_option maxRecDepth 100000 in
theorem named_in {n : Nat} {cs : List Value} {x : DataW H × List MemPlace} (hf : DataW.trod enc Tryd.prog W 0 (fun _ => true) true n 59 cs = some x) (hb : Rows.uptoBulk x.1 ≤ 1048576) : ∃ v : Nam, cs = mcells v ∧ (∃ q : List Int × List Int, IsInts W v.dv.v q.1 ∧ IsInts W v.tv.v q.2) ∧ v.name.size ≤ 1048576 := by
  obtain ⟨xs, n', -, hx, hl, hlen, hfs⟩ := DataW.trod_struct Tryd.underlying59 hf
  rw [cellsNam] at hl
  match cs, hl with
  | [c0, c1, c2, c3], _ =>
    match xs, hlen with
    | [y0, y1], _ =>
      have h0 := hfs 0 _ rfl
      have h1 := hfs 1 _ rfl
      simp [cellsStr] at h0
      simp [cellsTen] at h1
      rw [hx] at hb
      simp only [List.map_cons, List.map_nil, Rows.uptoBulk, Rows.uptoBulkAll] at hb
      obtain ⟨nm, e0, hs⟩ := str_in (M := 1048576) h0 (by omega)
      obtain ⟨ty, d, t, ds, ts, e1, i1, i2⟩ := ten_in h1 (by omega)
      simp [scell] at e0 e1
      obtain ⟨e1, e2, e3⟩ := e1
      subst e0 e1 e2 e3
      exact ⟨⟨nm, ty, d, t⟩, rfl, ⟨(ds, ts), i1, i2⟩, hs⟩

set_option maxRecDepth 100000 in
theorem nodg_in {n : Nat} {cs : List Value} {x : DataW H × List MemPlace} (hf : DataW.trod enc Tryd.prog W 0 (fun _ => true) true n 52 cs = some x) (hb : Rows.uptoBulk x.1 ≤ 1048576) :
    ∃ nd : Nod, cs = ncells nd ∧ (∃ q : List ByteArray × List Atr × List Cont, NodeIn W nd q.1 q.2.1 q.2.2 ∧ q.1.length ≤ 1048576 ∧ ∀ z ∈ q.1, z.size ≤ 1048576) ∧ nd.out.size ≤ 1048576 := by
  obtain ⟨xs, n', -, hx, hl, hlen, hfs⟩ := DataW.trod_struct Tryd.underlying52 hf
  rw [cellsNode] at hl
  match cs, hl with
  | [c0, c1, c2, c3, c4], _ =>
    match xs, hlen with
    | [y0, y1, y2, y3, y4], _ =>
      have h0 := hfs 0 _ rfl
      have h1 := hfs 1 _ rfl
      have h2 := hfs 2 _ rfl
      have h3 := hfs 3 _ rfl
      have h4 := hfs 4 _ rfl
      simp [cellsStr] at h0 h1 h3
      simp [cellsSS] at h2
      simp [cellsSA] at h4
      rw [hx] at hb
      simp only [List.map_cons, List.map_nil, Rows.uptoBulk, Rows.uptoBulkAll] at hb
      obtain ⟨op, e0, -, -⟩ := DataW.trod_string Tryd.underlying9 h0
      obtain ⟨nm, e1, -, -⟩ := DataW.trod_string Tryd.underlying9 h1
      obtain ⟨iv, ins, e2, i1, z1, z2⟩ := strs_in h2 (by omega)
      obtain ⟨ot, e3, zo⟩ := str_in (M := 1048576) h3 (by omega)
      have : Inhabited Atr := ⟨noAtr⟩
      obtain ⟨av, ats, e4, i2, hall, hlen⟩ := list_of (bytes := 136) (size := 9) (f := acells) (P := fun a => (∃ c, Has W a c) ∧ a.s.size ≤ 1048576) Tryd.underlying50 cellsAttr (by decide) acells_len (by decide) (fun h hb => attr_in h hb) h4 (by omega)
      obtain ⟨ks, hks⟩ := conts_of (fun a ha => (hall a ha).1)
      simp [scell] at e0 e1 e2 e3 e4
      subst e0 e1 e2 e3 e4
      exact ⟨⟨op, nm, iv, ot, av⟩, rfl, ⟨(ins, ats, ks), ⟨i1, i2, hks, Nat.le_trans hlen (by decide), fun a ha => (hall a ha).2⟩, z2, z1⟩, zo⟩

set_option maxRecDepth 100000 in
theorem graph_in {n : Nat} {cs : List Value} {x : DataW H × List MemPlace} (hf : DataW.trod enc Tryd.prog W 0 (fun _ => true) true n 26 cs = some x) (hb : Rows.uptoBulk x.1 ≤ 1048576) :
    ∃ (g : Gra) (ns : List Nc) (vin vout : List (Val × List Int)) (its : List (Nam × List Int × List Int)), cs = [.string g.name, .slice g.nv.a g.nv.n g.nv.c, .slice g.iv.a g.iv.n g.iv.c, .slice g.ov.a g.ov.n g.ov.c, .slice g.tv.a g.tv.n g.tv.c] ∧ GraphOk W g ns vin vout its := by
  obtain ⟨xs, n', -, hx, hl, hlen, hfs⟩ := DataW.trod_struct Tryd.underlying26 hf
  rw [cellsGra] at hl
  match cs, hl with
  | [c0, c1, c2, c3, c4], _ =>
    match xs, hlen with
    | [y0, y1, y2, y3, y4], _ =>
      have h0 := hfs 0 _ rfl
      have h1 := hfs 1 _ rfl
      have h2 := hfs 2 _ rfl
      have h3 := hfs 3 _ rfl
      have h4 := hfs 4 _ rfl
      simp [cellsStr] at h0
      simp [cellsSN] at h1
      simp [cellsSV] at h2 h3
      simp [cellsSM] at h4
      rw [hx] at hb
      simp only [List.map_cons, List.map_nil, Rows.uptoBulk, Rows.uptoBulkAll] at hb
      obtain ⟨nm, e0, -, -⟩ := DataW.trod_string Tryd.underlying9 h0
      have : Inhabited Nod := ⟨⟨⟨#[]⟩, ⟨#[]⟩, nilS, ⟨#[]⟩, nilS⟩⟩
      have : Inhabited Val := ⟨⟨⟨#[]⟩, 0, nilS⟩⟩
      have : Inhabited Nam := ⟨⟨⟨#[]⟩, 0, nilS, nilS⟩⟩
      obtain ⟨nv, nds, e1, i1, a1, l1⟩ := list_of (bytes := 96) (size := 5) (f := ncells) (P := fun nd => (∃ q : List ByteArray × List Atr × List Cont, NodeIn W nd q.1 q.2.1 q.2.2 ∧ q.1.length ≤ 1048576 ∧ ∀ z ∈ q.1, z.size ≤ 1048576) ∧ nd.out.size ≤ 1048576) Tryd.underlying22 cellsNode (by decide) ncells_len (by decide) (fun h hb => nodg_in h hb) h1 (by omega)
      obtain ⟨iv, vs, e2, i2, a2, l2⟩ := list_of (bytes := 48) (size := 3) (f := vcells) (P := fun v => (∃ ds, IsInts W v.dv.v ds) ∧ v.name.size ≤ 1048576) Tryd.underlying23 cellsVal (by decide) vcells_len (by decide) (fun h hb => value_in h hb) h2 (by omega)
      obtain ⟨ov, us, e3, i3, a3, l3⟩ := list_of (bytes := 48) (size := 3) (f := vcells) (P := fun v => (∃ ds, IsInts W v.dv.v ds) ∧ v.name.size ≤ 1048576) Tryd.underlying23 cellsVal (by decide) vcells_len (by decide) (fun h hb => value_in h hb) h3 (by omega)
      obtain ⟨tv, ts, e4, i4, a4, l4⟩ := list_of (bytes := 72) (size := 4) (f := mcells) (P := fun v => (∃ q : List Int × List Int, IsInts W v.dv.v q.1 ∧ IsInts W v.tv.v q.2) ∧ v.name.size ≤ 1048576) Tryd.underlying24 cellsNam (by decide) mcells_len (by decide) (fun h hb => named_in h hb) h4 (by omega)
      obtain ⟨p1, q1, b1⟩ := pairs_of (fun a ha => (a1 a ha).1)
      obtain ⟨p2, q2, b2⟩ := pairs_of (fun a ha => (a2 a ha).1)
      obtain ⟨p3, q3, b3⟩ := pairs_of (fun a ha => (a3 a ha).1)
      obtain ⟨p4, q4, b4⟩ := pairs_of (fun a ha => (a4 a ha).1)
      simp at e0 e1 e2 e3 e4
      subst e0 e1 e2 e3 e4
      have qn : ((p1.map (fun p => (⟨p.1, p.2.1, p.2.2.1, p.2.2.2⟩ : Nc))).map (·.n)) = nds := by rw [← q1, List.map_map]; rfl
      refine ⟨⟨nm, nv, iv, ov, tv⟩, p1.map (fun p => ⟨p.1, p.2.1, p.2.2.1, p.2.2.2⟩), p2, p3, p4, rfl, ⟨by rw [qn]; exact i1, by rw [q2]; exact i2, by rw [q3]; exact i3, by rw [q4]; exact i4, fun c hc => ?_, b2, b3, b4, fun p hp => ?_, ?_⟩, fun y hy => ?_, fun y hy => ?_, fun c hc => ?_⟩
      · obtain ⟨p, hp, rfl⟩ := List.mem_map.1 hc
        exact (b1 p hp).1
      · exact (a2 p.1 (by rw [← q2]; exact List.mem_map.2 ⟨p, hp, rfl⟩)).2
      · have k1 := congrArg List.length q1
        have k2 := congrArg List.length q2
        have k3 := congrArg List.length q3
        have k4 := congrArg List.length q4
        simp only [List.length_map] at k1 k2 k3 k4
        rw [List.length_map]
        omega
      · unfold vnames at hy
        rw [qn, q2, q4] at hy
        rcases List.mem_append.1 hy with hy | hy
        · rcases List.mem_append.1 hy with hy | hy
          · obtain ⟨v, hv, rfl⟩ := List.mem_map.1 hy
            exact (a2 v hv).2
          · obtain ⟨v, hv, rfl⟩ := List.mem_map.1 hy
            exact (a4 v hv).2
        · obtain ⟨v, hv, rfl⟩ := List.mem_map.1 hy
          exact (a1 v hv).2
      · unfold onames at hy
        rw [q3] at hy
        obtain ⟨v, hv, rfl⟩ := List.mem_map.1 hy
        exact (a3 v hv).2
      · obtain ⟨p, hp, rfl⟩ := List.mem_map.1 hc
        exact (b1 p hp).2
end
end Go.Proofs.YtmdpeckeliplkaaDoor
