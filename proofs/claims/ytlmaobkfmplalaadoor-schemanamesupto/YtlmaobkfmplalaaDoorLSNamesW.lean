/- What things are called makes no difference: the law, by the walk. -/
import Derived.Test.YtlmaobkfmplalaaDoorNNode
namespace Go.Proofs.YtlmaobkfmplalaaDoor
open Go.RowKit

theorem checkE_same {r : Option (Int × Int × List Ra)} {ins ins' : List ByteArray} {out out' : ByteArray} {xs : List Atr} (hl : ins'.length = ins.length) (h1 : ((out.toList == []) || ins.any (isS ⟨#[]⟩)) = false) (h2 : ((out'.toList == []) || ins'.any (isS ⟨#[]⟩)) = false) : checkE r ins' out' xs = checkE r ins out xs := by
  unfold checkE
  rw [hl, h1, h2]

theorem checkF_same {r : Option (Int × Int × List Ra)} {op : ByteArray} {ins ins' : List ByteArray} {out out' : ByteArray} {xs ys : List Atr} {cs : List Cont} (hs : ys.map strip = xs.map strip) (hl : ins'.length = ins.length) (h1 : ((out.toList == []) || ins.any (isS ⟨#[]⟩)) = false) (h2 : ((out'.toList == []) || ins'.any (isS ⟨#[]⟩)) = false) : checkF r op ins' out' ys cs = checkF r op ins out xs cs := by
  rw [checkF_strip hs]
  unfold checkF
  rw [checkE_same hl h1 h2]

/-- The first k of a list, called by one name. -/
def cld (s : ByteArray) (k : Nat) (ins : List ByteArray) : List ByteArray := List.replicate k s ++ ins.drop k

theorem cld_len {s : ByteArray} {k : Nat} {ins : List ByteArray} (hk : k ≤ ins.length) : (cld s k ins).length = ins.length := by
  unfold cld
  rw [List.length_append, List.length_replicate, List.length_drop]
  omega

theorem cld_set {s : ByteArray} {k : Nat} {ins : List ByteArray} (hk : k < ins.length) : (cld s k ins).set k s = cld s (k + 1) ins := by
  unfold cld
  rw [List.set_append_right _ _ (by simp), List.length_replicate, Nat.sub_self, List.drop_eq_getElem_cons hk, List.set_cons_zero, List.replicate_succ', List.append_assoc]
  rfl

theorem cld_at {s : ByteArray} {k : Nat} {ins : List ByteArray} (hk : k < ins.length) : (cld s k ins)[k]? = some ins[k] := by
  unfold cld
  rw [List.getElem?_append_right (by simp), List.length_replicate, Nat.sub_self, List.drop_eq_getElem_cons hk]
  rfl

theorem cld_any {s : ByteArray} {k : Nat} {ins : List ByteArray} (hs : (s.toList == []) = false) (hk : k = ins.length) : (cld s k ins).any (isS ⟨#[]⟩) = false := by
  unfold cld
  rw [hk, List.drop_of_length_le (Nat.le_refl _), List.append_nil, List.any_eq_false]
  intro x hx
  rw [(List.mem_replicate.1 hx).2]
  have h1 : s.toList ≠ [] := by simpa using hs
  simp only [isS, beq_iff_eq]
  intro e
  exact h1 (e.symm.trans (by rw [bytes_toList]))

theorem scells (l : List ByteArray) : l.flatMap scell = l.map Value.string := by
  induction l with
  | nil => rfl
  | cons a l ih => rw [List.flatMap_cons, ih]; rfl

/-- What stands of the copy while its inputs are called anew. -/
structure NInv (w2 : World) (M b : Nat) (op s : ByteArray) (iv av : Sl) (ins : List ByteArray) (k : Nat) (wr : World) : Prop where
  box : wr.heap[M]? = some (.cells #[.string op, .string s, .slice iv.a iv.n iv.c, .string s, .slice av.a av.n av.c] 25 (0, 0))
  own : OwnsL 9 1 scell wr b iv.v (cld s k ins)
  ok : (ins.take k).any (isS ⟨#[]⟩) = false
  os : wr.os = w2.os
  tape : wr.tape = w2.tape
  output : wr.output = w2.output
  size : w2.heap.size ≤ wr.heap.size
  kp : ∀ c, c < w2.heap.size → iv.v.ownBlock ≠ some c → wr.heap[c]? = w2.heap[c]?

theorem isS_nil {x : ByteArray} : isS ⟨#[]⟩ x = (x.toList == []) := by
  unfold isS
  rw [bytes_toList, bytes_toList]
  cases h : x.data.toList <;> rfl

theorem NInv.step {w2 wr : World} {M b g c : Nat} {op s : ByteArray} {av : Sl} {ins : List ByteArray} {k : Nat} (h : NInv w2 M b op s ⟨some ⟨g, 0, none⟩, ins.length, c⟩ av ins k wr) (hM : g < M) (hk : k < ins.length) (hx : (ins[k].toList == []) = false) : NInv w2 M b op s ⟨some ⟨g, 0, none⟩, ins.length, c⟩ av ins (k + 1) (wr.setCell ⟨g, k, none⟩ (.string s)) := by
  have ho := h.own
  unfold OwnsL at ho
  simp only [Sl.v] at ho
  rw [cld_len (by omega)] at ho
  obtain ⟨o1, g1⟩ := ho.stored k (.string s)
  refine ⟨?_, ?_, ?_, h.os, h.tape, h.output, Nat.le_trans h.size g1.size, ?_⟩
  · exact (g1.block M (Array.getElem?_eq_some_iff.1 h.box).1 (fun e => by have := Option.some.inj e; omega)).trans h.box
  · unfold OwnsL
    simp only [Sl.v]
    rw [cld_len (by omega), ← cld_set hk]
    rw [scells] at o1 ⊢
    rwa [List.map_set]
  · rw [List.take_add_one, List.any_append, h.ok, List.getElem?_eq_getElem hk]
    simp [isS_nil, hx]
  · intro d hd hne
    exact (g1.block d (Nat.lt_of_lt_of_le hd h.size) (fun e => hne e.symm)).trans (h.kp d hd hne)

theorem Copied.renamed {w w' W : World} {n : Nod} {ins ins' : List ByteArray} {xs ys : List Atr} {cs : List Cont} {iv av : Sl} {b : Nat} {op nam out : ByteArray} (h : Copied w w' n ins xs cs iv av ys) (hn : NodeIn w n ins xs cs) (kp : ∀ c, c < w'.heap.size → iv.v.ownBlock ≠ some c → W.heap[c]? = w'.heap[c]?) (own : OwnsL 9 1 scell W b iv.v ins') (hl : ins'.length = ins.length) (hb : ys.length * 136 ≤ 140737488351232) : NodeIn W ⟨op, nam, iv, out, av⟩ ins' ys cs := by
  obtain ⟨-, -, -, -, -, hi3⟩ := hn.ins.form
  refine ⟨own.isL (bytes := 16) scell_len (by rw [hl]; exact hi3), (h.own.isL (bytes := 136) acells_len hb).kept fun c hc e => kp c hc (fun e2 => h.apt c e2 e), ?_, by rw [h.len]; exact hn.few, strip_s h.eq hn.short⟩
  intro j a ha
  have hj : j < xs.length := by rw [← h.len]; exact (List.getElem?_eq_some_iff.1 ha).1
  obtain ⟨c, hc, -⟩ := hn.has j xs[j] (List.getElem?_eq_getElem hj)
  have hm := h.new a (List.mem_of_getElem? ha)
  exact ⟨c, hc, (h.has j a c ha hc).kept fun d hd e => kp d hd (hm.2.2.any e)⟩

set_option maxRecDepth 100000 in
set_option maxHeartbeats 6400000 in
theorem snames_walk (n : Nod) (ins : List ByteArray) (xs : List Atr) (cs : List Cont) (s : ByteArray) (w : World) (hl : Laid w) (hn : NodeIn w n ins xs cs) (hfew : xs.length ≤ 1048576) (_hs : s.size ≤ 1048576) :
    Calls Tryd.prog 5 #[nval n, .string s] w fun e w' => e = .returned (.bool true) ∧ Below w.heap.size w w' := by
  have HLA := hide hl
  have HN := hide hn
  have CH := hide (fun (wx : World) (hx : w.grownBy wx none) => check_in n ins xs cs wx (hl.more hx) (hn.more hx))
  have CN := hide (fun (wx : World) (hx : w.grownBy wx none) => copynode_any n ins xs cs wx (hn.ins.more hx) (hn.av.more hx) (hn.more hx).has hn.few)
  obtain ⟨ia', ic', hiv, i1, i2, i3⟩ := hn.ins.form
  obtain ⟨op, nam, ⟨ia, il, ic⟩, out, ⟨ao, al, cap⟩⟩ := n
  obtain ⟨rfl, rfl, rfl⟩ : ia = ia' ∧ il = ins.length ∧ ic = ic' := by simpa [Sl.v] using hiv
  unfold nval at CH CN ⊢
  simp only at CH CN ⊢
  clear hl hn hiv
  obtain ⟨w0, hw0⟩ : ∃ w0, w0 = w.alloc (.cells #[.string op, .string nam, .slice ia ins.length ic, .string out, .slice ao al cap] 25) := ⟨_, rfl⟩
  have g0 : w.grownBy w0 none := by rw [hw0]; exact grown_new _ _
  have hb0 := heap_alloc_new w (.cells #[.string op, .string nam, .slice ia ins.length ic, .string out, .slice ao al cap] 25)
  obtain ⟨n0, n1, n2, n3, n4⟩ := nod_cells (n := ⟨op, nam, ⟨ia, ins.length, ic⟩, out, ⟨ao, al, cap⟩⟩) hb0
  rw [← hw0] at hb0
  have HZ0 : Hid (w0.heap.size = w.heap.size + 1) := by show _ = _; rw [hw0]; simp
  have BX : Hid (∀ wx, w0.grownBy wx none → wx.heap[w.heap.size]? = some (.cells #[.string op, .string nam, .slice ia ins.length ic, .string out, .slice ao al cap] 25 (0, 0))) := fun wx hg => box_kept hb0 hg
  clear hb0
  go_enter Tryd.func5, Tryd.ntmps5
  go_wp2_with fail
  rw [← hw0]
  clear hw0 n0 n1 n2 n3 n4
  refine (CN.out w0 g0).mono ?_
  rintro e w2 ⟨iv, av, ys, rfl, hcp⟩
  have HCP := hide hcp
  have g2 := grown_trans g0 hcp.grown
  clear hcp
  by_cases ho : (out.toList == []) = true
  · go_wp2_with fail
    refine (slive_any _ (HLA.out.more (grown_trans g2 (grown_new _ _)))).mono ?_
    rintro e w3 ⟨rfl, hg3⟩
    go_wp2
    go_ret
    exact ⟨rfl, grown_below (grown_trans (grown_trans g2 (grown_new _ _)) hg3)⟩
  · have ho' : (out.toList == []) = false := by simpa using ho
    have HO := hide ho'
    clear ho
    by_cases hs0 : (s.toList == []) = true
    · go_wp2_with fail
      refine (slive_any _ (HLA.out.more (grown_trans g2 (grown_new _ _)))).mono ?_
      rintro e w3 ⟨rfl, hg3⟩
      go_wp2
      go_ret
      exact ⟨rfl, grown_below (grown_trans (grown_trans g2 (grown_new _ _)) hg3)⟩
    · have hs1 : (s.toList == []) = false := by simpa using hs0
      have HS1 := hide hs1
      clear hs0
      obtain ⟨iva, ivn, ivc⟩ := iv
      obtain rfl : ivn = ins.length := by
        obtain ⟨xa, xc, e⟩ := OwnsL.form HCP.out.ins
        simp only [Sl.v, Value.slice.injEq] at e
        exact e.2.1
      obtain ⟨W3, hW3⟩ : ∃ W3, W3 = w2.alloc (.cells #[.string op, .string s, .slice iva ins.length ivc, .string s, .slice av.a av.n av.c] 25) := ⟨_, rfl⟩
      have G3 : w2.grownBy W3 none := by rw [hW3]; exact grown_new _ _
      have bM := heap_alloc_new w2 (.cells #[.string op, .string s, .slice iva ins.length ivc, .string s, .slice av.a av.n av.c] 25)
      rw [← hW3] at bM
      have INV : Hid (NInv w2 w2.heap.size w0.heap.size op s ⟨iva, ins.length, ivc⟩ av ins 0 W3) := ⟨bM, HCP.out.ins.more G3, rfl, G3.os, G3.tape, G3.output, G3.size, fun c hc _ => G3.block c hc (by simp)⟩
      clear bM
      go_wp2_with fail
      rw [← hW3]
      clear hW3
      go_loopw [6] (fun i wr => ∃ k : Nat, k ≤ ins.length ∧ i = .int .i64 k ∧ NInv w2 w2.heap.size w0.heap.size op s ⟨iva, ins.length, ivc⟩ av ins k wr) (fun i _ => ins.length - (intOf i).toNat)
      case atStart => exact ⟨0, Nat.zero_le _, rfl, INV.out⟩
      case round =>
        obtain ⟨k, hk, rfl, hinv⟩ := hrel
        have NI := hide hinv
        clear hinv
        have ivlt : ∀ c, (Value.slice iva ins.length ivc).ownBlock = some c → w0.heap.size ≤ c ∧ c < w2.heap.size := fun c e => World.ownsRow.lt HCP.out.ins c e
        have IVL := hide ivlt
        clear ivlt
        have GW : Hid (w.grownBy wr none) := ⟨NI.out.os.trans g2.os, NI.out.tape.trans g2.tape, NI.out.output.trans g2.output, Nat.le_trans g2.size NI.out.size, fun c hc _ => (NI.out.kp c (Nat.lt_of_lt_of_le hc g2.size) (fun e => by have := IVL.out c e; have := HZ0.out; omega)).trans (g2.block c hc (by simp))⟩
        obtain ⟨m0, m1, m2, m3, m4⟩ := nod_cells (n := ⟨op, s, ⟨iva, ins.length, ivc⟩, s, av⟩) NI.out.box
        by_cases hlt : k < ins.length
        · obtain ⟨g, c2, hiv2, hgb, hgl⟩ := World.ownsRow.form HCP.out.ins (by omega)
          obtain ⟨rfl, rfl⟩ : iva = some ⟨g, 0, none⟩ ∧ ivc = c2 := by simpa [Sl.v] using hiv2
          have ho := NI.out.own
          unfold OwnsL at ho
          simp only [Sl.v] at ho
          rw [cld_len (by omega)] at ho
          have hfz := World.ownsRow.frozenAt ho k
          have hcl : wr.cell? ⟨g, k, none⟩ = some (.string ins[k]) := by
            rw [World.ownsRow.cellAt ho k (by omega), scells, List.getElem?_map, cld_at hlt]
            rfl
          obtain ⟨x, hx⟩ : ∃ x, x = ins[k] := ⟨_, rfl⟩
          rw [← hx] at hcl
          have HX := hide hx
          clear hx ho hiv2
          by_cases hxe : (x.toList == []) = true
          · go_wp2_with fail
            refine (slive_any wr (HLA.out.more GW.out)).mono ?_
            rintro e w4 ⟨rfl, hg4⟩
            go_wp2
            go_ret
            exact ⟨rfl, grown_below (grown_trans GW.out hg4)⟩
          · have hxe' : (x.toList == []) = false := by simpa using hxe
            have ST := hide (NI.out.step hgl hlt (by rw [← HX.out]; exact hxe'))
            clear hxe
            go_wp2
            go_roundw
            case rel => exact ⟨k + 1, by omega, by go_num, ST.out⟩
            case measure => simp [intOf]; omega
        · obtain rfl : k = ins.length := by omega
          have hyl := HCP.out.len
          have NB : Hid (wr.heap[w.heap.size]? = some (.cells #[.string op, .string nam, .slice ia ins.length ic, .string out, .slice ao al cap] 25 (0, 0))) := (NI.out.kp _ (by have := HCP.out.grown.size; have := HZ0.out; omega) (fun e => by have := IVL.out _ e; have := HZ0.out; omega)).trans (BX.out w2 HCP.out.grown)
          have NM : Hid (NodeIn wr ⟨op, s, ⟨iva, ins.length, ivc⟩, s, av⟩ (cld s ins.length ins) ys cs) := HCP.out.renamed (HN.out.more g0) NI.out.kp NI.out.own (cld_len (Nat.le_refl _)) (by rw [hyl]; omega)
          have hok : ins.any (isS ⟨#[]⟩) = false := by have := NI.out.ok; rwa [List.take_of_length_le (Nat.le_refl _)] at this
          have EQ : Hid (checkF (ruleF op) op (cld s ins.length ins) s ys cs = checkF (ruleF op) op ins out xs cs) := checkF_same HCP.out.eq (cld_len (Nat.le_refl _)) (by rw [HO.out, hok]; rfl) (by rw [HS1.out, cld_any HS1.out rfl]; rfl)
          have CM := hide (fun (wx : World) (hx : wr.grownBy wx none) => check_in ⟨op, s, ⟨iva, ins.length, ivc⟩, s, av⟩ (cld s ins.length ins) ys cs wx (HLA.out.more (grown_trans GW.out hx)) (NM.out.more hx))
          have CO := hide (fun (wx : World) (hx : wr.grownBy wx none) => CH.out wx (grown_trans GW.out hx))
          have LV := hide (fun (wx : World) (hx : wr.grownBy wx none) => slive_any wx (HLA.out.more (grown_trans GW.out hx)))
          unfold nval at CM
          simp only at CM
          rw [EQ.out] at CM
          obtain ⟨X, hX⟩ : ∃ X, X = checkF (ruleF op) op ins out xs cs := ⟨_, rfl⟩
          rw [← hX] at CM CO
          clear hX CH hyl hok
          obtain ⟨n0, n1, n2, n3, n4⟩ := nod_cells (n := ⟨op, nam, ⟨ia, ins.length, ic⟩, out, ⟨ao, al, cap⟩⟩) NB.out
          have MB : Hid (∀ wx, wr.grownBy wx none → wx.heap[w2.heap.size]? = some (.cells #[.string op, .string s, .slice iva ins.length ivc, .string s, .slice av.a av.n av.c] 25 (0, 0))) := fun wx hx => box_kept NI.out.box hx
          have NC : Hid (∀ wx, wr.grownBy wx none → wx.heap[w.heap.size]? = some (.cells #[.string op, .string nam, .slice ia ins.length ic, .string out, .slice ao al cap] 25 (0, 0))) := fun wx hx => box_kept NB.out hx
          have gd := grown_drew (grown_refl wr)
          go_wp2_with fail
          go_region_held3 (fun w' => w'.cell? ⟨w2.heap.size, 0, none⟩ = some (.string op) ∧ w'.cell? ⟨w2.heap.size, 1, none⟩ = some (.string s) ∧ w'.cell? ⟨w2.heap.size, 2, none⟩ = some (.slice iva ins.length ivc) ∧ w'.cell? ⟨w2.heap.size, 3, none⟩ = some (.string s) ∧ w'.cell? ⟨w2.heap.size, 4, none⟩ = some (.slice av.a av.n av.c) ∧ w'.cell? ⟨w.heap.size, 0, none⟩ = some (.string op) ∧ w'.cell? ⟨w.heap.size, 1, none⟩ = some (.string nam) ∧ w'.cell? ⟨w.heap.size, 2, none⟩ = some (.slice ia ins.length ic) ∧ w'.cell? ⟨w.heap.size, 3, none⟩ = some (.string out) ∧ w'.cell? ⟨w.heap.size, 4, none⟩ = some (.slice ao al cap)) (go_keep) (first | (go_at_call 12; with_reducible refine (CM.out _ (by first | exact gd | exact GN)).mono ?_; rintro e vM ⟨rfl, hgM⟩; have GM : wr.grownBy vM none := (by first | exact grown_trans gd hgM | exact grown_trans GN hgM); obtain ⟨m0, m1, m2, m3, m4⟩ := nod_cells (n := ⟨op, s, ⟨iva, ins.length, ivc⟩, s, av⟩) (MB.out vM GM); obtain ⟨n0, n1, n2, n3, n4⟩ := nod_cells (n := ⟨op, nam, ⟨ia, ins.length, ic⟩, out, ⟨ao, al, cap⟩⟩) (NC.out vM GM)) | (go_at_call 12; with_reducible refine (CO.out _ (by first | exact gd | exact GM)).mono ?_; rintro e vN ⟨rfl, hgN⟩; have GN : wr.grownBy vN none := (by first | exact grown_trans gd hgN | exact grown_trans GM hgN); obtain ⟨m0, m1, m2, m3, m4⟩ := nod_cells (n := ⟨op, s, ⟨iva, ins.length, ivc⟩, s, av⟩) (MB.out vN GN); obtain ⟨n0, n1, n2, n3, n4⟩ := nod_cells (n := ⟨op, nam, ⟨ia, ins.length, ic⟩, out, ⟨ao, al, cap⟩⟩) (NC.out vN GN)) | (go_at_call 16; refine (LV.out _ (by first | exact GM | exact GN)).mono ?_; rintro e vL ⟨rfl, hgL⟩; have GL : wr.grownBy vL none := (by first | exact grown_trans GM hgL | exact grown_trans GN hgL); obtain ⟨m0, m1, m2, m3, m4⟩ := nod_cells (n := ⟨op, s, ⟨iva, ins.length, ivc⟩, s, av⟩) (MB.out vL GL); obtain ⟨n0, n1, n2, n3, n4⟩ := nod_cells (n := ⟨op, nam, ⟨ia, ins.length, ic⟩, out, ⟨ao, al, cap⟩⟩) (NC.out vL GL)))
          all_goals
            go_wp2
            go_ret
            exact ⟨rfl, grown_below (grown_trans GW.out GL)⟩
end Go.Proofs.YtlmaobkfmplalaaDoor
