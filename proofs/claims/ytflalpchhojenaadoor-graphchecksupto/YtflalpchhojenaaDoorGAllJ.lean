/- All names that stand in a graph, by the walk (mkGAll.py). -/
import Derived.Test.YtflalpchhojenaaDoorPartD
import Derived.Test.YtflalpchhojenaaDoorPartB
import Derived.Test.YtflalpchhojenaaDoorPartE
namespace Go.Proofs.YtflalpchhojenaaDoor
open Go.RowKit

/-- append(s, x...), as one operation: to a list of the call's own, of any list. -/
theorem wp_app {α : Type} {o : Oper} {a : Act} {w : World} {K : Act → World → Prop} {Q : Exit → Act → World → Prop} (s x : Operand) (t te : TypeId) (size bytes : Nat) (z : Value) (i0 : TypeInfo) (f : α → List Value)
    (ho : o.op = .call { callee := .builtin .append, args := #[s, x], argTypes := #[t, t] }) (ht : Tryd.prog.underlying t = some (.slice te)) (hi : Tryd.prog.info? te = some i0) (hz : i0.zero = some z)
    (hsize : i0.size = size) (hby : i0.bytes = bytes) (hzs : z.cells.size = size) (hsz : 0 < size) (base : Nat) (v : Value) (xs : List α) (hs : a.eval s = v) (hown : OwnsL te size f w base v xs) (hb : base ≤ w.heap.size)
    (xv : Value) (ys : List α) (hx : a.eval x = xv) (hys : IsL bytes size f w xv ys) (hl : ∀ y, (f y).length = size) (h1 : ∀ y, ∀ u ∈ f y, u.oneCell' = true) (hm : xs.length + ys.length ≤ 9223372036854775807) (hmb : (xs.length + ys.length) * bytes ≤ 140737488355328)
    (h : ∀ v' w', OwnsL te size f w' base v' (xs ++ ys) → w.grownBy w' v.ownBlock → K (a.put o.dst v') w') : o.wp Tryd.prog a w K Q := by
  obtain ⟨ao, cap, rfl, k1, k2, k3, k4, k5⟩ := hys
  cases ao with
  | none =>
    obtain ⟨hn, rfl⟩ := k4 rfl
    obtain rfl : ys = [] := List.length_eq_zero_iff.1 (by omega)
    have hrun := run_append_owned_none (P := Tryd.prog) (w := w) base t o.type te i0 size ht hi v xs.length (xs.flatMap f) hown
    unfold Oper.wp
    simp only [List.length_nil] at hx
    simp [execOp, ho, resolve, invoke, builtin, hs, hx, hrun, Result.andThen]
    exact h _ _ (by rw [List.append_nil]; exact hown) (grown_any (grown_refl _) _)
  | some ad =>
    refine wp_append_own w s x t ho base te i0 z size bytes ht hi hz hsize hby hzs hsz v xs.length (xs.flatMap f) hs hown ad ys.length cap (ys.flatMap f) hx (flat_len hl ys) ?_ ?_ hm hmb hb ?_
    · intro j u hu
      by_cases hy : 0 < ys.length
      · obtain ⟨b, off, hao, hc⟩ := k5 hy
        obtain rfl := Option.some.inj hao
        have hj : j < ys.length * size := by
          have := (List.getElem?_eq_some_iff.1 hu).1
          rwa [flat_len hl] at this
        have hjs : j % size < size := Nat.mod_lt _ hsz
        have hjd : j / size < ys.length := (Nat.div_lt_iff_lt_mul hsz).2 hj
        have e1 : j = j / size * size + j % size := by rw [Nat.mul_comm]; exact (Nat.div_add_mod j size).symm
        rw [e1, flat_at hl ys _ _ hjd hjs] at hu
        rw [Addr.add_lit]
        have := (hc (j / size) hjd (j % size) hjs).1
        rw [Nat.add_assoc, ← e1] at this
        rw [this, hu]
      · obtain rfl : ys = [] := List.length_eq_zero_iff.1 (by omega)
        simp at hu
    · intro u hu
      obtain ⟨y, -, hy⟩ := List.mem_flatMap.1 hu
      exact h1 y u hy
    · intro v' w' ho' hg _
      refine h v' w' ?_ hg
      unfold OwnsL
      rw [List.length_append, List.flatMap_append]
      exact ho'

theorem wpl_app {α : Type} {ops : Array Oper} {rest : List Oper} {o : Oper} {a : Act} {w : World} {Q : Exit → Act → World → Prop} (hgd : o.guard = none) (s x : Operand) (t te : TypeId) (size bytes : Nat) (z : Value) (i0 : TypeInfo) (f : α → List Value)
    (ho : o.op = .call { callee := .builtin .append, args := #[s, x], argTypes := #[t, t] }) (ht : Tryd.prog.underlying t = some (.slice te)) (hi : Tryd.prog.info? te = some i0) (hz : i0.zero = some z)
    (hsize : i0.size = size) (hby : i0.bytes = bytes) (hzs : z.cells.size = size) (hsz : 0 < size) (base : Nat) (v : Value) (xs : List α) (hs : a.eval s = v) (hown : OwnsL te size f w base v xs) (hb : base ≤ w.heap.size)
    (xv : Value) (ys : List α) (hx : a.eval x = xv) (hys : IsL bytes size f w xv ys) (hl : ∀ y, (f y).length = size) (h1 : ∀ y, ∀ u ∈ f y, u.oneCell' = true) (hm : xs.length + ys.length ≤ 9223372036854775807) (hmb : (xs.length + ys.length) * bytes ≤ 140737488355328)
    (h : ∀ v' w', OwnsL te size f w' base v' (xs ++ ys) → w.grownBy w' v.ownBlock → wpList Tryd.prog ops Q rest (a.put o.dst v') w') : wpList Tryd.prog ops Q (o :: rest) a w :=
  wpList_plain hgd fun _ hK => wp_app s x t te size bytes z i0 f ho ht hi hz hsize hby hzs hsz base v xs hs hown hb xv ys hx hys hl h1 hm hmb fun v' w' h2 h3 => hK _ _ (h v' w' h2 h3)

theorem scell_one (y : ByteArray) : ∀ u ∈ scell y, u.oneCell' = true := by intro u hu; rw [scell, List.mem_singleton] at hu; subst hu; rfl

/-- All names that stand in a graph. -/
def allN (cs : List Nc) (vin vout : List (Val × List Int)) (its : List (Nam × List Int × List Int)) : List ByteArray := (vin.map (·.1)).map (·.name) ++ (vout.map (·.1)).map (·.name) ++ (its.map (·.1)).map (·.name) ++ cs.flatMap (fun c => c.n.out :: c.ins)

theorem flat_le {cs : List Nc} (h : ∀ c ∈ cs, c.ins.length ≤ 1048576) : (cs.flatMap (fun c => c.n.out :: c.ins)).length ≤ cs.length * 1048577 := by
  induction cs with
  | nil => simp
  | cons c l ih =>
    have h1 := h c (by simp)
    have h2 := ih (fun c hc => h c (by simp [hc]))
    rw [List.flatMap_cons, List.length_append, List.length_cons, List.length_cons]
    omega

theorem take_flat {cs : List Nc} {k : Nat} {A : Nc} (hk : cs[k]? = some A) : (cs.take (k + 1)).flatMap (fun c => c.n.out :: c.ins) = (cs.take k).flatMap (fun c => c.n.out :: c.ins) ++ [A.n.out] ++ A.ins := by
  rw [List.take_add_one, List.flatMap_append, hk]
  simp

set_option maxRecDepth 100000 in
set_option maxHeartbeats 6400000 in
theorem all_any (g : Gra) (cs : List Nc) (vin vout : List (Val × List Int)) (its : List (Nam × List Int × List Int)) (w : World) (hg : GraphOk w g cs vin vout its) :
    Calls Tryd.prog 20 #[gval g] w fun e w' => ∃ u : Sl, e = .returned u.v ∧ OwnsS w' w.heap.size u.v (allN cs vin vout its) ∧ w.grownBy w' none := by
  obtain ⟨i0, hi, hz0, hz1, hz2⟩ := info_parts infoStr
  obtain ⟨nam, ⟨na0, nn, nc0⟩, ⟨ia, iN, ic⟩, ⟨oa, oN, oc⟩, ⟨ta, tN, tc⟩⟩ := g
  have HG := hide hg
  obtain ⟨xa, xc, e1, p1, p2, p3⟩ := hg.base.nodes.form
  obtain ⟨ya, yc, e2, p4, p5, p6⟩ := hg.base.ins.form
  obtain ⟨za, zc, e3, p7, p8, p9⟩ := hg.base.outs.form
  obtain ⟨qa, qc, e4, p10, p11, p12⟩ := hg.base.inits.form
  rw [List.length_map] at e1 e2 e3 e4 p1 p3 p4 p6 p7 p9 p10 p12
  obtain ⟨rfl, rfl, rfl⟩ : na0 = xa ∧ nn = cs.length ∧ nc0 = xc := by simpa [Sl.v] using e1
  obtain ⟨rfl, rfl, rfl⟩ : ia = ya ∧ iN = vin.length ∧ ic = yc := by simpa [Sl.v] using e2
  obtain ⟨rfl, rfl, rfl⟩ : oa = za ∧ oN = vout.length ∧ oc = zc := by simpa [Sl.v] using e3
  obtain ⟨rfl, rfl, rfl⟩ : ta = qa ∧ tN = its.length ∧ tc = qc := by simpa [Sl.v] using e4
  obtain ⟨f1, f2, f3, f4⟩ := hg.base.few
  clear hg e1 e2 e3 e4
  unfold gval
  simp only
  obtain ⟨w0, hw0⟩ : ∃ w0, w0 = w.alloc (.cells #[.string nam, .slice na0 cs.length nc0, .slice ia vin.length ic, .slice oa vout.length oc, .slice ta its.length tc] 26) := ⟨_, rfl⟩
  have g0 : w.grownBy w0 none := by rw [hw0]; exact grown_new _ _
  have b0 := heap_alloc_new w (.cells #[.string nam, .slice na0 cs.length nc0, .slice ia vin.length ic, .slice oa vout.length oc, .slice ta its.length tc] 26)
  rw [← hw0] at b0
  have BX : Hid (∀ wx, w0.grownBy wx none → wx.heap[w.heap.size]? = some (.cells #[.string nam, .slice na0 cs.length nc0, .slice ia vin.length ic, .slice oa vout.length oc, .slice ta its.length tc] 26 (0, 0))) := fun wx hx => box_kept b0 hx
  clear b0
  go_enter Tryd.func20, Tryd.ntmps20
  go_wp2_with fail
  rw [← hw0]
  clear hw0
  go_loopw [3, 4] (fun l i wr => w0.grownBy wr none ∧ ∃ k : Nat, k ≤ vin.length ∧ i = .int .i64 k ∧ OwnsS wr w0.heap.size l (((vin.map (·.1)).take k).map (·.name))) (fun _ i _ => vin.length - (intOf i).toNat)
  case atStart => exact ⟨grown_refl _, 0, Nat.zero_le _, rfl, OwnsL.nil ..⟩
  case round =>
    obtain ⟨hg, k, hk, rfl, hown⟩ := hrel
    obtain ⟨L, hL⟩ : ∃ L, L = ((vin.map (·.1)).take k).map (·.name) := ⟨_, rfl⟩
    rw [← hL] at hown
    have HL := hide hL
    have hlen : L.length ≤ 4194304 := by rw [hL]; simp; omega
    have HO := hide hown
    obtain ⟨va, vc, rfl⟩ := OwnsL.form hown
    clear hown hL
    obtain ⟨r0, r1, r2, r3, r4⟩ := gra_cells (g := ⟨nam, ⟨na0, cs.length, nc0⟩, ⟨ia, vin.length, ic⟩, ⟨oa, vout.length, oc⟩, ⟨ta, its.length, tc⟩⟩) (BX.out wr hg)
    simp only at r2
    clear r0 r1 r3 r4
    by_cases hlt : k < vin.length
    · have hlt' : k < (vin.map (·.1)).length := by rw [List.length_map]; exact hlt
      have HLk := HG.out.base.ins.more (grown_trans g0 hg)
      obtain ⟨b, off, rfl⟩ := HLk.addr hlt'
      have HC := HLk.val k hlt'
      have a0 := HC.1
      have HK : Hid ((vin.map (·.1))[k]? = some (vin.map (·.1))[k]) := List.getElem?_eq_getElem hlt'
      obtain ⟨A, hA⟩ : ∃ A, A = (vin.map (·.1))[k] := ⟨_, rfl⟩
      rw [← hA] at a0 HK
      clear HLk hA HC
      have OW : Hid (∀ o, OwnsS (wr.alloc o) w0.heap.size (.slice va _ vc) L) := fun o => HO.out.more (grown_new _ _)
      have hsz := hg.size
      go_wp2_with (at_builtin; refine wpList_append_own _ rfl (.tmp 15) (.tmp 22) 39 rfl w0.heap.size 9 i0 (.string ⟨#[]⟩) 1 16 Tryd.underlying39 hi hz0 hz1 hz2 rfl (by decide) _ _ _ rfl (by exact OW.out _) ⟨wr.heap.size, 0, none⟩ 1 1 [.string A.name] rfl rfl (by have h := cell_one_new wr (Value.string A.name) 9; simpa using h) (by simp [Value.oneCell']) (by simp only [maxLen]; omega) (by omega) (by simp; omega) ?_; intro v' w8 hown' hgrow _; obtain ⟨na, nc, rfl⟩ := own_form hown')
      have ST : Hid (w0.grownBy w8 none ∧ OwnsS w8 w0.heap.size (.slice na (L.length + 1) nc) (((vin.map (·.1)).take (k + 1)).map (·.name))) := by
        refine ⟨grown_trans_row (grown_trans hg (grown_new wr (.cells #[.string A.name] 9))) hgrow (fun r e => (World.ownsRow.lt HO.out r e).1), ?_⟩
        have e : ((vin.map (·.1)).take (k + 1)).map (·.name) = L ++ [A.name] := by
          rw [HL.out, List.take_add_one, HK.out]
          simp
        rw [e]
        exact owns_snocS hown'
      clear hown' hgrow
      go_roundw
      case rel => exact ⟨ST.out.1, k + 1, by omega, by go_num, ST.out.2⟩
      case measure => simp [intOf]; omega
    · obtain rfl : k = vin.length := by omega
      have HF : Hid (L = (vin.map (·.1)).map (·.name)) := by show _ = _; rw [HL.out, List.take_of_length_le (by rw [List.length_map]; exact Nat.le_refl _)]
      clear HL
      obtain ⟨W1, hW1⟩ : ∃ W1, W1 = wr := ⟨_, rfl⟩
      rw [← hW1] at HO hg r2 ⊢
      clear hW1
      go_wp2_with fail
      clear r2
      go_loopw [3, 5] (fun l i wr => w0.grownBy wr none ∧ ∃ k : Nat, k ≤ vout.length ∧ i = .int .i64 k ∧ OwnsS wr w0.heap.size l ((vin.map (·.1)).map (·.name) ++ ((vout.map (·.1)).take k).map (·.name))) (fun _ i _ => vout.length - (intOf i).toNat)
      case atStart => exact ⟨hg, 0, Nat.zero_le _, rfl, by rw [List.take_zero, List.map_nil, List.append_nil, ← HF.out]; exact HO.out⟩
      case round =>
        obtain ⟨hg, k, hk, rfl, hown⟩ := hrel
        obtain ⟨L, hL⟩ : ∃ L, L = (vin.map (·.1)).map (·.name) ++ ((vout.map (·.1)).take k).map (·.name) := ⟨_, rfl⟩
        rw [← hL] at hown
        have HL := hide hL
        have hlen : L.length ≤ 4194304 := by rw [hL]; simp; omega
        have HO := hide hown
        obtain ⟨va, vc, rfl⟩ := OwnsL.form hown
        clear hown hL
        obtain ⟨r0, r1, r2, r3, r4⟩ := gra_cells (g := ⟨nam, ⟨na0, cs.length, nc0⟩, ⟨ia, vin.length, ic⟩, ⟨oa, vout.length, oc⟩, ⟨ta, its.length, tc⟩⟩) (BX.out wr hg)
        simp only at r3
        clear r0 r1 r2 r4
        by_cases hlt : k < vout.length
        · have hlt' : k < (vout.map (·.1)).length := by rw [List.length_map]; exact hlt
          have HLk := HG.out.base.outs.more (grown_trans g0 hg)
          obtain ⟨b, off, rfl⟩ := HLk.addr hlt'
          have HC := HLk.val k hlt'
          have a0 := HC.1
          have HK : Hid ((vout.map (·.1))[k]? = some (vout.map (·.1))[k]) := List.getElem?_eq_getElem hlt'
          obtain ⟨A, hA⟩ : ∃ A, A = (vout.map (·.1))[k] := ⟨_, rfl⟩
          rw [← hA] at a0 HK
          clear HLk hA HC
          have OW : Hid (∀ o, OwnsS (wr.alloc o) w0.heap.size (.slice va _ vc) L) := fun o => HO.out.more (grown_new _ _)
          have hsz := hg.size
          go_wp2_with (at_builtin; refine wpList_append_own _ rfl (.tmp 31) (.tmp 38) 39 rfl w0.heap.size 9 i0 (.string ⟨#[]⟩) 1 16 Tryd.underlying39 hi hz0 hz1 hz2 rfl (by decide) _ _ _ rfl (by exact OW.out _) ⟨wr.heap.size, 0, none⟩ 1 1 [.string A.name] rfl rfl (by have h := cell_one_new wr (Value.string A.name) 9; simpa using h) (by simp [Value.oneCell']) (by simp only [maxLen]; omega) (by omega) (by simp; omega) ?_; intro v' w8 hown' hgrow _; obtain ⟨na, nc, rfl⟩ := own_form hown')
          have ST : Hid (w0.grownBy w8 none ∧ OwnsS w8 w0.heap.size (.slice na (L.length + 1) nc) ((vin.map (·.1)).map (·.name) ++ ((vout.map (·.1)).take (k + 1)).map (·.name))) := by
            refine ⟨grown_trans_row (grown_trans hg (grown_new wr (.cells #[.string A.name] 9))) hgrow (fun r e => (World.ownsRow.lt HO.out r e).1), ?_⟩
            have e : (vin.map (·.1)).map (·.name) ++ ((vout.map (·.1)).take (k + 1)).map (·.name) = L ++ [A.name] := by
              rw [HL.out, List.take_add_one, HK.out]
              simp
            rw [e]
            exact owns_snocS hown'
          clear hown' hgrow
          go_roundw
          case rel => exact ⟨ST.out.1, k + 1, by omega, by go_num, ST.out.2⟩
          case measure => simp [intOf]; omega
        · obtain rfl : k = vout.length := by omega
          have HF : Hid (L = (vin.map (·.1)).map (·.name) ++ (vout.map (·.1)).map (·.name)) := by show _ = _; rw [HL.out, List.take_of_length_le (by rw [List.length_map]; exact Nat.le_refl _)]
          clear HL
          obtain ⟨W2, hW2⟩ : ∃ W2, W2 = wr := ⟨_, rfl⟩
          rw [← hW2] at HO hg r3 ⊢
          clear hW2
          go_wp2_with fail
          clear r3
          go_loopw [3, 6] (fun l i wr => w0.grownBy wr none ∧ ∃ k : Nat, k ≤ its.length ∧ i = .int .i64 k ∧ OwnsS wr w0.heap.size l ((vin.map (·.1)).map (·.name) ++ (vout.map (·.1)).map (·.name) ++ ((its.map (·.1)).take k).map (·.name))) (fun _ i _ => its.length - (intOf i).toNat)
          case atStart => exact ⟨hg, 0, Nat.zero_le _, rfl, by rw [List.take_zero, List.map_nil, List.append_nil, ← HF.out]; exact HO.out⟩
          case round =>
            obtain ⟨hg, k, hk, rfl, hown⟩ := hrel
            obtain ⟨L, hL⟩ : ∃ L, L = (vin.map (·.1)).map (·.name) ++ (vout.map (·.1)).map (·.name) ++ ((its.map (·.1)).take k).map (·.name) := ⟨_, rfl⟩
            rw [← hL] at hown
            have HL := hide hL
            have hlen : L.length ≤ 4194304 := by rw [hL]; simp; omega
            have HO := hide hown
            obtain ⟨va, vc, rfl⟩ := OwnsL.form hown
            clear hown hL
            obtain ⟨r0, r1, r2, r3, r4⟩ := gra_cells (g := ⟨nam, ⟨na0, cs.length, nc0⟩, ⟨ia, vin.length, ic⟩, ⟨oa, vout.length, oc⟩, ⟨ta, its.length, tc⟩⟩) (BX.out wr hg)
            simp only at r4
            clear r0 r1 r2 r3
            by_cases hlt : k < its.length
            · have hlt' : k < (its.map (·.1)).length := by rw [List.length_map]; exact hlt
              have HLk := HG.out.base.inits.more (grown_trans g0 hg)
              obtain ⟨b, off, rfl⟩ := HLk.addr hlt'
              have HC := HLk.nam k hlt'
              have a0 := HC.1
              have HK : Hid ((its.map (·.1))[k]? = some (its.map (·.1))[k]) := List.getElem?_eq_getElem hlt'
              obtain ⟨A, hA⟩ : ∃ A, A = (its.map (·.1))[k] := ⟨_, rfl⟩
              rw [← hA] at a0 HK
              clear HLk hA HC
              have OW : Hid (∀ o, OwnsS (wr.alloc o) w0.heap.size (.slice va _ vc) L) := fun o => HO.out.more (grown_new _ _)
              have hsz := hg.size
              go_wp2_with (at_builtin; refine wpList_append_own _ rfl (.tmp 47) (.tmp 54) 39 rfl w0.heap.size 9 i0 (.string ⟨#[]⟩) 1 16 Tryd.underlying39 hi hz0 hz1 hz2 rfl (by decide) _ _ _ rfl (by exact OW.out _) ⟨wr.heap.size, 0, none⟩ 1 1 [.string A.name] rfl rfl (by have h := cell_one_new wr (Value.string A.name) 9; simpa using h) (by simp [Value.oneCell']) (by simp only [maxLen]; omega) (by omega) (by simp; omega) ?_; intro v' w8 hown' hgrow _; obtain ⟨na, nc, rfl⟩ := own_form hown')
              have ST : Hid (w0.grownBy w8 none ∧ OwnsS w8 w0.heap.size (.slice na (L.length + 1) nc) ((vin.map (·.1)).map (·.name) ++ (vout.map (·.1)).map (·.name) ++ ((its.map (·.1)).take (k + 1)).map (·.name))) := by
                refine ⟨grown_trans_row (grown_trans hg (grown_new wr (.cells #[.string A.name] 9))) hgrow (fun r e => (World.ownsRow.lt HO.out r e).1), ?_⟩
                have e : (vin.map (·.1)).map (·.name) ++ (vout.map (·.1)).map (·.name) ++ ((its.map (·.1)).take (k + 1)).map (·.name) = L ++ [A.name] := by
                  rw [HL.out, List.take_add_one, HK.out]
                  simp
                rw [e]
                exact owns_snocS hown'
              clear hown' hgrow
              go_roundw
              case rel => exact ⟨ST.out.1, k + 1, by omega, by go_num, ST.out.2⟩
              case measure => simp [intOf]; omega
            · obtain rfl : k = its.length := by omega
              have HF : Hid (L = (vin.map (·.1)).map (·.name) ++ (vout.map (·.1)).map (·.name) ++ (its.map (·.1)).map (·.name)) := by show _ = _; rw [HL.out, List.take_of_length_le (by rw [List.length_map]; exact Nat.le_refl _)]
              clear HL
              obtain ⟨W3, hW3⟩ : ∃ W3, W3 = wr := ⟨_, rfl⟩
              rw [← hW3] at HO hg r4 ⊢
              clear hW3
              go_wp2_with fail
              clear r4
              go_loopw [3, 7] (fun l i wr => w0.grownBy wr none ∧ ∃ k : Nat, k ≤ cs.length ∧ i = .int .i64 k ∧ OwnsS wr w0.heap.size l ((vin.map (·.1)).map (·.name) ++ (vout.map (·.1)).map (·.name) ++ (its.map (·.1)).map (·.name) ++ (cs.take k).flatMap (fun c => c.n.out :: c.ins))) (fun _ i _ => cs.length - (intOf i).toNat)
              case atStart => exact ⟨hg, 0, Nat.zero_le _, rfl, by rw [List.take_zero, List.flatMap_nil, List.append_nil, ← HF.out]; exact HO.out⟩
              case round =>
                obtain ⟨hg, k, hk, rfl, hown⟩ := hrel
                obtain ⟨L, hL⟩ : ∃ L, L = (vin.map (·.1)).map (·.name) ++ (vout.map (·.1)).map (·.name) ++ (its.map (·.1)).map (·.name) ++ (cs.take k).flatMap (fun c => c.n.out :: c.ins) := ⟨_, rfl⟩
                rw [← hL] at hown
                have HL := hide hL
                have hlen : L.length ≤ 3145728 + 1048576 * 1048577 := by
                  have h1 := flat_le (cs := cs.take k) (fun c hc => (HG.out.is c (List.mem_of_mem_take hc)).1)
                  have h2 : (cs.take k).length ≤ 1048576 := by rw [List.length_take]; omega
                  have h3 : (cs.take k).length * 1048577 ≤ 1048576 * 1048577 := Nat.mul_le_mul_right _ h2
                  rw [hL, List.length_append]
                  simp only [List.length_append, List.length_map] at *
                  omega
                have HO := hide hown
                obtain ⟨va, vc, rfl⟩ := OwnsL.form hown
                clear hown hL
                obtain ⟨r0, r1, r2, r3, r4⟩ := gra_cells (g := ⟨nam, ⟨na0, cs.length, nc0⟩, ⟨ia, vin.length, ic⟩, ⟨oa, vout.length, oc⟩, ⟨ta, its.length, tc⟩⟩) (BX.out wr hg)
                simp only at r1
                clear r0 r2 r3 r4
                by_cases hlt : k < cs.length
                · have hlt' : k < (cs.map (·.n)).length := by rw [List.length_map]; exact hlt
                  have HLk := HG.out.base.nodes.more (grown_trans g0 hg)
                  obtain ⟨b, off, rfl⟩ := HLk.addr hlt'
                  obtain ⟨-, -, a2, a3, -⟩ := HLk.nod k hlt'
                  rw [List.getElem_map] at a2 a3
                  have HK : Hid (cs[k]? = some cs[k]) := List.getElem?_eq_getElem hlt
                  have hin := (HG.out.base.node cs[k] (List.getElem_mem hlt)).ins
                  have hil := (HG.out.is cs[k] (List.getElem_mem hlt)).1
                  have hbw : b < w.heap.size := World.block_lt_of_cell? w _ (HG.out.base.nodes.nod k hlt').1
                  obtain ⟨A, hA⟩ : ∃ A, A = cs[k] := ⟨_, rfl⟩
                  rw [← hA] at a2 a3 HK hin hil
                  have HIN := hide hin
                  clear HLk hA hin
                  have OW : Hid (∀ o, OwnsS (wr.alloc o) w0.heap.size (.slice va _ vc) L) := fun o => HO.out.more (grown_new _ _)
                  have hsz := hg.size
                  have hs0 : w.heap.size < w0.heap.size := (Array.getElem?_eq_some_iff.1 (BX.out w0 (grown_refl _))).1
                  have CX := hide (fun (wx : World) (h1 : wx.heap[w.heap.size]? = wr.heap[w.heap.size]?) (h2 : wx.heap[b]? = wr.heap[b]?) => And.intro ((World.cell?_of_block h1).trans r1) ((World.cell?_of_block h2).trans a2))
                  go_wp2_with (at_builtin; first | (refine wpList_append_own _ rfl (.tmp 63) (.tmp 70) 39 rfl w0.heap.size 9 i0 (.string ⟨#[]⟩) 1 16 Tryd.underlying39 hi hz0 hz1 hz2 rfl (by decide) _ _ _ rfl (by exact OW.out _) ⟨wr.heap.size, 0, none⟩ 1 1 [.string A.n.out] rfl rfl (by have h := cell_one_new wr (Value.string A.n.out) 9; simpa using h) (by simp [Value.oneCell']) (by simp only [maxLen]; omega) (by omega) (by simp; omega) ?_; intro v' w8 hown' hgrow _; obtain ⟨na, nc, rfl⟩ := own_form hown'; have g8 : w0.grownBy w8 none := grown_trans_row (grown_trans hg (grown_new wr (.cells #[.string A.n.out] 9))) hgrow (fun r e => (World.ownsRow.lt HO.out r e).1); have OW8 := hide (owns_snocS hown'); have HI8 := hide (HIN.out.more (grown_trans g0 g8)); obtain ⟨r1, a2⟩ := CX.out w8 ((g8.block _ hs0 (by simp)).trans (hg.block _ hs0 (by simp)).symm) ((g8.block _ (by omega) (by simp)).trans (hg.block _ (by omega) (by simp)).symm); have s8 := g8.size) | (refine wpl_app rfl (.tmp 72) (.tmp 78) 39 9 1 16 (.string ⟨#[]⟩) i0 scell rfl Tryd.underlying39 hi hz0 hz1 hz2 rfl (by decide) w0.heap.size (.slice na (L.length + 1) nc) (L ++ [A.n.out]) rfl (by exact OW8.out) s8 (.slice A.n.iv.a A.n.iv.n A.n.iv.c) A.ins rfl (by exact HI8.out) scell_len scell_one (by rw [List.length_append, List.length_singleton]; omega) (by rw [List.length_append, List.length_singleton]; omega) ?_; intro v9 w9 hown9 hgrow9; obtain ⟨ma, mc, rfl⟩ := OwnsL.form hown9))
                  have ST : Hid (w0.grownBy w9 none ∧ OwnsS w9 w0.heap.size (.slice ma (L ++ [A.n.out] ++ A.ins).length mc) ((vin.map (·.1)).map (·.name) ++ (vout.map (·.1)).map (·.name) ++ (its.map (·.1)).map (·.name) ++ (cs.take (k + 1)).flatMap (fun c => c.n.out :: c.ins))) := by
                    refine ⟨grown_trans_row g8 hgrow9 (fun r e => (World.ownsRow.lt OW8.out r e).1), ?_⟩
                    have e : (vin.map (·.1)).map (·.name) ++ (vout.map (·.1)).map (·.name) ++ (its.map (·.1)).map (·.name) ++ (cs.take (k + 1)).flatMap (fun c => c.n.out :: c.ins) = L ++ [A.n.out] ++ A.ins := by
                      rw [HL.out, take_flat HK.out]
                      simp only [List.append_assoc]
                    rw [e]
                    exact hown9
                  clear hown' hgrow hown9 hgrow9
                  go_roundw
                  case rel => exact ⟨ST.out.1, k + 1, by omega, by go_num, by have e : (L ++ [A.n.out] ++ A.ins).length = L.length + (A.ins.length + 1) := (by rw [List.length_append, List.length_append, List.length_singleton]; omega); rw [← e]; exact ST.out.2⟩
                  case measure => simp [intOf]; omega
                · obtain rfl : k = cs.length := by omega
                  have HF : Hid (L = allN cs vin vout its) := by show _ = _; rw [HL.out, List.take_of_length_le (Nat.le_refl _)]; rfl
                  go_wp2
                  go_ret
                  exact ⟨⟨va, L.length, vc⟩, rfl, by rw [← HF.out]; exact HO.out.base_le g0.size, grown_trans g0 hg⟩
end Go.Proofs.YtflalpchhojenaaDoor
