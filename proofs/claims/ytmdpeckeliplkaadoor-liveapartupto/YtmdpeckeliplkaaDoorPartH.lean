/- Joined texts: NReads, NRFind, NRAttrs, NRThen, NRCheck. -/
import Derived.Test.YtmdpeckeliplkaaDoorPartE
import Derived.Test.YtmdpeckeliplkaaDoorNRNumJ
import Derived.Test.YtmdpeckeliplkaaDoorPartG
import Derived.Test.YtmdpeckeliplkaaDoorPartD
import Derived.Test.YtmdpeckeliplkaaDoorPartF
/- An attribute's value, or what stands for it, by the walk (mkReads.py). -/
namespace Go.Proofs.YtmdpeckeliplkaaDoor
open Go.RowKit

/-- The numbers of the attribute that is so called, or others. -/
def intsV (xs : List Atr) (cs : List Cont) (nm : ByteArray) (zs : List Int) : List Int := match (xs.zip cs).find? (fun p => isA nm 7 p.1) with
  | some p => p.2.i
  | none => zs

def intV (xs : List Atr) (nm : ByteArray) (z : Int) : Int := match xs.find? (isA nm 2) with
  | some a => a.i
  | none => z

def bitsV (xs : List Atr) (nm : ByteArray) (z : Int) : Int := match xs.find? (isA nm 1) with
  | some a => a.f
  | none => z

theorem found_of {w : World} {xs : List Atr} {cs : List Cont} {nm : ByteArray} {kd : Int} (hc : ∀ (j : Nat) (a : Atr), xs[j]? = some a → ∃ c, cs[j]? = some c ∧ Has w a c) :
    ∃ (A : Atr) (b : Bool) (c : Cont), (xs.find? (isA nm kd)).getD noAtr = A ∧ (xs.find? (isA nm kd)).isSome = b ∧ (b = true → Has w A c) ∧ ((b = true → xs.find? (isA nm kd) = some A ∧ (xs.zip cs).find? (fun p => isA nm kd p.1) = some (A, c)) ∧ (b = false → xs.find? (isA nm kd) = none ∧ (xs.zip cs).find? (fun p => isA nm kd p.1) = none)) := by
  rcases find_zip (P := isA nm kd) hc with ⟨e1, e2⟩ | ⟨a, c, e1, e2, e3⟩
  · exact ⟨noAtr, false, ⟨[], [], []⟩, by rw [e1]; rfl, by rw [e1]; rfl, (fun h => by cases h), (fun h => by cases h), fun _ => ⟨e1, e2⟩⟩
  · exact ⟨a, true, c, by rw [e1]; rfl, by rw [e1]; rfl, (fun _ => e3), (fun _ => ⟨e1, e2⟩), (fun h => by cases h)⟩

theorem owns_empty (w : World) (te : TypeId) : OwnsL te 1 icell (w.alloc (.cells #[] te)) w.heap.size (.slice (some ⟨w.heap.size, 0, none⟩) 0 0) [] :=
  ⟨rfl, .inr ⟨w.heap.size, 0, #[], rfl, Nat.le_refl _, heap_alloc_new w _, Nat.le_refl _, by simp [maxLen], rfl, rfl⟩⟩

theorem eql_nil (w : World) (a : Option Addr) (l c : Nat) : (binOp .eql 55 (.slice a l c) (.slice none 0 0)).run Tryd.prog w = .ok (.bool a.isNone) w := by
  cases a <;> kernel_rfl

end Go.Proofs.YtmdpeckeliplkaaDoor

/- The document's find, Ints, Int and Bits, by the walk. -/
namespace Go.Proofs.YtmdpeckeliplkaaDoor
open Go.RowKit

theorem find_at {P : Atr → Bool} {xs : List Atr} {k : Nat} (hk : k < xs.length) (h : P xs[k] = true) : (xs.drop k).find? P = some xs[k] := by
  rw [List.drop_eq_getElem_cons hk, List.find?_cons, h]

theorem find_past {P : Atr → Bool} {xs : List Atr} {k : Nat} (hk : k < xs.length) (h : P xs[k] = false) : (xs.drop k).find? P = (xs.drop (k + 1)).find? P := by
  rw [List.drop_eq_getElem_cons hk, List.find?_cons, h]

set_option maxRecDepth 100000 in
set_option maxHeartbeats 6400000 in
theorem rfind_any (n : Nod) (xs : List Atr) (nm : ByteArray) (kd : Int) (w : World) (hv : IsAttrs w n.av.v xs) :
    Calls Tryd.prog 90 #[nval n, .string nm, .int .i64 kd] w fun e w' => e = .returned (.tuple #[aval ((xs.find? (isA nm kd)).getD noAtr), .bool (xs.find? (isA nm kd)).isSome]) ∧ w.grownBy w' none := by
  obtain ⟨op, nam, ⟨ia, il, ic⟩, out, ⟨ao, al, cap⟩⟩ := n
  simp only at hv
  obtain ⟨ao', cap', hav, h1, h2, h3⟩ := hv.form
  obtain ⟨rfl, rfl, rfl⟩ : ao = ao' ∧ al = xs.length ∧ cap = cap' := by simpa [Sl.v] using hav
  have HV := hide hv
  clear hv hav
  unfold nval
  obtain ⟨w0, hw0⟩ : ∃ w0, w0 = (w.alloc (.cells #[.string op, .string nam, .slice ia il ic, .string out, .slice ao xs.length cap] 52)).alloc (.cells #[.string ⟨#[]⟩, .int .i64 0, .int .i64 0, .int .i64 0, .string ⟨#[]⟩, .int .i64 0, .slice none 0 0, .slice none 0 0, .slice none 0 0] 82) := ⟨_, rfl⟩
  have g0 : w.grownBy w0 none := by rw [hw0]; exact grown_trans (grown_new _ _) (grown_new _ _)
  have hbx := two_boxes w (.cells #[.string op, .string nam, .slice ia il ic, .string out, .slice ao xs.length cap] 52) (.cells #[.string ⟨#[]⟩, .int .i64 0, .int .i64 0, .int .i64 0, .string ⟨#[]⟩, .int .i64 0, .slice none 0 0, .slice none 0 0, .slice none 0 0] 82)
  rw [← hw0] at hbx
  have BX := hide hbx
  clear hbx
  obtain ⟨-, -, -, -, n4⟩ := nod_cells (n := ⟨op, nam, ⟨ia, il, ic⟩, out, ⟨ao, xs.length, cap⟩⟩) BX.out.1
  obtain ⟨f0, f1, f2, f3, f4, f5, f6, f7, f8⟩ := atr_frozen BX.out.2
  obtain ⟨k0, k1, k2, k3, k4, k5, k6, k7, k8⟩ := atr_cells (a := noAtr) BX.out.2
  go_enter Tryd.func90, Tryd.ntmps90
  go_wp2_with fail
  rw [← hw0]
  clear hw0
  go_loopw [8] (fun i wr => wr = w0 ∧ ∃ k : Nat, k ≤ xs.length ∧ i = .int .i64 k ∧ xs.find? (isA nm kd) = (xs.drop k).find? (isA nm kd)) (fun i _ => xs.length - (intOf i).toNat)
  case atStart => exact ⟨rfl, 0, Nat.zero_le _, rfl, rfl⟩
  case round =>
    obtain ⟨rfl, k, hk, rfl, hpl⟩ := hrel
    have HPL := hide hpl
    clear hpl
    by_cases hlt : k < xs.length
    · have HV1 := HV.out.more g0
      obtain ⟨b, off, rfl⟩ := HV1.addr hlt
      obtain ⟨a0, a1, a2, a3, a4, a5, a6, a7, a8⟩ := HV1.attr k hlt
      have HF : Hid (isA nm kd xs[k] = true → xs.find? (isA nm kd) = some xs[k]) := fun h => HPL.out.trans (find_at hlt h)
      have HP : Hid (isA nm kd xs[k] = false → xs.find? (isA nm kd) = (xs.drop (k + 1)).find? (isA nm kd)) := fun h => HPL.out.trans (find_past hlt h)
      obtain ⟨A, hA⟩ : ∃ A, A = xs[k] := ⟨_, rfl⟩
      rw [← hA] at a0 a1 a2 a3 a4 a5 a6 a7 a8 HF HP
      clear HV1 hA
      by_cases hn : (A.name.toList == nm.toList) = true
      · by_cases hkd : (A.kind == kd) = true
        · have HE : Hid (xs.find? (isA nm kd) = some A) := HF.out (by unfold isA; rw [hn, hkd]; rfl)
          obtain ⟨hX, gX⟩ := store9 (.string A.name) (.int .i64 A.kind) (.int .i64 A.f) (.int .i64 A.i) (.string A.s) (.int .i64 A.ty) (.slice A.dv.a A.dv.n A.dv.c) (.slice A.tv.a A.tv.n A.tv.c) (.slice A.iv.a A.iv.n A.iv.c) g0 (show w.heap.size ≤ w.heap.size + 1 by omega) BX.out.2
          have HX := hide hX
          have GX := hide gX
          clear hX gX
          go_wp2
          refine bodyPost_ret (ret_atr rfl _ _ (w.heap.size + 1) rfl HX.out) rfl ?_
          exact ⟨by rw [HE.out]; rfl, GX.out⟩
        · have hkd' : (A.kind == kd) = false := by simpa using hkd
          have HN : Hid (xs.find? (isA nm kd) = (xs.drop (k + 1)).find? (isA nm kd)) := HP.out (by unfold isA; rw [hn, hkd']; rfl)
          clear hkd
          go_wp2
          go_roundw
          case rel => exact ⟨by trivial, k + 1, by omega, by go_num, HN.out⟩
          case measure => simp [intOf]; omega
      · have hn' : (A.name.toList == nm.toList) = false := by simpa using hn
        have HN : Hid (xs.find? (isA nm kd) = (xs.drop (k + 1)).find? (isA nm kd)) := HP.out (by unfold isA; rw [hn']; rfl)
        clear hn
        go_wp2
        go_roundw
        case rel => exact ⟨by trivial, k + 1, by omega, by go_num, HN.out⟩
        case measure => simp [intOf]; omega
    · obtain rfl : k = xs.length := by omega
      have HE : Hid (xs.find? (isA nm kd) = none) := by show _ = _; rw [HPL.out, List.drop_of_length_le (Nat.le_refl _)]; rfl
      obtain ⟨hX, gX⟩ := store9 (.string ⟨#[]⟩) (.int .i64 0) (.int .i64 0) (.int .i64 0) (.string ⟨#[]⟩) (.int .i64 0) (.slice none 0 0) (.slice none 0 0) (.slice none 0 0) g0 (show w.heap.size ≤ w.heap.size + 1 by omega) BX.out.2
      have HX := hide hX
      have GX := hide gX
      clear hX gX
      go_wp2
      refine bodyPost_ret (ret_atr rfl _ _ (w.heap.size + 1) rfl HX.out) rfl ?_
      exact ⟨by rw [HE.out]; rfl, GX.out⟩
end Go.Proofs.YtmdpeckeliplkaaDoor

/- The error of a node's attributes: the document's answer, by the walk. -/
namespace Go.Proofs.YtmdpeckeliplkaaDoor
open Go.RowKit

/-- No two attributes of an operator are called the same. -/
def Apart (a b : Ra) : Prop := (a.name.toList == b.name.toList) = false

/-- Those of one name ahead of a place have the kind. -/
def kindOK (nm : ByteArray) (kd : Int) (rs : List Ra) : Bool := rs.all (fun r => !(sameR nm r) || (r.kind == kd))

theorem find_uniq {nm : ByteArray} : ∀ {rs : List Ra} {j : Nat} {r : Ra}, rs.Pairwise Apart → rs[j]? = some r → sameR nm r = true → rs.find? (sameR nm) = some r
  | x :: l, 0, r, _, h, hs => by
    obtain rfl : x = r := by simpa using h
    rw [List.find?_cons, hs]
  | x :: l, j + 1, r, hp, h, hs => by
    obtain ⟨h1, h2⟩ := List.pairwise_cons.1 hp
    have hj : l[j]? = some r := by simpa using h
    have hx : sameR nm x = false := by
      have h3 := h1 r (List.mem_of_getElem? hj)
      unfold Apart at h3
      unfold sameR at hs ⊢
      rw [beq_iff_eq] at hs
      rw [← hs]
      exact h3
    rw [List.find?_cons, hx]
    exact find_uniq h2 hj hs

theorem any_find {nm : ByteArray} {rs : List Ra} : rs.any (sameR nm) = (rs.find? (sameR nm)).isSome := by
  induction rs with
  | nil => rfl
  | cons x l ih =>
    rw [List.any_cons, List.find?_cons]
    cases sameR nm x <;> simp [ih]

theorem kind_step {nm : ByteArray} {kd : Int} {rs : List Ra} {j : Nat} {r : Ra} (h : kindOK nm kd (rs.take j) = true) (hj : rs[j]? = some r) (hr : (!(sameR nm r) || (r.kind == kd)) = true) : kindOK nm kd (rs.take (j + 1)) = true := by
  unfold kindOK at h ⊢
  rw [List.take_add_one, List.all_append, h, hj]
  simp only [Option.toList_some, List.all_cons, List.all_nil, Bool.and_true, Bool.true_and]
  exact hr

theorem any_take {rs : List Ra} {f : Ra → Bool} {j : Nat} {r : Ra} (hj : rs[j]? = some r) : (rs.take (j + 1)).any f = ((rs.take j).any f || f r) := by
  rw [List.take_add_one, List.any_append, hj]
  simp

theorem kind_found {nm : ByteArray} {kd : Int} {rs : List Ra} {r : Ra} (h : kindOK nm kd rs = true) (hf : rs.find? (sameR nm) = some r) : r.kind = kd := by
  unfold kindOK at h
  rw [List.all_eq_true] at h
  have := h r (List.mem_of_find?_eq_some hf)
  rw [List.find?_some hf] at this
  simpa using this

theorem ra_at {w : World} {b off len cap : Nat} {xs : List Ra} (h : IsL 32 3 rcells w (.slice (some ⟨b, off, none⟩) len cap) xs) (k : Nat) (hk : k < xs.length) : w.cell? ⟨b, off + k * 3, none⟩ = some (.string xs[k].name) ∧ w.cell? ⟨b, off + k * 3 + 1, none⟩ = some (.int .i64 xs[k].kind) ∧ w.cell? ⟨b, off + k * 3 + 2, none⟩ = some (.bool xs[k].must) :=
  ⟨h.at k hk 0 (by omega), h.at k hk 1 (by omega), h.at k hk 2 (by omega)⟩

/-- What is found of one attribute among those of the operator. -/
def one1 (rs : List Ra) (a : Atr) : Option Int := match rs.find? (sameR a.name) with
  | none => some 5
  | some r => if a.kind != r.kind then some 4 else none

set_option maxRecDepth 100000 in
set_option maxHeartbeats 12800000 in
theorem rattrs_any (n : Nod) (xs : List Atr) (fv : Sl) (fs rs : List Ra) (hrs : rs = fs ++ [thenRa]) (base : Nat) (w : World) (hvk : ∀ w', w.grownBy w' fv.v.ownBlock → IsAttrs w' n.av.v xs) (hf : OwnsF w base fv.v fs) (hb : base ≤ w.heap.size) (hfl : fs.length ≤ 20) (hd : rs.Pairwise Apart) :
    Calls Tryd.prog 75 #[nval n, .slice fv.a fv.n fv.c] w fun e w' => e = .returned (.int .i64 (attrsE rs xs)) ∧ w.grownBy w' fv.v.ownBlock := by
  obtain ⟨i0, hi, hz0, hz1, hz2⟩ := info_parts infoFo
  obtain ⟨op, nam, ⟨ia, il, ic⟩, out, ⟨ao, al, cap⟩⟩ := n
  simp only at hvk
  have hv := hvk w (World.grownBy.refl _ _)
  obtain ⟨ao', cap', hav, h1, h2, h3⟩ := hv.form
  obtain ⟨rfl, rfl, rfl⟩ : ao = ao' ∧ al = xs.length ∧ cap = cap' := by simpa [Sl.v] using hav
  have HVK := hide hvk
  have HF := hide hf
  have HD := hide hd
  have HRS := hide hrs
  clear hv hav hd hvk hrs
  unfold nval
  simp only
  obtain ⟨w0, hw0⟩ : ∃ w0, w0 = w.alloc (.cells #[.string op, .string nam, .slice ia il ic, .string out, .slice ao xs.length cap] 52) := ⟨_, rfl⟩
  have g0 : w.grownBy w0 none := by rw [hw0]; exact grown_new _ _
  have b0 := heap_alloc_new w (.cells #[.string op, .string nam, .slice ia il ic, .string out, .slice ao xs.length cap] 52)
  rw [← hw0] at b0
  have B0 := hide b0
  have S0 : Hid (w0.heap.size = w.heap.size + 1) := by show _ = _; rw [hw0]; simp
  clear b0
  go_enter Tryd.func75, Tryd.ntmps75
  go_wp2_with fail
  rw [← hw0]
  clear hw0
  refine (ropt_any _ _ w0).mono ?_
  rintro e w1 ⟨rfl, hg1⟩
  have g1 := grown_trans g0 hg1
  have OW1 : Hid (∀ o, (w1.alloc o).ownsRow base 133 3 (.slice fv.a fv.n fv.c) fs.length (fs.flatMap rcells)) := fun o => World.ownsRow.alloc (OwnsL.more HF.out g1) o
  have sz1 := g1.size
  go_wp2_with (at_builtin; refine wpList_append_lies _ rfl (.tmp 13) (.tmp 15) 112 rfl base 133 i0 (.agg #[.string ⟨#[]⟩, .int .i64 0, .bool false]) 3 32 Tryd.underlying112 hi hz0 hz1 hz2 rfl (by decide) (.slice fv.a fv.n fv.c) fs.length (fs.flatMap rcells) rfl (by exact OW1.out _) ⟨w1.heap.size, 0, none⟩ 1 1 (rcells thenRa) rfl rfl (by exact World.news_of_block (heap_alloc_new w1 _)) (by intro u hu; simp only [rcells, List.mem_cons, List.not_mem_nil, or_false] at hu; rcases hu with rfl | rfl | rfl <;> rfl) (by omega) (by simp only [maxLen]; omega) (by omega) (by simp; omega) (w1.heap.size + 1) (by simp) ?_; intro g gc w4 hown' hgrow hat hlt4)
  have hrs := HRS.out
  have hrl : rs.length = fs.length + 1 := by rw [hrs]; simp
  have IR : Hid (IsL 32 3 rcells w4 (.slice (some ⟨g, 0, none⟩) (fs.length + 1) gc) rs) := by
    have o1 : OwnsL 133 3 rcells w4 base (.slice (some ⟨g, 0, none⟩) (fs.length + 1) gc) rs := by
      unfold OwnsL
      rw [hrl, hrs, List.flatMap_append]
      simpa using hown'
    exact o1.isL (bytes := 32) rcells_len (by omega)
  have fvlt : ∀ b, fv.v.ownBlock = some b → base ≤ b ∧ b < w.heap.size := fun b e => World.ownsRow.lt HF.out b e
  have GW4 : Hid (w.grownBy w4 fv.v.ownBlock) := by
    have ga := grown_trans g1 (grown_new w1 (.cells #[.string ⟨#[116, 104, 101, 110]⟩, .int .i64 3, .bool false] 133))
    exact grown_none_row ga hgrow
  have B4 : Hid (∀ wx, w4.grownBy wx none → wx.heap[w.heap.size]? = some (.cells #[.string op, .string nam, .slice ia il ic, .string out, .slice ao xs.length cap] 52 (0, 0))) := fun wx hx => box_kept ((hgrow.block _ (by have := S0.out; have := hg1.size; simp; omega) (fun e => by have := fvlt _ e.symm; omega)).trans (box_kept (box_kept B0.out hg1) (grown_new w1 _))) hx
  have GX : Hid (∀ wx, w4.grownBy wx none → w.grownBy wx fv.v.ownBlock) := fun wx hx => ⟨hx.os.trans GW4.out.os, hx.tape.trans GW4.out.tape, hx.output.trans GW4.out.output, Nat.le_trans GW4.out.size hx.size, fun b hb hne => (hx.block b (Nat.lt_of_lt_of_le hb GW4.out.size) (by simp)).trans (GW4.out.block b hb hne)⟩
  have HV : Hid (∀ wx, w4.grownBy wx none → IsAttrs wx (.slice ao xs.length cap) xs) := fun wx hx => HVK.out wx (GX.out wx hx)
  have HRL := hide hrl
  have hrl21 : fs.length + 1 ≤ 21 := by omega
  obtain ⟨m, hm⟩ : ∃ m, m = fs.length + 1 := ⟨_, rfl⟩
  rw [← hm] at IR hrl21 HRL ⊢
  clear hown' hgrow hat hlt4 OW1 B0 hf hrl hrs fvlt hm hfl g0 g1 hg1 sz1 S0
  have hgcm : m ≤ gc := by
    obtain ⟨a', c', e, k1, -⟩ := IR.out
    simp only [Value.slice.injEq] at e
    have := HRL.out
    omega
  have hgcx : gc ≤ 9223372036854775807 := by
    obtain ⟨a', c', e, k1, k2, -⟩ := IR.out
    simp only [Value.slice.injEq] at e
    omega
  go_loopw [5] (fun i wr => w4.grownBy wr none ∧ ∃ k : Nat, k ≤ xs.length ∧ i = .int .i64 k ∧ chk1 rs xs xs 0 = chk1 rs xs (xs.drop k) k) (fun i _ => xs.length - (intOf i).toNat)
  case atStart => exact ⟨grown_refl _, 0, Nat.zero_le _, rfl, rfl⟩
  case round =>
    obtain ⟨hg, k, hk, rfl, hpl⟩ := hrel
    have HPL := hide hpl
    clear hpl
    obtain ⟨-, -, -, -, n4⟩ := nod_cells (n := ⟨op, nam, ⟨ia, il, ic⟩, out, ⟨ao, xs.length, cap⟩⟩) (B4.out wr hg)
    by_cases hlt : k < xs.length
    · have HVk := HV.out wr hg
      obtain ⟨b, off, rfl⟩ := HVk.addr hlt
      obtain ⟨a0, a1, a2, a3, a4, a5, a6, a7, a8⟩ := HVk.attr k hlt
      have HCK := hide (chk1_at (rs := rs) hlt)
      obtain ⟨A, hA⟩ : ∃ A, A = xs[k] := ⟨_, rfl⟩
      rw [← hA] at a0 a1 a2 a3 a4 a5 a6 a7 a8 HCK
      clear HVk hA
      obtain ⟨W1, hW1⟩ : ∃ W1, W1 = wr.alloc (.cells #[.string A.name, .int .i64 A.kind, .int .i64 A.f, .int .i64 A.i, .string A.s, .int .i64 A.ty, .slice A.dv.a A.dv.n A.dv.c, .slice A.tv.a A.tv.n A.tv.c, .slice A.iv.a A.iv.n A.iv.c] 82) := ⟨_, rfl⟩
      have G1 : wr.grownBy W1 none := by rw [hW1]; exact grown_new _ _
      have B1 := heap_alloc_new wr (.cells #[.string A.name, .int .i64 A.kind, .int .i64 A.f, .int .i64 A.i, .string A.s, .int .i64 A.ty, .slice A.dv.a A.dv.n A.dv.c, .slice A.tv.a A.tv.n A.tv.c, .slice A.iv.a A.iv.n A.iv.c] 82)
      rw [← hW1] at B1
      have AB : Hid (∀ wx, W1.grownBy wx none → wx.heap[wr.heap.size]? = some (.cells #[.string A.name, .int .i64 A.kind, .int .i64 A.f, .int .i64 A.i, .string A.s, .int .i64 A.ty, .slice A.dv.a A.dv.n A.dv.c, .slice A.tv.a A.tv.n A.tv.c, .slice A.iv.a A.iv.n A.iv.c] 82 (0, 0))) := fun wx hx => box_kept B1 hx
      have gW := grown_trans hg G1
      clear B1
      go_wp2_with fail
      rw [← hW1]
      clear hW1 a0 a1 a2 a3 a4 a5 a6 a7 a8 n4
      obtain ⟨wo, rfl⟩ : ∃ wo, wo = wr := ⟨_, rfl⟩
      go_loopw [7, 8] (fun kn i wx => W1.grownBy wx none ∧ ∃ j : Nat, j ≤ m ∧ i = .int .i64 j ∧ kn = .bool ((rs.take j).any (sameR A.name)) ∧ kindOK A.name A.kind (rs.take j) = true) (fun _ i _ => m - (intOf i).toNat)
      case atStart => exact ⟨grown_refl _, 0, Nat.zero_le _, rfl, rfl, rfl⟩
      case round =>
        obtain ⟨hg2, j, hj, rfl, rfl, hko⟩ := hrel
        have HKO := hide hko
        clear hko
        by_cases hjl : j < m
        · have hjr : j < rs.length := by have := HRL.out; omega
          obtain ⟨r0, r1, r2⟩ := ra_at (IR.out.more (grown_trans gW hg2)) j hjr
          simp only [Nat.zero_add] at r0 r1 r2
          obtain ⟨c0, c1, c2, -⟩ := atr_cells (AB.out wr hg2)
          have HJ : Hid (rs[j]? = some rs[j]) := List.getElem?_eq_getElem hjr
          obtain ⟨R, hR⟩ : ∃ R, R = rs[j] := ⟨_, rfl⟩
          rw [← hR] at r0 r1 r2 HJ
          clear hR
          go_wp2_with fail
          go_cut [42] from 29 to 50 (fun b wx => b = .bool (sameR A.name R) ∧ W1.grownBy wx none)
          case first =>
            go_region
            all_goals
              go_wp2_with fail
              go_meet
              exact ⟨rfl, grown_drew hg2⟩
          case rest =>
            obtain ⟨rfl, hg3⟩ := hcut
            clear r0 r1 r2 c0 c1 c2
            cases hsr : sameR A.name R with
            | false =>
              have HN1 : Hid ((rs.take (j + 1)).any (sameR A.name) = (rs.take j).any (sameR A.name)) := by show _ = _; rw [any_take HJ.out, hsr, Bool.or_false]
              have HN2 : Hid (kindOK A.name A.kind (rs.take (j + 1)) = true) := kind_step HKO.out HJ.out (by rw [hsr]; rfl)
              clear hsr
              go_wp2
              go_roundw
              case rel => exact ⟨hg3, j + 1, by omega, by go_num, by rw [HN1.out], HN2.out⟩
              case measure => simp [intOf]; omega
            | true =>
              have HS := hide hsr
              obtain ⟨r0, r1, r2⟩ := ra_at (IR.out.more (grown_trans gW hg3)) j hjr
              simp only [Nat.zero_add] at r0 r1 r2
              have hR2 : rs[j] = R := Option.some.inj ((List.getElem?_eq_getElem hjr).symm.trans HJ.out)
              rw [hR2] at r0 r1 r2
              obtain ⟨c0, c1, c2, -⟩ := atr_cells (AB.out wc hg3)
              clear hR2 hsr
              go_wp2_with fail
              obtain ⟨wd, hwd⟩ : ∃ wd, wd = wc := ⟨_, rfl⟩
              rw [← hwd] at r0 r1 r2 c0 c1 c2 hg3 ⊢
              clear hwd
              go_cut [50] from 29 to 50 (fun b wx => b = .bool (R.kind != A.kind) ∧ W1.grownBy wx none)
              case first =>
                go_region
                all_goals
                  go_wp2_with fail
                  go_meet
                  exact ⟨rfl, grown_drew hg3⟩
              case rest =>
                obtain ⟨rfl, hg4⟩ := hcut
                have HFU : Hid (rs.find? (sameR A.name) = some R) := find_uniq HD.out HJ.out HS.out
                clear r0 r1 r2 c0 c1 c2
                cases hkd : (R.kind != A.kind) with
                | true =>
                  have E : Hid (attrsE rs xs = 4) := attrsE_some (by
                    rw [HPL.out, HCK.out, HFU.out]
                    have : (A.kind != R.kind) = true := by rw [bne_iff_ne] at hkd ⊢; exact fun e => hkd e.symm
                    simp only [this, Bool.true_or, if_true])
                  clear hkd
                  go_wp2
                  go_ret
                  exact ⟨by rw [E.out]; rfl, GX.out _ (grown_trans gW hg4)⟩
                | false =>
                  have HN1 : Hid ((rs.take (j + 1)).any (sameR A.name) = true) := by show _ = _; rw [any_take HJ.out, HS.out, Bool.or_true]
                  have HN2 : Hid (kindOK A.name A.kind (rs.take (j + 1)) = true) := kind_step HKO.out HJ.out (by have h : R.kind = A.kind := (by simpa using hkd); rw [h]; simp)
                  clear hkd
                  go_wp2
                  go_roundw
                  case rel => exact ⟨hg4, j + 1, by omega, by go_num, by rw [HN1.out], HN2.out⟩
                  case measure => simp [intOf]; omega
        · obtain rfl : j = m := by omega
          have hall : rs.take j = rs := List.take_of_length_le (by have := HRL.out; omega)
          rw [hall] at HKO ⊢
          clear hall
          rw [any_find]
          cases hfd : rs.find? (sameR A.name) with
          | none =>
            have E : Hid (attrsE rs xs = 5) := attrsE_some (by rw [HPL.out, HCK.out, hfd])
            clear hfd
            go_wp2
            go_ret
            exact ⟨by rw [E.out]; rfl, GX.out _ (grown_trans gW hg2)⟩
          | some R =>
            have HFD := hide hfd
            have HKD : Hid ((A.kind != R.kind) = false) := by have := kind_found HKO.out hfd; show _ = _; simp [this]
            clear hfd
            simp only [Option.isSome_some]
            obtain ⟨wp, rfl⟩ : ∃ wp, wp = wr := ⟨_, rfl⟩
            go_wp2_with fail
            go_loopw [9] (fun i wx => W1.grownBy wx none ∧ ∃ q : Nat, q ≤ k ∧ i = .int .i64 q ∧ (xs.take q).any (aheadA A.name) = false) (fun i _ => k - (intOf i).toNat)
            case atStart => exact ⟨hg2, 0, Nat.zero_le _, rfl, rfl⟩
            case round =>
              obtain ⟨hg3, q, hq, rfl, hno⟩ := hrel
              have HNO := hide hno
              clear hno
              by_cases hql : q < k
              · have HVq := HV.out wr (grown_trans gW hg3)
                obtain ⟨x0, -⟩ := HVq.attr q (by omega)
                obtain ⟨c0, c1, c2, -⟩ := atr_cells (AB.out wr hg3)
                obtain ⟨-, -, -, -, n4⟩ := nod_cells (n := ⟨op, nam, ⟨ia, il, ic⟩, out, ⟨some ⟨b, off, none⟩, xs.length, cap⟩⟩) (B4.out wr (grown_trans gW hg3))
                have HQ : Hid (xs[q]? = some (xs[q]'(by omega))) := List.getElem?_eq_getElem _
                obtain ⟨D, hD⟩ : ∃ D, D = xs[q]'(by omega) := ⟨_, rfl⟩
                rw [← hD] at x0 HQ
                clear HVq hD
                go_wp2_with fail
                go_cut [66] from 53 to 66 (fun b wx => b = .bool (aheadA A.name D) ∧ W1.grownBy wx none)
                case first =>
                  go_region
                  all_goals
                    go_wp2_with fail
                    go_meet
                    exact ⟨rfl, grown_drew hg3⟩
                case rest =>
                  obtain ⟨rfl, hg4⟩ := hcut
                  clear x0 c0 c1 c2 n4
                  cases hah : aheadA A.name D with
                  | true =>
                    have E : Hid (attrsE rs xs = 4) := attrsE_some (by
                      rw [HPL.out, HCK.out, HFD.out]
                      have ha : (xs.take k).any (aheadA A.name) = true := List.any_eq_true.2 ⟨D, by
                        have h5 : (xs.take k)[q]? = some D := by rw [List.getElem?_take_of_lt hql]; exact HQ.out
                        exact List.mem_of_getElem? h5, hah⟩
                      simp only [ha, Bool.or_true, if_true])
                    clear hah
                    go_wp2
                    go_ret
                    exact ⟨by rw [E.out]; rfl, GX.out _ (grown_trans gW hg4)⟩
                  | false =>
                    have HN : Hid ((xs.take (q + 1)).any (aheadA A.name) = false) := by
                      show _ = _
                      rw [List.take_add_one, List.any_append, HNO.out, HQ.out]
                      simp [hah]
                    clear hah
                    go_wp2
                    go_roundw
                    case rel => exact ⟨hg4, q + 1, by omega, by go_num, HN.out⟩
                    case measure => simp [intOf]; omega
              · obtain rfl : q = k := by omega
                obtain ⟨c0, c1, c2, -⟩ := atr_cells (AB.out wr hg3)
                by_cases hk1 : A.kind = 1
                · have e1 : (A.kind == 1) = true := by simpa using hk1
                  have HE1 := hide e1
                  rw [hk1] at c1
                  clear hk1 e1
                  go_wp2_with fail
                  refine (rcheck_any 1 A.f wr).mono ?_
                  rintro e w5 ⟨rfl, rfl⟩
                  cases hf5 : chk 1 A.f with
                  | false =>
                    have E : Hid (attrsE rs xs = 4) := attrsE_some (by rw [HPL.out, HCK.out, HFD.out]; simp [HKD.out, HNO.out, HE1.out, fOK_chk, hf5])
                    clear hf5
                    go_wp2
                    go_ret
                    exact ⟨by rw [E.out]; rfl, GX.out _ (grown_trans gW hg3)⟩
                  | true =>
                    have HN : Hid (chk1 rs xs xs 0 = chk1 rs xs (xs.drop (q + 1)) (q + 1)) := by
                      show _ = _
                      rw [HPL.out, HCK.out, HFD.out]; simp [HKD.out, HNO.out, fOK_chk, hf5]
                    clear hf5
                    go_wp2
                    go_roundw
                    case rel => exact ⟨grown_trans gW hg3, q + 1, by omega, by go_num, HN.out⟩
                    case measure => simp [intOf]; omega
                · have e1 : (A.kind == 1) = false := by simpa using hk1
                  have HN : Hid (chk1 rs xs xs 0 = chk1 rs xs (xs.drop (q + 1)) (q + 1)) := by
                    show _ = _
                    rw [HPL.out, HCK.out, HFD.out]; simp [HKD.out, HNO.out, e1]
                  clear hk1
                  go_wp2
                  go_roundw
                  case rel => exact ⟨grown_trans gW hg3, q + 1, by omega, by go_num, HN.out⟩
                  case measure => simp [intOf]; omega
    · obtain rfl : k = xs.length := by omega
      have HN : Hid (chk1 rs xs xs 0 = none) := by
        show _ = _
        rw [HPL.out, List.drop_of_length_le (Nat.le_refl _)]; rfl
      obtain ⟨wo, rfl⟩ : ∃ wo, wo = wr := ⟨_, rfl⟩
      go_wp2_with fail
      clear n4
      go_loopw [10] (fun i wx => w4.grownBy wx none ∧ ∃ k : Nat, k ≤ m ∧ i = .int .i64 k ∧ (rs.take k).any (fun r => r.must && !(xs.find? (isA r.name r.kind)).isSome) = false) (fun i _ => m - (intOf i).toNat)
      case atStart => exact ⟨hg, 0, Nat.zero_le _, rfl, rfl⟩
      case round =>
        obtain ⟨hgr, k, hk', rfl, hno⟩ := hrel
        have HNO := hide hno
        clear hno
        by_cases hlt2 : k < m
        · have hkr : k < rs.length := by have := HRL.out; omega
          obtain ⟨r0, r1, r2⟩ := ra_at (IR.out.more hgr) k hkr
          simp only [Nat.zero_add] at r0 r1 r2
          have HRK : Hid (rs[k]? = some rs[k]) := List.getElem?_eq_getElem hkr
          have RC : Hid (∀ wx, w4.grownBy wx none → wx.cell? ⟨g, k * 3, none⟩ = some (.string rs[k].name) ∧ wx.cell? ⟨g, k * 3 + 1, none⟩ = some (.int .i64 rs[k].kind) ∧ wx.cell? ⟨g, k * 3 + 2, none⟩ = some (.bool rs[k].must)) := fun wx hx => by
            have h := ra_at (IR.out.more hx) k hkr
            simpa only [Nat.zero_add] using h
          obtain ⟨R, hR⟩ : ∃ R, R = rs[k] := ⟨_, rfl⟩
          rw [← hR] at r0 r1 r2 HRK RC
          clear hR
          obtain ⟨n0, n1, n2, n3, n4⟩ := nod_cells (n := ⟨op, nam, ⟨ia, il, ic⟩, out, ⟨ao, xs.length, cap⟩⟩) (B4.out wr hgr)
          have FN := hide (fun (wx : World) (hx : wr.grownBy wx none) => rfind_any ⟨op, nam, ⟨ia, il, ic⟩, out, ⟨ao, xs.length, cap⟩⟩ xs R.name R.kind wx (HV.out wx (grown_trans hgr hx)))
          unfold nval at FN
          simp only at FN
          obtain ⟨bF, hbF⟩ : ∃ bF, bF = (xs.find? (isA R.name R.kind)).isSome := ⟨_, rfl⟩
          obtain ⟨A, hA⟩ : ∃ A, A = (xs.find? (isA R.name R.kind)).getD noAtr := ⟨_, rfl⟩
          rw [← hbF, ← hA] at FN
          unfold aval at FN
          have HBF := hide hbF
          clear hbF hA
          go_wp2_with fail
          go_cut [12] from 76 to 105 (fun b wx => b = .bool bF ∧ w4.grownBy wx none)
          case first =>
            have gd := grown_drew (grown_refl wr)
            have ga := grown_drew (grown_new wr (.cells #[.string ⟨#[]⟩, .int .i64 0, .int .i64 0, .int .i64 0, .string ⟨#[]⟩, .int .i64 0, .slice none 0 0, .slice none 0 0, .slice none 0 0] 82))
            have HZ : Hid (w.heap.size < wr.heap.size ∧ g < wr.heap.size) := ⟨(Array.getElem?_eq_some_iff.1 (B4.out wr hgr)).1, World.block_lt_of_cell? wr _ r0⟩
            have y1 : w.heap.size ≠ wr.heap.size := by have := HZ.out; omega
            have y1' := y1.symm
            have y2 : g ≠ wr.heap.size := by have := HZ.out; omega
            have y2' := y2.symm
            go_region_held3 (fun w' => w'.cell? ⟨w.heap.size, 0, none⟩ = some (.string op) ∧ w'.cell? ⟨w.heap.size, 1, none⟩ = some (.string nam) ∧ w'.cell? ⟨w.heap.size, 2, none⟩ = some (.slice ia il ic) ∧ w'.cell? ⟨w.heap.size, 3, none⟩ = some (.string out) ∧ w'.cell? ⟨w.heap.size, 4, none⟩ = some (.slice ao xs.length cap) ∧ w'.cell? ⟨g, k * 3, none⟩ = some (.string R.name) ∧ w'.cell? ⟨g, k * 3 + 1, none⟩ = some (.int .i64 R.kind)) (go_keep) (first | (go_at_call 90; refine (FN.out _ (by first | exact gd | exact ga)).mono ?_; rintro e v2 ⟨rfl, hg2⟩; have G2 : wr.grownBy v2 none := (by first | exact grown_trans gd hg2 | exact grown_trans ga hg2); obtain ⟨n0, n1, n2, n3, n4⟩ := nod_cells (n := ⟨op, nam, ⟨ia, il, ic⟩, out, ⟨ao, xs.length, cap⟩⟩) (B4.out v2 (grown_trans hgr G2)); obtain ⟨r0, r1, r2⟩ := RC.out v2 (grown_trans hgr G2); have y3 : w.heap.size ≠ v2.heap.size := (by have := G2.size; have := HZ.out; omega); have y3' := y3.symm; have y4 : g ≠ v2.heap.size := (by have := G2.size; have := HZ.out; omega); have y4' := y4.symm; try (have kz : v2.heap[wr.heap.size]? = some (.cells #[.string ⟨#[]⟩, .int .i64 0, .int .i64 0, .int .i64 0, .string ⟨#[]⟩, .int .i64 0, .slice none 0 0, .slice none 0 0, .slice none 0 0] 82 (0, 0)) := box_kept (show ((wr.alloc (.cells #[.string ⟨#[]⟩, .int .i64 0, .int .i64 0, .int .i64 0, .string ⟨#[]⟩, .int .i64 0, .slice none 0 0, .slice none 0 0, .slice none 0 0] 82)).drew).heap[wr.heap.size]? = _ from heap_alloc_new wr _) hg2; obtain ⟨f0, f1, f2, f3, f4, f5, f6, f7, f8⟩ := atr_frozen kz; obtain ⟨k0, k1, k2, k3, k4, k5, k6, k7, k8⟩ := atr_cells (a := noAtr) kz)))
            · go_wp2_with fail
              go_meet
              exact ⟨rfl, grown_trans (grown_trans hgr G2) (grown_new _ _)⟩
            · obtain ⟨-, gX⟩ := store9 (.string A.name) (.int .i64 A.kind) (.int .i64 A.f) (.int .i64 A.i) (.string A.s) (.int .i64 A.ty) (.slice A.dv.a A.dv.n A.dv.c) (.slice A.tv.a A.tv.n A.tv.c) (.slice A.iv.a A.iv.n A.iv.c) (grown_trans hgr G2) hgr.size kz
              have GXX := hide gX
              clear gX
              go_wp2_with fail
              go_meet
              exact ⟨rfl, GXX.out⟩
          case rest =>
            obtain ⟨rfl, hgx⟩ := hcut
            obtain ⟨r0, r1, r2⟩ := RC.out wc hgx
            by_cases hmu : (R.must && !bF) = true
            · have E : Hid (attrsE rs xs = 4) := by
                show _ = _
                unfold attrsE
                rw [HN.out]
                have hl : lacks rs xs = true := List.any_eq_true.2 ⟨R, List.mem_of_getElem? HRK.out, by rw [← HBF.out]; exact hmu⟩
                simp only [hl, if_true]
              obtain ⟨hm1, hm2⟩ : R.must = true ∧ bF = false := by simpa using hmu
              rw [hm1] at r2
              subst hm2
              clear hmu hm1
              go_wp2
              go_ret
              exact ⟨by rw [E.out]; rfl, GX.out _ hgx⟩
            · have hmu' : (R.must && !bF) = false := by simpa using hmu
              have HS : Hid ((rs.take (k + 1)).any (fun r => r.must && !(xs.find? (isA r.name r.kind)).isSome) = false) := any_step' HNO.out HRK.out (by rw [← HBF.out]; exact hmu')
              cases hmm : R.must with
              | false =>
                rw [hmm] at r2
                clear hmu hmu' hmm
                go_wp2
                go_roundw
                case rel => exact ⟨hgx, k + 1, by omega, by go_num, HS.out⟩
                case measure => simp [intOf]; omega
              | true =>
                obtain rfl : bF = true := by rw [hmm] at hmu'; simpa using hmu'
                rw [hmm] at r2
                clear hmu hmu' hmm
                go_wp2
                go_roundw
                case rel => exact ⟨hgx, k + 1, by omega, by go_num, HS.out⟩
                case measure => simp [intOf]; omega
        · obtain rfl : k = m := by omega
          have E : Hid (attrsE rs xs = 0) := by
            show _ = _
            unfold attrsE
            rw [HN.out]
            have hl : lacks rs xs = false := by
              have := HNO.out
              rwa [List.take_of_length_le (by have := HRL.out; omega)] at this
            simp [hl]
          go_wp2
          go_ret
          exact ⟨by rw [E.out]; rfl, GX.out _ hgr⟩
end Go.Proofs.YtmdpeckeliplkaaDoor

/- What follows in a node: the document's answer, by the walk. -/
namespace Go.Proofs.YtmdpeckeliplkaaDoor
open Go.RowKit

/-- How far the document's Then has come. -/
structure TInv (S : List UInt8) (wb wr : World) (v : Value) (acc : List (List UInt8)) (f i : Nat) : Prop where
  own : OwnsS wr wb.heap.size v (acc.map B)
  all : acc.all (fun p => isOne (B p)) = true
  le : f ≤ i
  far : i ≤ S.length + 1
  at_ : i ≤ S.length → pcs S = acc ++ pcs (S.drop f) ∧ ∀ k, f ≤ k → k < i → S[k]? ≠ some 44
  end_ : i = S.length + 1 → pcs S = acc
  grown : wb.grownBy wr none

theorem drop_none {S : List UInt8} {f i : Nat} (h : ∀ k, f ≤ k → k < i → S[k]? ≠ some 44) : ∀ k, k < i - f → (S.drop f)[k]? ≠ some 44 := by
  intro k hk
  rw [List.getElem?_drop]
  exact h (f + k) (by omega) (by omega)

/-- A piece that ends at a comma. -/
theorem piece_hit {S : List UInt8} {acc : List (List UInt8)} {f i : Nat} (hfi : f ≤ i) (h : pcs S = acc ++ pcs (S.drop f)) (hn : ∀ k, f ≤ k → k < i → S[k]? ≠ some 44) (hi : S[i]? = some 44) : pcs S = acc ++ (S.drop f).take (i - f) :: pcs (S.drop (i + 1)) := by
  rw [h, pcs_hit (l := S.drop f) (i := i - f) (by rw [List.getElem?_drop, show f + (i - f) = i by omega]; exact hi) (drop_none hn), List.drop_drop, show f + (i - f + 1) = i + 1 by omega]

/-- The last piece. -/
theorem piece_last {S : List UInt8} {acc : List (List UInt8)} {f : Nat} (h : pcs S = acc ++ pcs (S.drop f)) (hn : ∀ k, f ≤ k → k < S.length → S[k]? ≠ some 44) : pcs S = acc ++ S.drop f :: [] := by
  rw [h, pcs_miss (l := S.drop f)]
  intro k
  rw [List.getElem?_drop]
  by_cases hk : f + k < S.length
  · exact hn _ (by omega) hk
  · rw [List.getElem?_eq_none (by omega)]; simp

theorem B_extract (s : ByteArray) (f i : Nat) : s.extract f i = B ((s.data.toList.drop f).take (i - f)) := by
  unfold B
  rw [Lib.extract_eq]

set_option maxRecDepth 100000 in
set_option maxHeartbeats 6400000 in
theorem rthen_any (n : Nod) (xs : List Atr) (w : World) (hv : IsAttrs w n.av.v xs) (hsz : ∀ a ∈ xs, a.s.size ≤ 1048576) :
    Calls Tryd.prog 76 #[nval n] w fun e w' => ∃ v, e = .returned (.tuple #[v, .int .i64 (thenE (xs.find? (isA ⟨#[116, 104, 101, 110]⟩ 3)))]) ∧ OwnsS w' w.heap.size v (thenL (xs.find? (isA ⟨#[116, 104, 101, 110]⟩ 3))) ∧ w.grownBy w' none := by
  have FN := hide (fun (wx : World) (hg : w.grownBy wx none) => rfind_any n xs ⟨#[116, 104, 101, 110]⟩ 3 wx (hv.more hg))
  obtain ⟨op, nam, ⟨ia, il, ic⟩, out, ⟨ao, al, cap⟩⟩ := n
  unfold nval at FN ⊢
  unfold aval at FN
  simp only at FN ⊢
  clear hv
  obtain ⟨w0, hw0⟩ : ∃ w0, w0 = w.alloc (.cells #[.string op, .string nam, .slice ia il ic, .string out, .slice ao al cap] 52) := ⟨_, rfl⟩
  have g0 : w.grownBy w0 none := by rw [hw0]; exact grown_new _ _
  have hb0 := heap_alloc_new w (.cells #[.string op, .string nam, .slice ia il ic, .string out, .slice ao al cap] 52)
  obtain ⟨n0, n1, n2, n3, n4⟩ := nod_cells (n := ⟨op, nam, ⟨ia, il, ic⟩, out, ⟨ao, al, cap⟩⟩) hb0
  go_enter Tryd.func76, Tryd.ntmps76
  go_wp2_with fail
  rw [← hw0]
  clear hw0 n0 n1 n2 n3 n4 hb0
  refine (FN.out w0 g0).mono ?_
  rintro e w1 ⟨rfl, hg1⟩
  cases hf : xs.find? (isA ⟨#[116, 104, 101, 110]⟩ 3) with
  | none =>
    simp only [Option.getD_none, Option.isSome_none]
    have HF := hide hf
    clear hf FN
    have G := hide (grown_trans (grown_trans g0 hg1) (grown_new w1 (.cells #[.string noAtr.name, .int .i64 noAtr.kind, .int .i64 noAtr.f, .int .i64 noAtr.i, .string noAtr.s, .int .i64 noAtr.ty, .slice noAtr.dv.a noAtr.dv.n noAtr.dv.c, .slice noAtr.tv.a noAtr.tv.n noAtr.tv.c, .slice noAtr.iv.a noAtr.iv.n noAtr.iv.c] 82)))
    go_wp2
    go_ret2
    exact ⟨_, by rw [HF.out]; rfl, by rw [HF.out]; exact OwnsL.nil .., G.out⟩
  | some A =>
    simp only [Option.getD_some, Option.isSome_some]
    have HF := hide hf
    have hbig : A.s.size ≤ 1048576 := hsz A (List.mem_of_find?_eq_some hf)
    clear hf FN hsz
    obtain ⟨W2, hW2⟩ : ∃ W2, W2 = w1.alloc (.cells #[.string A.name, .int .i64 A.kind, .int .i64 A.f, .int .i64 A.i, .string A.s, .int .i64 A.ty, .slice A.dv.a A.dv.n A.dv.c, .slice A.tv.a A.tv.n A.tv.c, .slice A.iv.a A.iv.n A.iv.c] 82) := ⟨_, rfl⟩
    have G2 : w.grownBy W2 none := by rw [hW2]; exact grown_trans (grown_trans g0 hg1) (grown_new _ _)
    have bA := heap_alloc_new w1 (.cells #[.string A.name, .int .i64 A.kind, .int .i64 A.f, .int .i64 A.i, .string A.s, .int .i64 A.ty, .slice A.dv.a A.dv.n A.dv.c, .slice A.tv.a A.tv.n A.tv.c, .slice A.iv.a A.iv.n A.iv.c] 82)
    rw [← hW2] at bA
    have BA : Hid (∀ wx, W2.grownBy wx none → wx.heap[w1.heap.size]? = some (.cells #[.string A.name, .int .i64 A.kind, .int .i64 A.f, .int .i64 A.i, .string A.s, .int .i64 A.ty, .slice A.dv.a A.dv.n A.dv.c, .slice A.tv.a A.tv.n A.tv.c, .slice A.iv.a A.iv.n A.iv.c] 82 (0, 0))) := fun wx hx => box_kept bA hx
    clear bA
    obtain ⟨i0, hi, hz0, hz1, hz2⟩ := info_parts infoStr
    go_wp2_with fail
    rw [← hW2]
    clear hW2
    have SL : Hid (A.s.data.toList.length = A.s.size) := Array.length_toList
    have INV : Hid (TInv A.s.data.toList W2 W2 (.slice none 0 0) [] 0 0) := ⟨OwnsL.nil .., rfl, Nat.le_refl _, by omega, fun _ => ⟨by simp, fun k _ h => by omega⟩, fun h => by omega, grown_refl _⟩
    go_loopw [6, 7, 8] (fun v f i wr => ∃ (acc : List (List UInt8)) (fr k : Nat), f = .int .i64 fr ∧ i = .int .i64 k ∧ TInv A.s.data.toList W2 wr v acc fr k) (fun _ _ i _ => A.s.size + 1 - (intOf i).toNat)
    case atStart => exact ⟨[], 0, 0, rfl, rfl, INV.out⟩
    case round =>
      obtain ⟨acc, fr, k, rfl, rfl, hinv⟩ := hrel
      have TI := hide hinv
      have hfr := hinv.le
      have hfar : k ≤ A.s.size + 1 := by have := hinv.far; have := SL.out; omega
      obtain ⟨va, vc, ev⟩ := OwnsL.form hinv.own
      rw [List.length_map] at ev
      subst ev
      obtain ⟨-, -, -, -, cS, -⟩ := atr_cells (BA.out wr hinv.grown)
      clear hinv
      have hacl : acc.length ≤ A.s.size + 1 := by
        have h1 := pcs_len A.s.data.toList
        have h2 := SL.out
        by_cases h3 : k ≤ A.s.data.toList.length
        · rw [(TI.out.at_ h3).1, List.length_append] at h1
          omega
        · rw [TI.out.end_ (by have := TI.out.far; omega)] at h1
          omega
      by_cases hlt : k < A.s.size
      · have hSk : A.s.data.toList[k]? = some A.s[k] := by
          rw [List.getElem?_eq_getElem (by have := SL.out; omega)]
          rfl
        have HSK := hide hSk
        clear hSk
        by_cases hc : (((A.s[k].toNat : Nat) : Int) != 44) = true
        · have HNE : Hid (A.s[k] ≠ 44) := fun e => by rw [e] at hc; exact absurd hc (by decide)
          have ST : Hid (TInv A.s.data.toList W2 wr (.slice va acc.length vc) acc fr (k + 1)) := ⟨TI.out.own, TI.out.all, by omega, by have := SL.out; omega, fun _ => ⟨(TI.out.at_ (by have := SL.out; omega)).1, fun q h1 h2 => by
            by_cases hq : q = k
            · rw [hq, HSK.out]
              exact fun e => HNE.out (Option.some.inj e)
            · exact (TI.out.at_ (by have := SL.out; omega)).2 q h1 (by omega)⟩, fun h => by have := SL.out; omega, TI.out.grown⟩
          go_wp2
          go_roundw
          case rel => exact ⟨acc, fr, k + 1, rfl, by go_num, ST.out⟩
          case measure => simp [intOf]; omega
        · have hc' : (((A.s[k].toNat : Nat) : Int) != 44) = false := by simpa using hc
          have HEQ : Hid (A.s[k] = 44) := by
            have h1 : ((A.s[k].toNat : Nat) : Int) = 44 := by simpa using hc'
            exact UInt8.toNat_inj.1 (by have : A.s[k].toNat = 44 := by omega
                                        exact this)
          have HPC : Hid (pcs A.s.data.toList = acc ++ (A.s.data.toList.drop fr).take (k - fr) :: pcs (A.s.data.toList.drop (k + 1))) := piece_hit hfr (TI.out.at_ (by have := SL.out; omega)).1 (TI.out.at_ (by have := SL.out; omega)).2 (by rw [HSK.out, HEQ.out])
          clear hc
          go_wp2_with fail
          rw [B_extract]
          refine (rone_any (B ((A.s.data.toList.drop fr).take (k - fr))) wr).mono ?_
          rintro e w6 ⟨rfl, hg6⟩
          have g6 := grown_trans TI.out.grown hg6
          cases ht : isOne (B ((A.s.data.toList.drop fr).take (k - fr))) with
          | false =>
            obtain ⟨t1, t2⟩ := then_not HPC.out ht
            have HT1 := hide t1
            have HT2 := hide t2
            clear t1 t2 ht
            go_wp2
            go_ret2
            exact ⟨_, by rw [HF.out, HT1.out]; rfl, by rw [HF.out, HT2.out]; exact OwnsL.nil .., grown_trans G2 g6⟩
          | true =>
            have HT := hide ht
            clear ht
            have HO6 := hide (TI.out.own.more hg6)
            have hsz6 := g6.size
            go_wp2_with (at_builtin; refine wpList_append_own _ rfl (.tmp 44) (.tmp 46) 49 rfl W2.heap.size 9 i0 (.string ⟨#[]⟩) 1 16 Tryd.underlying49 hi hz0 hz1 hz2 rfl (by decide) _ _ _ rfl (by exact World.ownsRow.alloc HO6.out _) ⟨w6.heap.size, 0, none⟩ 1 1 [.string (B ((A.s.data.toList.drop fr).take (k - fr)))] rfl rfl (cell_one_new _ _ _) (by simp [Value.oneCell']) (by simp only [maxLen, List.length_map]; omega) (by simp only [List.length_map]; omega) (by simp; omega) ?_; intro v' w8 hown' hgrow _; obtain ⟨na, nc, rfl⟩ := own_form hown'; have HO8 := hide (owns_snoc rfl hown'); have g8 : Hid (W2.grownBy w8 none) := grown_trans_row (grown_trans g6 (grown_new w6 (.cells #[.string (B ((A.s.data.toList.drop fr).take (k - fr)))] 9))) hgrow (fun r e => by have := World.ownsRow.lt HO6.out r e; omega))
            rw [List.length_map] at HO8
            have ST : Hid (TInv A.s.data.toList W2 w8 (.slice na (acc.length + 1) nc) (acc ++ [((A.s.data.toList.drop fr).take (k - fr))]) (k + 1) (k + 1)) := ⟨HO8.out, by simp [TI.out.all, HT.out], Nat.le_refl _, by have := SL.out; omega, fun _ => ⟨by rw [HPC.out]; simp, fun q h1 h2 => by omega⟩, fun h => by have := SL.out; omega, g8.out⟩
            go_roundw
            case rel => exact ⟨acc ++ [((A.s.data.toList.drop fr).take (k - fr))], k + 1, k + 1, by go_num, by go_num, ST.out⟩
            case measure => simp [intOf]; omega
      · by_cases hend : k = A.s.size
        · have HPC : Hid (pcs A.s.data.toList = acc ++ A.s.data.toList.drop fr :: []) := piece_last (TI.out.at_ (by have := SL.out; omega)).1 (fun q h1 h2 => (TI.out.at_ (by have := SL.out; omega)).2 q h1 (by have := SL.out; omega))
          go_wp2_with fail
          rw [B_extract1]
          refine (rone_any (B (A.s.data.toList.drop fr)) wr).mono ?_
          rintro e w6 ⟨rfl, hg6⟩
          have g6 := grown_trans TI.out.grown hg6
          cases ht : isOne (B (A.s.data.toList.drop fr)) with
          | false =>
            obtain ⟨t1, t2⟩ := then_not HPC.out ht
            have HT1 := hide t1
            have HT2 := hide t2
            clear t1 t2 ht
            go_wp2
            go_ret2
            exact ⟨_, by rw [HF.out, HT1.out]; rfl, by rw [HF.out, HT2.out]; exact OwnsL.nil .., grown_trans G2 g6⟩
          | true =>
            have HT := hide ht
            clear ht
            have HO6 := hide (TI.out.own.more hg6)
            have hsz6 := g6.size
            go_wp2_with (at_builtin; refine wpList_append_own _ rfl (.tmp 44) (.tmp 46) 49 rfl W2.heap.size 9 i0 (.string ⟨#[]⟩) 1 16 Tryd.underlying49 hi hz0 hz1 hz2 rfl (by decide) _ _ _ rfl (by exact World.ownsRow.alloc HO6.out _) ⟨w6.heap.size, 0, none⟩ 1 1 [.string (B (A.s.data.toList.drop fr))] rfl rfl (cell_one_new _ _ _) (by simp [Value.oneCell']) (by simp only [maxLen, List.length_map]; omega) (by simp only [List.length_map]; omega) (by simp; omega) ?_; intro v' w8 hown' hgrow _; obtain ⟨na, nc, rfl⟩ := own_form hown'; have HO8 := hide (owns_snoc rfl hown'); have g8 : Hid (W2.grownBy w8 none) := grown_trans_row (grown_trans g6 (grown_new w6 (.cells #[.string (B (A.s.data.toList.drop fr))] 9))) hgrow (fun r e => by have := World.ownsRow.lt HO6.out r e; omega))
            rw [List.length_map] at HO8
            have ST : Hid (TInv A.s.data.toList W2 w8 (.slice na (acc.length + 1) nc) (acc ++ [(A.s.data.toList.drop fr)]) (k + 1) (k + 1)) := ⟨HO8.out, by simp [TI.out.all, HT.out], Nat.le_refl _, by have := SL.out; omega, fun h => by have := SL.out; omega, fun _ => by rw [HPC.out], g8.out⟩
            go_roundw
            case rel => exact ⟨acc ++ [(A.s.data.toList.drop fr)], k + 1, k + 1, by go_num, by go_num, ST.out⟩
            case measure => simp [intOf]; omega
        · have hk1 : k = A.s.size + 1 := by omega
          obtain ⟨t1, t2⟩ := then_all (a := A) (TI.out.end_ (by have := SL.out; omega)) TI.out.all
          have HT1 := hide t1
          have HT2 := hide t2
          clear t1 t2
          go_wp2
          go_ret2
          exact ⟨_, by rw [HF.out, HT1.out]; rfl, by rw [HF.out, HT2.out]; exact TI.out.own.base_le G2.size, grown_trans G2 TI.out.grown⟩
end Go.Proofs.YtmdpeckeliplkaaDoor

/- Whether a node may be: the document's answer, by the walk. -/
namespace Go.Proofs.YtmdpeckeliplkaaDoor
open Go.RowKit

set_option maxRecDepth 100000 in
theorem rules_apart0 : ∀ r ∈ rules, r.2.2.2.Pairwise (fun a b => (a.name.data.toList == b.name.data.toList) = false) := by decide

theorem rules_apart {op : ByteArray} {lo hi : Int} {rs : List Ra} (h : ruleF op = some (lo, hi, rs)) : rs.Pairwise Apart ∧ rs.length ≤ 20 := by
  unfold ruleF at h
  cases hf : rules.find? (fun r => r.1 == op.toList) with
  | none => rw [hf] at h; cases h
  | some r =>
    rw [hf] at h
    have h1 := rules_apart0 r (List.mem_of_find?_eq_some hf)
    have h2 := rules_few r (List.mem_of_find?_eq_some hf)
    simp only [Option.map_some, Option.some.injEq] at h
    rw [h] at h1 h2
    refine ⟨h1.imp fun {a b} e => ?_, h2⟩
    unfold Apart
    rw [bytes_toList, bytes_toList]
    exact e

theorem eqS_nil (ins : List ByteArray) : ins.any (eqS ⟨#[]⟩) = ins.any (isS ⟨#[]⟩) := by
  congr 1
  funext y
  unfold eqS isS
  rw [Bool.eq_iff_iff, beq_iff_eq, beq_iff_eq]
  exact eq_comm

set_option maxRecDepth 100000 in
set_option maxHeartbeats 3200000 in
theorem rvalue_any (n : Nod) (xs : List Atr) (w : World) (hv : IsAttrs w n.av.v xs) :
    Calls Tryd.prog 77 #[nval n] w fun e w' => e = .returned (.agg #[.int .i64 ((xs.find? (isA ⟨#[118, 97, 108, 117, 101]⟩ 4)).getD noAtr).ty, ((xs.find? (isA ⟨#[118, 97, 108, 117, 101]⟩ 4)).getD noAtr).dv.v, ((xs.find? (isA ⟨#[118, 97, 108, 117, 101]⟩ 4)).getD noAtr).tv.v]) ∧ w.grownBy w' none := by
  have FN := hide (fun (wx : World) (hg : w.grownBy wx none) => rfind_any n xs ⟨#[118, 97, 108, 117, 101]⟩ 4 wx (hv.more hg))
  obtain ⟨A, hA⟩ : ∃ A, A = (xs.find? (isA ⟨#[118, 97, 108, 117, 101]⟩ 4)).getD noAtr := ⟨_, rfl⟩
  obtain ⟨bF, hbF⟩ : ∃ bF, bF = (xs.find? (isA ⟨#[118, 97, 108, 117, 101]⟩ 4)).isSome := ⟨_, rfl⟩
  rw [← hA] at FN ⊢
  rw [← hbF] at FN
  clear hA hbF
  obtain ⟨op, nam, ⟨ia, il, ic⟩, out, ⟨ao, al, cap⟩⟩ := n
  unfold nval at FN ⊢
  unfold aval at FN
  simp only [Sl.v] at FN ⊢
  clear hv
  obtain ⟨w0, hw0⟩ : ∃ w0, w0 = (w.alloc (.cells #[.string op, .string nam, .slice ia il ic, .string out, .slice ao al cap] 52)).alloc (.cells #[.int .i64 0, .slice none 0 0, .slice none 0 0] 57) := ⟨_, rfl⟩
  have g0 : w.grownBy w0 none := by rw [hw0]; exact grown_trans (grown_new _ _) (grown_new _ _)
  have hbx := two_boxes w (.cells #[.string op, .string nam, .slice ia il ic, .string out, .slice ao al cap] 52) (.cells #[.int .i64 0, .slice none 0 0, .slice none 0 0] 57)
  obtain ⟨n0, n1, n2, n3, n4⟩ := nod_cells (n := ⟨op, nam, ⟨ia, il, ic⟩, out, ⟨ao, al, cap⟩⟩) hbx.1
  have hb2 := hbx.2
  rw [← hw0] at hb2
  have B2 := hide hb2
  clear hbx hb2
  go_enter Tryd.func77, Tryd.ntmps77
  go_wp2_with fail
  rw [← hw0]
  clear hw0 n0 n1 n2 n3 n4
  refine (FN.out w0 g0).mono ?_
  rintro e w1 ⟨rfl, hg1⟩
  have gA := grown_new w1 (.cells #[.string A.name, .int .i64 A.kind, .int .i64 A.f, .int .i64 A.i, .string A.s, .int .i64 A.ty, .slice A.dv.a A.dv.n A.dv.c, .slice A.tv.a A.tv.n A.tv.c, .slice A.iv.a A.iv.n A.iv.c] 82)
  have bA := heap_alloc_new w1 (.cells #[.string A.name, .int .i64 A.kind, .int .i64 A.f, .int .i64 A.i, .string A.s, .int .i64 A.ty, .slice A.dv.a A.dv.n A.dv.c, .slice A.tv.a A.tv.n A.tv.c, .slice A.iv.a A.iv.n A.iv.c] 82)
  obtain ⟨c0, c1, c2, c3, c4, c5, c6, c7, c8⟩ := atr_cells (a := A) bA
  have B3 := hide (box_kept (box_kept B2.out hg1) gA)
  obtain ⟨f0, f1, f2⟩ := ten_frozen B3.out
  obtain ⟨k0, k1, k2⟩ := ten_cells B3.out
  obtain ⟨hX, gX⟩ := store3t (.int .i64 A.ty) (.slice A.dv.a A.dv.n A.dv.c) (.slice A.tv.a A.tv.n A.tv.c) B3.out
  have HX := hide hX
  have GX : Hid (w.grownBy _ none) := grown_trans_row (grown_trans (grown_trans g0 hg1) gA) gX (fun r e => by cases e; omega)
  clear hX gX bA gA
  go_wp2
  refine bodyPost_ret (ret_ten rfl _ _ (w.heap.size + 1) rfl HX.out) rfl ?_
  exact ⟨rfl, GX.out⟩

set_option maxRecDepth 100000 in
set_option maxHeartbeats 6400000 in
theorem rnode_any (n : Nod) (ins : List ByteArray) (xs : List Atr) (cs : List Cont) (w : World) (hn : NodeIn w n ins xs cs) :
    Calls Tryd.prog 63 #[nval n] w fun e w' => e = .returned (.int .i64 (checkF (ruleF n.op) n.op ins n.out xs cs)) ∧ w.grownBy w' none := by
  have HN := hide hn
  have TH := hide (fun (wx : World) (hx : w.grownBy wx none) => rthen_any n xs wx (hn.av.more hx) hn.short)
  have AT := hide (fun (fv : Sl) (fs rs : List Ra) (hrs : rs = fs ++ [thenRa]) (base : Nat) (wx : World) (hvk : ∀ w', wx.grownBy w' fv.v.ownBlock → IsAttrs w' n.av.v xs) (hf : OwnsF wx base fv.v fs) (hb : base ≤ wx.heap.size) (hfl : fs.length ≤ 20) (hd : rs.Pairwise Apart) => rattrs_any n xs fv fs rs hrs base wx hvk hf hb hfl hd)
  have AM := hide (fun (wx : World) (hx : w.grownBy wx none) => among_any ⟨#[]⟩ n.iv.v ins wx (hn.ins.more hx))
  have VA := hide (fun (wx : World) (hx : w.grownBy wx none) => rvalue_any n xs wx (hn.av.more hx))
  obtain ⟨A, bA, dA, tA, hA1, hA2, hA3, hA4, hA5⟩ := value_of hn.has
  rw [hA1] at VA
  rw [eqS_nil] at AM
  have HA3 := hide hA3
  have HA4 := hide hA4
  have HA5 := hide hA5
  clear hA1 hA2 hA3 hA4 hA5
  obtain ⟨op, nam, ⟨ia, il, ic⟩, out, ⟨ao, al, cap⟩⟩ := n
  obtain ⟨ia', ic', hiv, i1, i2, i3⟩ := hn.ins.form
  obtain ⟨rfl, rfl, rfl⟩ : ia = ia' ∧ il = ins.length ∧ ic = ic' := by simpa [Sl.v] using hiv
  unfold nval at TH AT VA ⊢
  simp only [Sl.v] at TH AM VA ⊢
  clear hiv hn
  obtain ⟨w0, hw0⟩ : ∃ w0, w0 = w.alloc (.cells #[.string op, .string nam, .slice ia ins.length ic, .string out, .slice ao al cap] 52) := ⟨_, rfl⟩
  have g0 : w.grownBy w0 none := by rw [hw0]; exact grown_new _ _
  have hb0 := heap_alloc_new w (.cells #[.string op, .string nam, .slice ia ins.length ic, .string out, .slice ao al cap] 52)
  obtain ⟨n0, -⟩ := nod_cells (n := ⟨op, nam, ⟨ia, ins.length, ic⟩, out, ⟨ao, al, cap⟩⟩) hb0
  rw [← hw0] at hb0
  have HZ0 : Hid (w0.heap.size = w.heap.size + 1) := by show _ = _; rw [hw0]; simp
  have BX : Hid (∀ wx, w0.grownBy wx none → wx.heap[w.heap.size]? = some (.cells #[.string op, .string nam, .slice ia ins.length ic, .string out, .slice ao al cap] 52 (0, 0))) := fun wx hg => box_kept hb0 hg
  clear hb0
  go_enter Tryd.func63, Tryd.ntmps63
  go_wp2_with fail
  rw [← hw0]
  clear hw0 n0
  refine (rof_any op w0).mono ?_
  rintro e w1 ⟨hru, hg1⟩
  have g1 := grown_trans g0 hg1
  obtain ⟨r, hr0⟩ : ∃ r, r = ruleF op := ⟨_, rfl⟩
  have HR0 := hide hr0
  rw [← hr0] at hru
  clear hr0
  rcases hr : r with _ | ⟨lo, hi, rs⟩
  · rw [hr] at hru
    have hru : e = .returned (.tuple #[.int .i64 0, .int .i64 0, .slice none 0 0, .bool false]) := hru
    subst hru
    have E : Hid (checkE r ins out xs = 5) := by show _ = _; rw [hr]; rfl
    have EF : Hid (checkF (ruleF op) op ins out xs cs = 5) := by show _ = _; rw [← HR0.out]; exact checkF_no E.out (by decide)
    clear hr
    go_wp2
    go_ret
    exact ⟨by rw [EF.out]; rfl, g1⟩
  · rw [hr] at hru
    obtain ⟨fv, fs, rfl, hrs, hof⟩ := hru
    obtain ⟨hpa, hfew⟩ := rules_apart (HR0.out.symm.trans hr)
    have HC0 : Hid (checkE r ins out xs = if (ins.length : Int) < lo then 4 else if hi < (ins.length : Int) then 4 else if (out.toList == []) || ins.any (isS ⟨#[]⟩) then 5 else if attrsE rs xs = 0 then thenE (xs.find? (isA ⟨#[116, 104, 101, 110]⟩ 3)) else attrsE rs xs) := by show _ = _; rw [hr]; rfl
    have NO : Hid (∀ {e : Int}, checkE r ins out xs = e → e ≠ 0 → checkF (ruleF op) op ins out xs cs = e) := fun h he => by rw [← HR0.out]; exact checkF_no h he
    have HRS := hide hrs
    have HOF := hide hof
    have HPA := hide hpa
    have hfl : fs.length ≤ 20 := by rw [hrs, List.length_append] at hfew; omega
    have FLT : Hid (∀ b, fv.v.ownBlock = some b → w0.heap.size ≤ b ∧ b < w1.heap.size) := fun b e => World.ownsRow.lt hof b e
    clear hr hrs hof hpa hfew
    obtain ⟨n0, n1, n2, n3, n4⟩ := nod_cells (n := ⟨op, nam, ⟨ia, ins.length, ic⟩, out, ⟨ao, al, cap⟩⟩) (BX.out w1 hg1)
    by_cases h4 : (ins.length : Int) < lo
    · have E : Hid (checkE r ins out xs = 4) := by show _ = _; rw [HC0.out, if_pos h4]
      go_wp2
      go_ret
      exact ⟨by rw [NO.out E.out (by decide)]; rfl, g1⟩
    · by_cases h5 : hi < (ins.length : Int)
      · have E : Hid (checkE r ins out xs = 4) := by show _ = _; rw [HC0.out, if_neg h4, if_pos h5]
        go_wp2
        go_ret
        exact ⟨by rw [NO.out E.out (by decide)]; rfl, g1⟩
      · have HC1 : Hid (checkE r ins out xs = if (out.toList == []) || ins.any (isS ⟨#[]⟩) then 5 else if attrsE rs xs = 0 then thenE (xs.find? (isA ⟨#[116, 104, 101, 110]⟩ 3)) else attrsE rs xs) := by show _ = _; rw [HC0.out, if_neg h4, if_neg h5]
        by_cases ho6 : (out.toList == []) = true
        · have E : Hid (checkE r ins out xs = 5) := by show _ = _; rw [HC1.out, ho6]; rfl
          go_wp2
          go_ret
          exact ⟨by rw [NO.out E.out (by decide)]; rfl, g1⟩
        · have ho7 : (out.toList == []) = false := by simpa using ho6
          have HO7 := hide ho7
          clear ho6
          go_wp2_with fail
          refine (AM.out w1 g1).mono ?_
          rintro e w3 ⟨rfl, hg3⟩
          have g3 := grown_trans g1 hg3
          have g03 := grown_trans hg1 hg3
          clear n0 n1 n2 n3 n4
          obtain ⟨n0, n1, n2, n3, n4⟩ := nod_cells (n := ⟨op, nam, ⟨ia, ins.length, ic⟩, out, ⟨ao, al, cap⟩⟩) (BX.out w3 g03)
          cases hany : ins.any (isS ⟨#[]⟩) with
          | true =>
            have E : Hid (checkE r ins out xs = 5) := by show _ = _; rw [HC1.out, hany, Bool.or_true]; rfl
            clear hany
            go_wp2
            go_ret
            exact ⟨by rw [NO.out E.out (by decide)]; rfl, g3⟩
          | false =>
            have HC2 : Hid (checkE r ins out xs = if attrsE rs xs = 0 then thenE (xs.find? (isA ⟨#[116, 104, 101, 110]⟩ 3)) else attrsE rs xs) := by show _ = _; rw [HC1.out, hany, HO7.out]; rfl
            clear hany
            have CA := hide (AT.out fv fs rs HRS.out w0.heap.size w3 (fun w' hx => HN.out.av.kept fun b hb _ => (hx.block b (by have := g3.size; omega) (fun e => by have := FLT.out b e.symm; have := HZ0.out; omega)).trans (g3.block b hb (by simp))) (HOF.out.more hg3) g03.size hfl HPA.out)
            go_wp2_with fail
            refine CA.out.mono ?_
            rintro e w4 ⟨rfl, hg4⟩
            have g4 : w.grownBy w4 none := grown_trans_row g3 hg4 (fun r e => by have := FLT.out r e; have := HZ0.out; omega)
            have BN4 := hide ((hg4.block w.heap.size (by have := HZ0.out; have := g03.size; omega) (fun e => by have := FLT.out _ e.symm; have := HZ0.out; omega)).trans (BX.out w3 g03))
            clear n0 n1 n2 n3 n4
            obtain ⟨n0, n1, n2, n3, n4⟩ := nod_cells (n := ⟨op, nam, ⟨ia, ins.length, ic⟩, out, ⟨ao, al, cap⟩⟩) BN4.out
            obtain ⟨X, hX⟩ : ∃ X, X = attrsE rs xs := ⟨_, rfl⟩
            rw [← hX] at HC2
            rw [← hX]
            clear hX
            by_cases h0 : X = 0
            · subst h0
              have HC3 : Hid (checkE r ins out xs = thenE (xs.find? (isA ⟨#[116, 104, 101, 110]⟩ 3))) := by show _ = _; rw [HC2.out]; rfl
              go_wp2_with fail
              refine (TH.out w4 g4).mono ?_
              rintro e w5 ⟨v, rfl, ho5, hg5⟩
              have g5 := grown_trans g4 hg5
              obtain ⟨va, vc, rfl⟩ := OwnsL.form ho5
              clear n0 n1 n2 n3 n4 ho5
              obtain ⟨n0, n1, n2, n3, n4⟩ := nod_cells (n := ⟨op, nam, ⟨ia, ins.length, ic⟩, out, ⟨ao, al, cap⟩⟩) (box_kept BN4.out hg5)
              obtain ⟨Y, hY⟩ : ∃ Y, Y = thenE (xs.find? (isA ⟨#[116, 104, 101, 110]⟩ 3)) := ⟨_, rfl⟩
              rw [← hY] at HC3
              rw [← hY]
              clear hY
              by_cases h1 : Y = 0
              · subst h1
                by_cases hop : (op.toList == [67, 111, 110, 115, 116, 97, 110, 116]) = true
                · have EF : Hid (checkF (ruleF op) op ins out xs cs = pbE A.ty dA tA) := by
                    show _ = _
                    rw [← HR0.out]
                    unfold checkF
                    rw [if_neg (by rw [HC3.out]; simp), if_pos hop, HA5.out]
                  go_wp2_with fail
                  refine (VA.out w5 g5).mono ?_
                  rintro e w6 ⟨rfl, hg6⟩
                  have PB := hide (rpbcheck_any A.ty A.dv.v A.tv.v dA tA w6 (HA3.out.more (grown_trans g5 hg6)) (HA4.out.more (grown_trans g5 hg6)))
                  go_wp2_with fail
                  refine PB.out.mono ?_
                  rintro e w7 ⟨rfl, hg7⟩
                  go_wp2
                  go_ret
                  exact ⟨by rw [EF.out]; rfl, grown_trans (grown_trans g5 hg6) hg7⟩
                · have hop' : (op.toList == [67, 111, 110, 115, 116, 97, 110, 116]) = false := by simpa using hop
                  have EF : Hid (checkF (ruleF op) op ins out xs cs = 0) := by
                    show _ = _
                    rw [← HR0.out]
                    unfold checkF
                    rw [if_neg (by rw [HC3.out]; simp), if_neg hop]
                  clear hop
                  go_wp2
                  go_ret
                  exact ⟨by rw [EF.out]; rfl, g5⟩
              · have h2 : (Y == 0) = false := by simpa using h1
                have HY0 := hide h1
                clear h1
                go_wp2
                go_ret
                exact ⟨by rw [NO.out HC3.out HY0.out]; rfl, g5⟩
            · have E : Hid (checkE r ins out xs = X) := by show _ = _; rw [HC2.out, if_neg h0]
              have h2 : (X == 0) = false := by simpa using h0
              have h3' : (X != 0) = true := by simp [bne, h2]
              have HX0 := hide h0
              clear h0
              go_wp2
              go_ret
              exact ⟨by rw [NO.out E.out HX0.out]; rfl, g4⟩
end Go.Proofs.YtmdpeckeliplkaaDoor
