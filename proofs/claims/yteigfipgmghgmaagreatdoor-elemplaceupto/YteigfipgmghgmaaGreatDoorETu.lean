/- elem.Do of any node and two tensors: what it answers; in either order. -/
import Derived.Test.YteigfipgmghgmaaGreatDoorEElem
import Derived.Test.YteigfipgmghgmaaGreatDoorIBat
import Derived.Test.YteigfipgmghgmaaGreatDoorNuPlainN
namespace Go.Proofs.YteigfipgmghgmaaGreatDoor
open Go.RowKit

def rTy : R (Int × List Int × List Int) → Int
  | .ok (t, _, _) => t
  | .error _ => 0
def rL : R (Int × List Int × List Int) → List Int
  | .ok (_, l, _) => l
  | .error _ => []
def rZ : R (Int × List Int × List Int) → List Int
  | .ok (_, _, z) => z
  | .error _ => []
def rC : R (Int × List Int × List Int) → Int
  | .ok _ => 0
  | .error c => c

/-- However Do ends: a tensor, and a code. -/
theorem do_any {w w' : World} {r : R (Int × List Int × List Int)} {e : Ending} (h : DoQ w r e w') : w.grownBy w' none ∧ ∃ d t : Sl, e = .returned (.tuple #[.agg #[.int .i64 (rTy r), .slice d.a d.n d.c, .slice t.a t.n t.c], .int .i64 (rC r)]) ∧ IsInts w' d.v (rL r) ∧ IsInts w' t.v (rZ r) := by
  obtain ⟨hg, h⟩ := h
  refine ⟨hg, ?_⟩
  cases r with
  | error c => exact ⟨⟨none, 0, 0⟩, ⟨none, 0, 0⟩, h, (owns_nil w' 0).ints, (owns_nil w' 0).ints⟩
  | ok rr =>
    obtain ⟨ty, l, zs⟩ := rr
    obtain ⟨⟨ty', d, t⟩, e1, e2, od, ot⟩ := h
    simp only at e1
    subst e1
    exact ⟨d, t, e2, od.ints, ot.ints⟩

/-- An element of two, where both have 64 bits. -/
def G2 (k : Nat) (t : Int) (xs : List Int) : Int × Int := if (-9223372036854775808 ≤ xs.getD 0 0 ∧ xs.getD 0 0 ≤ 9223372036854775807) ∧ (-9223372036854775808 ≤ xs.getD 1 0 ∧ xs.getD 1 0 ≤ 9223372036854775807) then Nu.bin k t (xs.getD 0 0) (xs.getD 1 0) else (0, 0)

theorem w64_rng (n : Int) : -9223372036854775808 ≤ wrap64 n ∧ wrap64 n ≤ 9223372036854775807 := by
  unfold wrap64
  omega

theorem b2i_rng (b : Bool) : -9223372036854775808 ≤ Nu.b2i b ∧ Nu.b2i b ≤ 9223372036854775807 := by cases b <;> decide

theorem tob_rngE (r : Nat) (h : r < 4294967296) : -9223372036854775808 ≤ Nu.tob r ∧ Nu.tob r ≤ 9223372036854775807 := by
  unfold Nu.tob
  split
  · omega
  · omega

theorem tobO_rngE (op : BinOp) (x y : Nat) : -9223372036854775808 ≤ Nu.tobO (floatBits op .f32 x y) ∧ Nu.tobO (floatBits op .f32 x y) ≤ 9223372036854775807 := by
  cases h : floatBits op .f32 x y with
  | none => simp [Nu.tobO]
  | some r =>
    have h1 := floatBits_wf h
    exact tob_rngE r (by simpa [Lit.wf] using h1)

theorem fb_ltE (x : Int) : Nu.fb x < 4294967296 := by
  unfold Nu.fb
  omega

theorem maxF_rng (x y : Nat) (hx : x < 4294967296) (hy : y < 4294967296) : -9223372036854775808 ≤ Nu.maxF x y ∧ Nu.maxF x y ≤ 9223372036854775807 := by
  unfold Nu.maxF
  split
  · decide
  · exact tob_rngE _ hy
  · exact tob_rngE _ hx
  · split
    · exact tob_rngE _ hy
    · exact tob_rngE _ hx

theorem minF_rng (x y : Nat) (hx : x < 4294967296) (hy : y < 4294967296) : -9223372036854775808 ≤ Nu.minF x y ∧ Nu.minF x y ≤ 9223372036854775807 := by
  unfold Nu.minF
  split
  · decide
  · exact tob_rngE _ hx
  · exact tob_rngE _ hy
  · split
    · exact tob_rngE _ hx
    · exact tob_rngE _ hy

theorem wrapT_rng (t n : Int) (h : -9223372036854775808 ≤ n ∧ n ≤ 9223372036854775807) : -9223372036854775808 ≤ Nu.wrapT t n ∧ Nu.wrapT t n ≤ 9223372036854775807 := by
  unfold Nu.wrapT
  split
  · exact w64_rng _
  · exact h

theorem binFl_rng (k x y : Nat) (hx : x < 4294967296) (hy : y < 4294967296) : -9223372036854775808 ≤ (Nu.binFl k x y).1 ∧ (Nu.binFl k x y).1 ≤ 9223372036854775807 := by
  unfold Nu.binFl
  split
  · exact tobO_rngE _ _ _
  · exact tobO_rngE _ _ _
  · exact tobO_rngE _ _ _
  · exact tobO_rngE _ _ _
  · exact maxF_rng _ _ hx hy
  · exact minF_rng _ _ hx hy
  · exact b2i_rng _
  · exact b2i_rng _
  · exact b2i_rng _
  · decide

theorem binIn_rng (k : Nat) (t x y : Int) (hx : -9223372036854775808 ≤ x ∧ x ≤ 9223372036854775807) (hy : -9223372036854775808 ≤ y ∧ y ≤ 9223372036854775807) : -9223372036854775808 ≤ (Nu.binIn k t x y).1 ∧ (Nu.binIn k t x y).1 ≤ 9223372036854775807 := by
  unfold Nu.binIn
  split
  · exact wrapT_rng _ _ (w64_rng _)
  · exact wrapT_rng _ _ (w64_rng _)
  · exact wrapT_rng _ _ (w64_rng _)
  · split
    · decide
    · exact wrapT_rng _ _ (w64_rng _)
  · refine wrapT_rng _ _ ?_
    unfold Nu.maxI
    split
    · exact hy
    · exact hx
  · refine wrapT_rng _ _ ?_
    unfold Nu.minI
    split
    · exact hy
    · exact hx
  · exact b2i_rng _
  · exact b2i_rng _
  · exact b2i_rng _
  · decide

theorem binBo_rng (k : Nat) (x y : Int) (hx : x = 0 ∨ x = 1) (hy : y = 0 ∨ y = 1) : -9223372036854775808 ≤ (Nu.binBo k x y).1 ∧ (Nu.binBo k x y).1 ≤ 9223372036854775807 := by
  unfold Nu.binBo
  split
  · rcases hx with rfl | rfl <;> rcases hy with rfl | rfl <;> decide
  · rcases hx with rfl | rfl <;> rcases hy with rfl | rfl <;> decide
  · rcases hx with rfl | rfl <;> rcases hy with rfl | rfl <;> decide
  · exact b2i_rng _
  · decide

theorem chk9E {x : Int} (h : Nu.chk 9 x = true) : x = 0 ∨ x = 1 := by simpa [Nu.chk] using h

theorem G2_rng (k : Nat) (t : Int) (xs : List Int) : -9223372036854775808 ≤ (G2 k t xs).1 ∧ (G2 k t xs).1 ≤ 9223372036854775807 := by
  unfold G2
  split
  · rename_i hr
    unfold Nu.bin
    split
    · rename_i h
      rw [Bool.and_eq_true] at h
      split
      · exact binFl_rng _ _ _ (fb_ltE _) (fb_ltE _)
      · split
        · rename_i h9
          subst h9
          exact binBo_rng _ _ _ (chk9E h.1) (chk9E h.2)
        · exact binIn_rng _ _ _ _ hr.1 hr.2
    · decide
  · decide

/-- The number of an operator of two. -/
def kOf (op : ByteArray) : Option Nat := names2.idxOf? op.toList

def tv (t : Int) (x : List Int) : Val × List Int := (⟨⟨#[]⟩, t, nilS⟩, x)

/-- What Do answers of any node and two tensors. -/
def elG (n : Nod) (ins : List ByteArray) (A : At) (t0 t1 : Int) (x y xs ys : List Int) : R (Int × List Int × List Int) :=
  doR (nodeP [tq t0 x xs, tq t1 y ys] (outF n ins A [tv t0 x, tv t1 y])) fun l => match kOf n.op with
    | some k => madeR (G2 k t0) [tq t0 x xs, tq t1 y ys] l (prod l).toNat
    | none => .error 5

theorem vin_same : ∀ {vs us : List (Val × List Int)}, vs.map (·.1.ty) = us.map (·.1.ty) → vs.map (·.2) = us.map (·.2) → vinP vs = vinP us
  | [], [], _, _ => rfl
  | p :: l, q :: m, h1, h2 => by
    simp only [List.map_cons, List.cons.injEq] at h1 h2
    simp only [vinP]
    rw [h1.1, h2.1, vin_same h1.2 h2.2]
  | [], q :: m, h1, _ => by simp at h1
  | p :: l, [], h1, _ => by simp at h1

/-- What a node makes hangs on its inputs' types and dims alone. -/
theorem outF_same {n : Nod} {ins : List ByteArray} {A : At} {vs us : List (Val × List Int)} (h1 : vs.map (·.1.ty) = us.map (·.1.ty)) (h2 : vs.map (·.2) = us.map (·.2)) : outF n ins A vs = outF n ins A us := by
  have hl : vs.length = us.length := by simpa using congrArg List.length h1
  have ht : tysOf vs = tysOf us := h1
  have hd : dimsOf vs = dimsOf us := h2
  unfold outF valueP
  rw [hl, ht, hd, vin_same h1 h2]

set_option maxRecDepth 100000 in
theorem two_known : ∀ r ∈ rules, r.2.1 ≤ 2 → 2 ≤ r.2.2.1 → r.1 ∈ names2 ∨ r.1 ∈ ([[77, 97, 116, 77, 117, 108], [71, 101, 109, 109], [67, 111, 110, 118], [71, 97, 116, 104, 101, 114], [67, 111, 110, 99, 97, 116]] : List (List UInt8)) := by decide +kernel

theorem bytes_injE {a b : ByteArray} (h : a.toList = b.toList) : a = b := by
  rw [bytes_toList, bytes_toList] at h
  exact ByteArray.ext (Array.ext' h)

theorem bytes_of {a : ByteArray} {l : List UInt8} (h : a.toList = l) : a = ⟨l.toArray⟩ := by
  rw [bytes_toList] at h
  subst h
  rfl

theorem names2_12 {op : ByteArray} (h : op.toList ∈ names2) : op ∈ ([⟨#[65, 100, 100]⟩, ⟨#[83, 117, 98]⟩, ⟨#[77, 117, 108]⟩, ⟨#[68, 105, 118]⟩, ⟨#[77, 97, 120]⟩, ⟨#[77, 105, 110]⟩, ⟨#[65, 110, 100]⟩, ⟨#[79, 114]⟩, ⟨#[88, 111, 114]⟩, ⟨#[69, 113, 117, 97, 108]⟩, ⟨#[76, 101, 115, 115]⟩, ⟨#[71, 114, 101, 97, 116, 101, 114]⟩] : List ByteArray) := by
  simp only [names2, List.mem_cons, List.not_mem_nil, or_false] at h ⊢
  rcases h with h | h | h | h | h | h | h | h | h | h | h | h
  · exact .inl (bytes_of h)
  · exact .inr (.inl (bytes_of h))
  · exact .inr (.inr (.inl (bytes_of h)))
  · exact .inr (.inr (.inr (.inl (bytes_of h))))
  · exact .inr (.inr (.inr (.inr (.inl (bytes_of h)))))
  · exact .inr (.inr (.inr (.inr (.inr (.inl (bytes_of h))))))
  · exact .inr (.inr (.inr (.inr (.inr (.inr (.inl (bytes_of h)))))))
  · exact .inr (.inr (.inr (.inr (.inr (.inr (.inr (.inl (bytes_of h))))))))
  · exact .inr (.inr (.inr (.inr (.inr (.inr (.inr (.inr (.inl (bytes_of h)))))))))
  · exact .inr (.inr (.inr (.inr (.inr (.inr (.inr (.inr (.inr (.inl (bytes_of h))))))))))
  · exact .inr (.inr (.inr (.inr (.inr (.inr (.inr (.inr (.inr (.inr (.inl (bytes_of h)))))))))))
  · exact .inr (.inr (.inr (.inr (.inr (.inr (.inr (.inr (.inr (.inr (.inr (bytes_of h)))))))))))

theorem idx_get {α : Type} [BEq α] [LawfulBEq α] {l : List α} {a : α} {k : Nat} (h : l.idxOf? a = some k) : a ∈ l := by
  rw [List.idxOf?_eq_some_iff] at h
  obtain ⟨h1, h2, -⟩ := h
  exact h2 ▸ List.getElem_mem h1

theorem kOf_12 {op : ByteArray} {k : Nat} (h : kOf op = some k) : op ∈ ([⟨#[65, 100, 100]⟩, ⟨#[83, 117, 98]⟩, ⟨#[77, 117, 108]⟩, ⟨#[68, 105, 118]⟩, ⟨#[77, 97, 120]⟩, ⟨#[77, 105, 110]⟩, ⟨#[65, 110, 100]⟩, ⟨#[79, 114]⟩, ⟨#[88, 111, 114]⟩, ⟨#[69, 113, 117, 97, 108]⟩, ⟨#[76, 101, 115, 115]⟩, ⟨#[71, 114, 101, 97, 116, 101, 114]⟩] : List ByteArray) := names2_12 (idx_get h)

theorem work_of {op : ByteArray} {k : Nat} (h : kOf op = some k) : Work2 op k := by
  have h12 := kOf_12 h
  simp only [List.mem_cons, List.not_mem_nil, or_false] at h12
  rcases h12 with rfl | rfl | rfl | rfl | rfl | rfl | rfl | rfl | rfl | rfl | rfl | rfl
  · obtain rfl : k = 0 := Option.some.inj (h.symm.trans (show kOf ⟨#[65, 100, 100]⟩ = some 0 by kernel_rfl))
    exact fun n hop p1 p2 B ub uo un uc ty x y w hn hi hun ht hx hy => work2_Add n hop p1 p2 B ub uo un uc ty x y w hn hi hun ht hx hy
  · obtain rfl : k = 1 := Option.some.inj (h.symm.trans (show kOf ⟨#[83, 117, 98]⟩ = some 1 by kernel_rfl))
    exact fun n hop p1 p2 B ub uo un uc ty x y w hn hi hun ht hx hy => work2_Sub n hop p1 p2 B ub uo un uc ty x y w hn hi hun ht hx hy
  · obtain rfl : k = 2 := Option.some.inj (h.symm.trans (show kOf ⟨#[77, 117, 108]⟩ = some 2 by kernel_rfl))
    exact fun n hop p1 p2 B ub uo un uc ty x y w hn hi hun ht hx hy => work2_Mul n hop p1 p2 B ub uo un uc ty x y w hn hi hun ht hx hy
  · obtain rfl : k = 3 := Option.some.inj (h.symm.trans (show kOf ⟨#[68, 105, 118]⟩ = some 3 by kernel_rfl))
    exact fun n hop p1 p2 B ub uo un uc ty x y w hn hi hun ht hx hy => work2_Div n hop p1 p2 B ub uo un uc ty x y w hn hi hun ht hx hy
  · obtain rfl : k = 4 := Option.some.inj (h.symm.trans (show kOf ⟨#[77, 97, 120]⟩ = some 4 by kernel_rfl))
    exact fun n hop p1 p2 B ub uo un uc ty x y w hn hi hun ht hx hy => work2_Max n hop p1 p2 B ub uo un uc ty x y w hn hi hun ht hx hy
  · obtain rfl : k = 5 := Option.some.inj (h.symm.trans (show kOf ⟨#[77, 105, 110]⟩ = some 5 by kernel_rfl))
    exact fun n hop p1 p2 B ub uo un uc ty x y w hn hi hun ht hx hy => work2_Min n hop p1 p2 B ub uo un uc ty x y w hn hi hun ht hx hy
  · obtain rfl : k = 6 := Option.some.inj (h.symm.trans (show kOf ⟨#[65, 110, 100]⟩ = some 6 by kernel_rfl))
    exact fun n hop p1 p2 B ub uo un uc ty x y w hn hi hun ht hx hy => work2_And n hop p1 p2 B ub uo un uc ty x y w hn hi hun ht hx hy
  · obtain rfl : k = 7 := Option.some.inj (h.symm.trans (show kOf ⟨#[79, 114]⟩ = some 7 by kernel_rfl))
    exact fun n hop p1 p2 B ub uo un uc ty x y w hn hi hun ht hx hy => work2_Or n hop p1 p2 B ub uo un uc ty x y w hn hi hun ht hx hy
  · obtain rfl : k = 8 := Option.some.inj (h.symm.trans (show kOf ⟨#[88, 111, 114]⟩ = some 8 by kernel_rfl))
    exact fun n hop p1 p2 B ub uo un uc ty x y w hn hi hun ht hx hy => work2_Xor n hop p1 p2 B ub uo un uc ty x y w hn hi hun ht hx hy
  · obtain rfl : k = 9 := Option.some.inj (h.symm.trans (show kOf ⟨#[69, 113, 117, 97, 108]⟩ = some 9 by kernel_rfl))
    exact fun n hop p1 p2 B ub uo un uc ty x y w hn hi hun ht hx hy => work2_Equal n hop p1 p2 B ub uo un uc ty x y w hn hi hun ht hx hy
  · obtain rfl : k = 10 := Option.some.inj (h.symm.trans (show kOf ⟨#[76, 101, 115, 115]⟩ = some 10 by kernel_rfl))
    exact fun n hop p1 p2 B ub uo un uc ty x y w hn hi hun ht hx hy => work2_Less n hop p1 p2 B ub uo un uc ty x y w hn hi hun ht hx hy
  · obtain rfl : k = 11 := Option.some.inj (h.symm.trans (show kOf ⟨#[71, 114, 101, 97, 116, 101, 114]⟩ = some 11 by kernel_rfl))
    exact fun n hop p1 p2 B ub uo un uc ty x y w hn hi hun ht hx hy => work2_Greater n hop p1 p2 B ub uo un uc ty x y w hn hi hun ht hx hy

set_option maxRecDepth 100000 in
set_option maxHeartbeats 8000000 in
/-- What is none of elem's is not made. -/
theorem made_nil (n : Nod) (hop : n.op ∈ ([⟨#[77, 97, 116, 77, 117, 108]⟩, ⟨#[71, 101, 109, 109]⟩, ⟨#[67, 111, 110, 118]⟩, ⟨#[71, 97, 116, 104, 101, 114]⟩, ⟨#[67, 111, 110, 99, 97, 116]⟩] : List ByteArray)) (u : Sl) (nam0 : ByteArray) (vty : Int) (dv : Sl) (w : World) :
    Calls Tryz.prog 14 #[nval n, .slice u.a u.n u.c, .agg #[.string nam0, .int .i64 vty, .slice dv.a dv.n dv.c]] w (EvQ w (.error 5)) := by
  have WN := hide (fun (wx : World) => workof_none n hop u (.string nam0) (.int .i64 vty) (.slice dv.a dv.n dv.c) wx)
  clear hop
  obtain ⟨op, nam, ⟨ia, il, ic⟩, out, ⟨ao, al, cap⟩⟩ := n
  obtain ⟨ua, un, uc⟩ := u
  obtain ⟨da, dn, dc⟩ := dv
  unfold nval at WN ⊢
  simp only at WN ⊢
  obtain ⟨w0, hw0⟩ : ∃ w0, w0 = (w.alloc (.cells #[.string op, .string nam, .slice ia il ic, .string out, .slice ao al cap] 25)).alloc (.cells #[.string nam0, .int .i64 vty, .slice da dn dc] 53) := ⟨_, rfl⟩
  have g0 : Hid (w.grownBy w0 none) := by show w.grownBy w0 none; rw [hw0]; exact grown_trans (grown_new _ _) (grown_new _ _)
  go_enter Tryz.func14, Tryz.ntmps14
  go_wp2_with fail
  rw [← hw0]
  clear hw0
  refine (WN.out w0).mono ?_
  rintro e w1 ⟨rfl, hg1⟩
  have hbo : ∀ wx, (binOp .eql 58 .nilFunc .nilFunc).run Tryz.prog wx = .ok (.bool true) wx := fun wx => by rfl
  go_wp2
  go_ret2
  exact ⟨grown_trans g0.out hg1, rfl⟩

set_option maxRecDepth 100000 in
/-- elem.Do of any node and two tensors. -/
theorem edo_of (n : Nod) (ins : List ByteArray) (A : At) (u : Sl) (T0 T1 : Ten) (x y xs ys : List Int) (w : World) (hl : Laid w) (hn : NodeAll w n ins A) (hv : TensIn w u.v [(T0, (x, xs)), (T1, (y, ys))]) :
    Calls Tryz.prog 8 #[nval n, .slice u.a u.n u.c] w (DoQ w (elG n ins A T0.ty T1.ty x y xs ys)) := by
  refine edo_any _ u _ w fun wx hx => bdo_any _ u (nodeP [tq T0.ty x xs, tq T1.ty y ys] (outF n ins A [tv T0.ty x, tv T1.ty y])) _ wx (nz_node fun c h => outF_err h) (fun l => ?_) (fun wy hy => ?_) (fun wy ty dv l hy hr hd => ?_)
  · cases hk : kOf n.op with
    | none => intro c hc; cases hc; omega
    | some k => exact nz_made _ _ _ _
  · refine bnode_any n u [(T0, (x, xs)), (T1, (y, ys))] _ wy (hv.more (grown_trans hx hy)) (by simp) fun wz s vs hz hvs h1 h2 => ?_
    have key := out_of n ins A s vs wz (hl.more (grown_trans (grown_trans hx hy) hz)) (hn.more (grown_trans (grown_trans hx hy) hz)) hvs
    rw [outF_same (us := [tv T0.ty x, tv T1.ty y]) h1 h2] at key
    exact key
  · have hvy := hv.more (grown_trans hx hy)
    have ok := outF_ok (node_inv hr).2
    cases hk : kOf n.op with
    | none =>
      refine made_nil n ?_ u _ ty dv wy
      obtain ⟨R0, hR, h1, h2, h3⟩ := checkF_zero ok.chk
      have h4 : ins.length = 2 := ok.len.symm
      rw [h4] at h2 h3
      rcases two_known R0 hR (by simpa using h2) (by simpa using h3) with h | h
      · rw [h1] at h
        exfalso
        have := List.idxOf?_eq_none_iff.1 hk
        exact this h
      · rw [h1] at h
        simp only [List.mem_cons, List.not_mem_nil, or_false] at h ⊢
        rcases h with h | h | h | h | h
        · exact .inl (bytes_of h)
        · exact .inr (.inl (bytes_of h))
        · exact .inr (.inr (.inl (bytes_of h)))
        · exact .inr (.inr (.inr (.inl (bytes_of h))))
        · exact .inr (.inr (.inr (.inr (bytes_of h))))
    | some k =>
      refine made_two n (kOf_12 hk) u [(T0, (x, xs)), (T1, (y, ys))] _ ty dv l (G2 k T0.ty) (prod l).toNat wy hvy (by simp) (by simp) hd ?_ (fun p hp ha => (asL_len (by simpa [asOk] using ha)).1) (fun zs => G2_rng _ _ _) fun wz p1 p2 B zs hz hb1 hb2 hzl hzi => ?_
      · have : prod l ≤ 65536 := (fine_of ok.cnt).le
        omega
      · obtain ⟨ua, un, uc⟩ := u
        obtain ⟨ub, uo, rfl⟩ := hvy.vals.addr (k := 0) (by simp)
        obtain ⟨xa, xc, e1, -⟩ := hvy.vals.form
        simp only [Sl.v, List.map_cons, List.map_nil, List.length_cons, List.length_nil, Value.slice.injEq] at e1
        obtain ⟨-, rfl, -⟩ := e1
        obtain ⟨c0, -, -⟩ := (hvy.more hz).at 0 (by simp)
        obtain ⟨zb, zo, ez, hc⟩ := hzi.get (k := 0) (by simp at hzl; omega)
        cases ez
        have d0 := hc 0 (by simp at hzl; omega)
        have d1 := hc 1 (by simp at hzl; omega)
        have w0 := hzi.wf (zs.getD 0 0) (by rw [List.getD, List.getElem?_eq_getElem (by simp at hzl; omega)]; exact List.getElem_mem _)
        have w1 := hzi.wf (zs.getD 1 0) (by rw [List.getD, List.getElem?_eq_getElem (by simp at hzl; omega)]; exact List.getElem_mem _)
        have e2 : G2 k T0.ty zs = Nu.bin k T0.ty (zs.getD 0 0) (zs.getD 1 0) := by unfold G2; rw [if_pos ⟨w0, w1⟩]
        rw [e2]
        exact work_of hk n rfl p1 p2 B ub uo _ uc T0.ty (zs.getD 0 0) (zs.getD 1 0) wz hb1 hb2 (by omega) (by simpa using c0) (by simpa using d0) (by simpa using d1)

theorem evL_cong {F G : List Int → Int × Int} {cs ds : List (List Int)} : ∀ (m k : Nat), (∀ j, F (cs.map (·.getD j 0)) = G (ds.map (·.getD j 0))) → evL F cs k m = evL G ds k m
  | 0, _, _ => rfl
  | m + 1, k, h => by
    simp only [evL]
    rw [h k, evL_cong m (k + 1) h]

theorem G2_comm {k : Nat} {t : Int} (hk : k = 0 ∨ k = 2 ∨ k = 4 ∨ k = 5 ∨ k = 6 ∨ k = 7 ∨ k = 8 ∨ k = 9) (a b : Int) : G2 k t [a, b] = G2 k t [b, a] := by
  unfold G2
  simp only [List.getD_cons_zero, List.getD_cons_succ]
  rw [Nu.turns_all k t b a hk]
  by_cases h : (-9223372036854775808 ≤ a ∧ a ≤ 9223372036854775807) ∧ (-9223372036854775808 ≤ b ∧ b ≤ 9223372036854775807)
  · rw [if_pos h, if_pos h.symm]
  · rw [if_neg h, if_neg (fun e => h e.symm)]

theorem made_ok {F : List Int → Int × Int} {ps : List (Ten × Tq)} {l zs : List Int} {N : Nat} (h : madeR F ps l N = .ok zs) : ps.all (asOk l) = true ∧ evL F (ps.map (colP l)) 0 N = .ok zs := by
  unfold madeR at h
  split at h
  · rename_i h1; exact ⟨h1, h⟩
  · cases h

/-- What is well is the same in either order. -/
theorem elG_turned {n : Nod} {ins : List ByteArray} {A : At} {t0 t1 : Int} {x y xs ys : List Int} {r : Int × List Int × List Int} (m1 : n.op.toList ≠ [83, 117, 98]) (m2 : n.op.toList ≠ [68, 105, 118]) (m3 : n.op.toList ≠ [76, 101, 115, 115]) (m4 : n.op.toList ≠ [71, 114, 101, 97, 116, 101, 114]) (h : elG n ins A t0 t1 x y xs ys = .ok r) : elG n ins A t1 t0 y x ys xs = .ok r := by
  unfold elG doR at h
  split at h
  case h_2 => cases h
  rename_i ty l hr
  obtain ⟨hok, hr⟩ := node_inv hr
  have ok := outF_ok hr
  cases hk : kOf n.op with
  | none => rw [hk] at h; cases h
  | some k =>
    rw [hk] at h
    have hks : k = 0 ∨ k = 2 ∨ k = 4 ∨ k = 5 ∨ k = 6 ∨ k = 7 ∨ k = 8 ∨ k = 9 := by
      have h12 := kOf_12 hk
      simp only [List.mem_cons, List.not_mem_nil, or_false] at h12
      rcases h12 with e | e | e | e | e | e | e | e | e | e | e | e <;> rw [e] at hk m1 m2 m3 m4
      · have := Option.some.inj (hk.symm.trans (show kOf ⟨#[65, 100, 100]⟩ = some 0 by kernel_rfl)); omega
      · have := Option.some.inj (hk.symm.trans (show kOf ⟨#[83, 117, 98]⟩ = some 1 by kernel_rfl)); exact absurd (bytes_toList _) m1
      · have := Option.some.inj (hk.symm.trans (show kOf ⟨#[77, 117, 108]⟩ = some 2 by kernel_rfl)); omega
      · have := Option.some.inj (hk.symm.trans (show kOf ⟨#[68, 105, 118]⟩ = some 3 by kernel_rfl)); exact absurd (bytes_toList _) m2
      · have := Option.some.inj (hk.symm.trans (show kOf ⟨#[77, 97, 120]⟩ = some 4 by kernel_rfl)); omega
      · have := Option.some.inj (hk.symm.trans (show kOf ⟨#[77, 105, 110]⟩ = some 5 by kernel_rfl)); omega
      · have := Option.some.inj (hk.symm.trans (show kOf ⟨#[65, 110, 100]⟩ = some 6 by kernel_rfl)); omega
      · have := Option.some.inj (hk.symm.trans (show kOf ⟨#[79, 114]⟩ = some 7 by kernel_rfl)); omega
      · have := Option.some.inj (hk.symm.trans (show kOf ⟨#[88, 111, 114]⟩ = some 8 by kernel_rfl)); omega
      · have := Option.some.inj (hk.symm.trans (show kOf ⟨#[69, 113, 117, 97, 108]⟩ = some 9 by kernel_rfl)); omega
      · have := Option.some.inj (hk.symm.trans (show kOf ⟨#[76, 101, 115, 115]⟩ = some 10 by kernel_rfl)); exact absurd (bytes_toList _) m3
      · have := Option.some.inj (hk.symm.trans (show kOf ⟨#[71, 114, 101, 97, 116, 101, 114]⟩ = some 11 by kernel_rfl)); exact absurd (bytes_toList _) m4
    have hnm : n.op.toList ∈ names2 := idx_get hk
    have ne : ∀ z, z ∉ names2 → n.op.toList ≠ z := fun z hz e => hz (e ▸ hnm)
    have ok2 := ok.turned (ne _ (by decide)) (ne _ (by decide)) (ne _ (by decide)) (ne _ (by decide)) (ne _ (by decide))
    have et : t1 = t0 := by
      have ht := ok.typ
      obtain ⟨R0, hR, h1, h2, h3⟩ := checkF_zero ok.chk
      have h4 : ins.length = 2 := ok.len.symm
      rw [h4] at h2 h3
      obtain ⟨g1, -⟩ := two_grp R0 hR (by simpa using h2) (by simpa using h3) (by rw [h1]; exact ne _ (by decide)) (by rw [h1]; exact ne _ (by decide)) (by rw [h1]; exact ne _ (by decide)) (by rw [h1]; exact ne _ (by decide)) (by rw [h1]; exact ne _ (by decide))
      rw [h1] at g1
      have eg : grp n.op = grpL n.op.toList := rfl
      rw [← eg] at g1
      cases hs : sameP (tysOf [tv t0 x, tv t1 y]) with
      | error c => rcases g1 with g | g <;> rw [g] at ht <;> simp only [typeG] at ht <;> rw [hs] at ht <;> cases ht
      | ok a => exact (sameP_two (s := t0) (t := t1) hs).1.symm
    subst et
    obtain ⟨zs, hz, e⟩ : ∃ zs, madeR (G2 k t1) [tq t1 x xs, tq t1 y ys] l (prod l).toNat = .ok zs ∧ (ty, l, zs) = r := by
      cases hm : madeR (G2 k t1) [tq t1 x xs, tq t1 y ys] l (prod l).toNat with
      | error c => simp only [hm] at h; cases h
      | ok zs => simp only [hm] at h; exact ⟨zs, rfl, by cases h; rfl⟩
    obtain ⟨ha, hv⟩ := made_ok hz
    have hp : nodeP [tq t1 y ys, tq t1 x xs] (outF n ins A [tv t1 y, tv t1 x]) = .ok (ty, l) := by
      unfold nodeP
      rw [if_pos (by simpa [and_comm] using hok)]
      exact ok2.eq
    unfold elG doR
    rw [hp, hk]
    simp only
    have hm : madeR (G2 k t1) [tq t1 y ys, tq t1 x xs] l (prod l).toNat = .ok zs := by
      unfold madeR
      rw [if_pos (by simpa [and_comm] using ha), ← hv]
      exact evL_cong _ _ fun j => G2_comm hks _ _
    rw [hm, ← e]
    rfl

theorem nz_elG (n : Nod) (ins : List ByteArray) (A : At) (t0 t1 : Int) (x y xs ys : List Int) : ∀ c, elG n ins A t0 t1 x y xs ys = .error c → c ≠ 0 := by
  intro c h
  unfold elG doR at h
  split at h
  · rename_i ty l hr
    cases hk : kOf n.op with
    | none => rw [hk] at h; cases h; omega
    | some k =>
      rw [hk] at h
      cases hm : madeR (G2 k t0) [tq t0 x xs, tq t1 y ys] l (prod l).toNat with
      | error d => simp only [hm] at h; cases h; exact nz_made _ _ _ _ _ hm
      | ok zs => simp only [hm] at h; cases h
  · rename_i c' hr
    cases h
    exact nz_node (fun c h => outF_err h) _ hr

theorem two_same3 {X Y : R (Int × List Int × List Int)} (h1 : ∀ r, X = .ok r → Y = .ok r) (h2 : ∀ r, Y = .ok r → X = .ok r) (n1 : ∀ c, X = .error c → c ≠ 0) (n2 : ∀ c, Y = .error c → c ≠ 0) : rTy X = rTy Y ∧ rL X = rL Y ∧ rZ X = rZ Y ∧ ((rC X == 0) == (rC Y == 0)) = true := by
  cases X with
  | ok r => rw [h1 r rfl]; exact ⟨rfl, rfl, rfl, by simp⟩
  | error c =>
    cases Y with
    | ok r => have := h2 r rfl; cases this
    | error d =>
      have a := n1 c rfl
      have b := n2 d rfl
      refine ⟨rfl, rfl, rfl, ?_⟩
      show ((c == 0) == (d == 0)) = true
      rw [beq_eq_false_iff_ne.2 a, beq_eq_false_iff_ne.2 b]
      rfl
end Go.Proofs.YteigfipgmghgmaaGreatDoor
