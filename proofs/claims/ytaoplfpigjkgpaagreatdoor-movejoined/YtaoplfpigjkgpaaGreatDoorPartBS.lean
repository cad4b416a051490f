/- Joined texts: MvJdK. -/
import Derived.Test.YtaoplfpigjkgpaaGreatDoorPartBR
namespace Go.Proofs.YtaoplfpigjkgpaaGreatDoor

open Go.RowKit

theorem own_lit {w : World} {base B te size n : Nat} {cur : Array Value} (h : w.heap[B]? = some (.cells cur te (0, 0))) (hb : base ≤ B) (hs : cur.size = n * size) (hn : n ≤ 1000) : w.ownsRow base te size (.slice (some ⟨B, 0, none⟩) n n) n cur.toList :=
  ⟨by rw [Array.length_toList, hs], .inr ⟨B, n, cur, rfl, hb, h, Nat.le_refl _, by simp only [maxLen]; omega, hs, by rw [List.take_of_length_le (by rw [Array.length_toList, hs]; exact Nat.le_refl _)]⟩⟩

theorem grown_past {a b c : World} {B : Nat} {r : Option Nat} (h : a.grownBy b r) (k : b.grownBy c (some B)) (hB : a.heap.size ≤ B) : a.grownBy c r :=
  ⟨k.1.trans h.1, k.2.trans h.2, k.3.trans h.3, Nat.le_trans h.4 k.4, fun i hi hr => (k.5 i (Nat.lt_of_lt_of_le hi h.4) (fun e => by cases e; omega)).trans (h.5 i hi hr)⟩

theorem grown_after {a b c : World} {r : Option Nat} (h : a.grownBy b r) (k : b.grownBy c none) : a.grownBy c r :=
  ⟨k.1.trans h.1, k.2.trans h.2, k.3.trans h.3, Nat.le_trans h.4 k.4, fun i hi hr => (k.5 i (Nat.lt_of_lt_of_le hi h.4) (by simp)).trans (h.5 i hi hr)⟩

theorem five_cells {w : World} {B : Nat} {z0 z1 z2 z3 z4 : Value} {t : TypeId} (hb : w.heap[B]? = some (.cells #[z0, z1, z2, z3, z4] t (0, 0))) : w.cell? ⟨B, 0, none⟩ = some z0 ∧ w.cell? ⟨B, 1, none⟩ = some z1 ∧ w.cell? ⟨B, 2, none⟩ = some z2 ∧ w.cell? ⟨B, 3, none⟩ = some z3 ∧ w.cell? ⟨B, 4, none⟩ = some z4 :=
  ⟨(cell_of_row _ _ 0 _ _ (0, 0) hb).trans rfl, (cell_of_row _ _ 1 _ _ (0, 0) hb).trans rfl, (cell_of_row _ _ 2 _ _ (0, 0) hb).trans rfl, (cell_of_row _ _ 3 _ _ (0, 0) hb).trans rfl, (cell_of_row _ _ 4 _ _ (0, 0) hb).trans rfl⟩

theorem do_past {w w' : World} {r : R (Int × List Int × List Int)} {e : Ending} (h : DoQ w r e w') : w.grownBy w' none ∧ ∃ d t : Sl, e = .returned (.tuple #[.agg #[.int .i64 (rTy r), .slice d.a d.n d.c, .slice t.a t.n t.c], .int .i64 (rC r)]) ∧ ∀ C wx, C < w.heap.size → w'.grownBy wx (some C) → IsInts wx d.v (rL r) ∧ IsInts wx t.v (rZ r) := by
  obtain ⟨hg, h⟩ := h
  refine ⟨hg, ?_⟩
  cases r with
  | error c => exact ⟨⟨none, 0, 0⟩, ⟨none, 0, 0⟩, h, fun C wx _ _ => ⟨(owns_nil wx 0).ints, (owns_nil wx 0).ints⟩⟩
  | ok rr =>
    obtain ⟨ty, l, zs⟩ := rr
    obtain ⟨⟨ty', d, t⟩, e1, e2, od, ot⟩ := h
    simp only at e1
    subst e1
    refine ⟨d, t, e2, fun C wx hC hx => ⟨Owns.ints ⟨od.1.kept hx ?_, od.2⟩, OwnsE.ints ⟨ot.1.kept hx ?_, ot.2⟩⟩⟩
    · cases e : d.v.ownBlock with
      | none => exact .inl rfl
      | some k => exact .inr (fun e2 => by have := (od.1.lt k e).1; cases e2; omega)
    · cases e : t.v.ownBlock with
      | none => exact .inl rfl
      | some k => exact .inr (fun e2 => by have := (ot.1.lt k e).1; cases e2; omega)

theorem own_attrs {w : World} {base : Nat} {v : Value} {xs : List Atr} (h : w.ownsRow base 41 9 v xs.length (xs.flatMap acells)) (hl : xs.length ≤ 1000) : IsAttrs w v xs := OwnsL.isL (bytes := 136) acells_len h (by omega)

def slAt (s1 s2 s3 : Sl) (S E L : List Int) : At := ⟨⟨#[83, 108, 105, 99, 101]⟩, [inA ⟨#[115, 116, 97, 114, 116, 115]⟩ s1, inA ⟨#[101, 110, 100, 115]⟩ s2, inA ⟨#[97, 120, 101, 115]⟩ s3], [⟨[], [], S⟩, ⟨[], [], E⟩, ⟨[], [], L⟩]⟩

theorem sl_has {w : World} {s1 s2 s3 : Sl} {S E L : List Int} (h1 : IsInts w s1.v S) (h2 : IsInts w s2.v E) (h3 : IsInts w s3.v L) : ∀ (j : Nat) (b : Atr), (slAt s1 s2 s3 S E L).xs[j]? = some b → ∃ c, (slAt s1 s2 s3 S E L).cs[j]? = some c ∧ Has w b c
  | 0, b, h => by
    cases h
    exact ⟨_, rfl, ⟨ints_nil w, ints_nil w, h1⟩⟩
  | 1, b, h => by
    cases h
    exact ⟨_, rfl, ⟨ints_nil w, ints_nil w, h2⟩⟩
  | 2, b, h => by
    cases h
    exact ⟨_, rfl, ⟨ints_nil w, ints_nil w, h3⟩⟩
  | _ + 3, b, h => by simp [slAt] at h

theorem sl_ok {w : World} {out : ByteArray} {iv av s1 s2 s3 : Sl} {S E L : List Int} (h1 : IsInts w s1.v S) (h2 : IsInts w s2.v E) (h3 : IsInts w s3.v L) (h : IsAttrs w av.v [inA ⟨#[115, 116, 97, 114, 116, 115]⟩ s1, inA ⟨#[101, 110, 100, 115]⟩ s2, inA ⟨#[97, 120, 101, 115]⟩ s3]) : NodeOk w ⟨⟨#[83, 108, 105, 99, 101]⟩, ⟨#[]⟩, iv, out, av⟩ (slAt s1 s2 s3 S E L) :=
  ⟨rfl, h, sl_has h1 h2 h3, fun b hb => by
    simp only [slAt, List.mem_cons, List.not_mem_nil, or_false] at hb
    rcases hb with rfl | rfl | rfl <;> (show -9223372036854775808 ≤ (0 : Int) ∧ (0 : Int) ≤ 9223372036854775807; omega)⟩

theorem sl_in {w : World} {out : ByteArray} {iv av s1 s2 s3 : Sl} {S E L : List Int} {ins : List ByteArray} (hi : IsStrs w iv.v ins) (h1 : IsInts w s1.v S) (h2 : IsInts w s2.v E) (h3 : IsInts w s3.v L) (h : IsAttrs w av.v [inA ⟨#[115, 116, 97, 114, 116, 115]⟩ s1, inA ⟨#[101, 110, 100, 115]⟩ s2, inA ⟨#[97, 120, 101, 115]⟩ s3]) : NodeIn w ⟨⟨#[83, 108, 105, 99, 101]⟩, ⟨#[]⟩, iv, out, av⟩ ins (slAt s1 s2 s3 S E L).xs (slAt s1 s2 s3 S E L).cs :=
  ⟨hi, h, sl_has h1 h2 h3, by simp [slAt], fun b hb => by
    simp only [slAt, List.mem_cons, List.not_mem_nil, or_false] at hb
    rcases hb with rfl | rfl | rfl <;> (show 0 ≤ 1048576; omega)⟩

theorem sl_check (s1 s2 s3 : Sl) (S E L : List Int) : checkF (ruleF ⟨#[83, 108, 105, 99, 101]⟩) ⟨#[83, 108, 105, 99, 101]⟩ [⟨#[120]⟩] ⟨#[121]⟩ (slAt s1 s2 s3 S E L).xs (slAt s1 s2 s3 S E L).cs = 0 := by kernel_rfl

theorem sl_then (s1 s2 s3 : Sl) (S E L : List Int) : thenL ((slAt s1 s2 s3 S E L).xs.find? (isA ⟨#[116, 104, 101, 110]⟩ 3)) = [] := by kernel_rfl

theorem sl_starts (s1 s2 s3 : Sl) (S E L : List Int) : At.ints (slAt s1 s2 s3 S E L) ⟨#[115, 116, 97, 114, 116, 115]⟩ [] = S := by kernel_rfl
theorem sl_ends (s1 s2 s3 : Sl) (S E L : List Int) : At.ints (slAt s1 s2 s3 S E L) ⟨#[101, 110, 100, 115]⟩ [] = E := by kernel_rfl
theorem sl_axes (s1 s2 s3 : Sl) (S E L : List Int) (zs : List Int) : At.ints (slAt s1 s2 s3 S E L) ⟨#[97, 120, 101, 115]⟩ zs = L := by kernel_rfl

theorem cat_check (a : Int) : checkF (ruleF ⟨#[67, 111, 110, 99, 97, 116]⟩) ⟨#[67, 111, 110, 99, 97, 116]⟩ [⟨#[120]⟩, ⟨#[121]⟩] ⟨#[122]⟩ (axAt ⟨#[67, 111, 110, 99, 97, 116]⟩ a).xs (axAt ⟨#[67, 111, 110, 99, 97, 116]⟩ a).cs = 0 := by kernel_rfl

structure Cut1 (t : Int) (x xs l zs : List Int) (a s e : Int) (ax A0 d R s' e' : Nat) : Prop where
  hax : axisO a x.length = some ax
  hd : x.getD ax 0 = (d : Int)
  hA : prod (x.take ax) = (A0 : Int)
  hR : prod (x.drop (ax + 1)) = (R : Int)
  hs : boundedP s d = (s' : Int)
  he : boundedP e d = (e' : Int)
  lt : s' < e'
  le : e' ≤ d
  hl : l = x.set ax ((e' - s' : Nat) : Int)
  hz : zs = cutL xs A0 d R s' (e' - s')
  len : xs.length = A0 * (d * R)
  cx : cntE x = 0
  cl : cntE l = 0
  pb : pbE t x xs = 0
  ty : ∃ q, typP t = .ok q

theorem sl_one {s1 s2 s3 : Sl} {s e a t ty : Int} {x xs l zs : List Int} (h : slG (slAt s1 s2 s3 [s] [e] [a]) t x xs = .ok (ty, l, zs)) : ty = t ∧ ∃ ax A0 d R s' e' : Nat, Cut1 t x xs l zs a s e ax A0 d R s' e' := by
  obtain ⟨e1, cx, cl, hsl, hz, hpb, hty⟩ := slG_inv h
  have F := fine_of cx
  refine ⟨e1, ?_⟩
  have hst : startsP (slAt s1 s2 s3 [s] [e] [a]) x = stL x [a] [s] (List.replicate x.length 0) := by
    unfold startsP
    rw [sl_starts, sl_axes]
  unfold slicedP at hsl
  simp only at hsl
  rw [sl_starts, sl_ends, sl_axes] at hsl
  obtain ⟨_, -, hsl⟩ := bind_ok hsl
  obtain ⟨_, -, hsl⟩ := bind_ok hsl
  simp only [sliceL] at hsl
  obtain ⟨ax, ha, hsl⟩ := bind_ok hsl
  obtain ⟨_, hm, hsl⟩ := bind_ok hsl
  cases hsl
  have hi : axisO a x.length = some ax := by
    unfold axisP at ha
    split at ha
    · rename_i i hi; cases ha; exact hi
    · cases ha
  have hlt := axisO_lt hi
  have hse : boundedP s (x.getD ax 0).toNat < boundedP e (x.getD ax 0).toNat := by
    unfold mustP at hm
    split at hm
    · rename_i q; simpa using q
    · cases hm
  have hd1 := F.at ax hlt
  obtain ⟨d, hd⟩ : ∃ d : Nat, x.getD ax 0 = d := ⟨(x.getD ax 0).toNat, by omega⟩
  rw [hd, Int.toNat_natCast] at hse
  have b1 := boundedP_rng s d
  have b2 := boundedP_rng e d
  obtain ⟨s', hs'⟩ : ∃ z : Nat, boundedP s d = z := ⟨(boundedP s d).toNat, by omega⟩
  obtain ⟨e', he'⟩ : ∃ z : Nat, boundedP e d = z := ⟨(boundedP e d).toNat, by omega⟩
  have pA : 1 ≤ prod (x.take ax) := prod_pos _ (pos_take F.pos ax)
  have pR : 1 ≤ prod (x.drop (ax + 1)) := prod_pos _ (pos_drop F.pos (ax + 1))
  obtain ⟨A0, hA⟩ : ∃ z : Nat, prod (x.take ax) = z := ⟨(prod (x.take ax)).toNat, by omega⟩
  obtain ⟨R, hR⟩ : ∃ z : Nat, prod (x.drop (ax + 1)) = z := ⟨(prod (x.drop (ax + 1))).toNat, by omega⟩
  have hl2 : (xs.length : Int) = prod x := (pb_inv hpb).2
  have hxl : xs.length = A0 * (d * R) := by
    have := hl2
    rw [prod_split x ax hlt, hA, hd, hR, ← Int.natCast_mul, ← Int.natCast_mul] at this
    omega
  have hle : x.set ax (boundedP e (x.getD ax 0).toNat - boundedP s (x.getD ax 0).toNat) = x.set ax ((e' - s' : Nat) : Int) := by
    rw [hd, Int.toNat_natCast, hs', he']
    congr 1
    omega
  refine ⟨ax, A0, d, R, s', e', hi, hd, hA, hR, hs', he', by omega, by omega, hle, ?_, hxl, cx, cl, hpb, hty⟩
  rw [hz, hst]
  unfold stL
  rw [hi]
  simp only [Option.getD_some, stL]
  rw [hle, hd, Int.toNat_natCast, hs']
  exact cut_rd hlt F hA hd hR hl2 (by omega) (by omega)

theorem cut_pb {t : Int} {x xs l zs : List Int} {a s e : Int} {ax A0 d R s' e' : Nat} (h : Cut1 t x xs l zs a s e ax A0 d R s' e') : pbE t l zs = 0 ∧ cnt (l.take ax) = (A0 : Int) ∧ cnt (l.drop ax) = (((e' - s') * R : Nat) : Int) := by
  have hlt := axisO_lt h.hax
  have hll : l.length = x.length := by rw [h.hl, List.length_set]
  obtain ⟨t3, t4⟩ := like_parts (x := x) (y := l) (ax := ax) hll (by rw [h.hl]; exact set_like x ax _)
  have hla : l.getD ax 0 = ((e' - s' : Nat) : Int) := by rw [h.hl]; simp [List.getD, hlt]
  have pl : prod l = ((A0 * ((e' - s') * R) : Nat) : Int) := by
    rw [prod_split l ax (by omega), t3, t4, h.hA, h.hR, hla, ← Int.natCast_mul, ← Int.natCast_mul]
  have hzl : zs.length = A0 * ((e' - s') * R) := by
    rw [h.hz]
    exact (cutL_len h.len (by have := h.le; have := h.lt; omega)).1
  have cT : cntE (l.take ax) = 0 := cntE_sub h.cl (a := []) (m := l.take ax) (b := l.drop ax) (by simp)
  have cD : cntE (l.drop ax) = 0 := cntE_sub h.cl (a := l.take ax) (m := l.drop ax) (b := []) (by simp)
  refine ⟨?_, by rw [cnt, if_pos cT, t3, h.hA], by rw [cnt, if_pos cD, prod_drop_ax l ax (by omega), hla, t4, h.hR, ← Int.natCast_mul]⟩
  have h0 : chk t 0 ≠ false := fun e => by have := h.pb; unfold pbE at this; rw [if_pos e] at this; cases this
  have hx : xs.all (chk t) = true := by
    have hpb := h.pb
    unfold pbE at hpb
    rw [if_neg h0, if_neg (by simp [h.cx]), if_neg (by rw [cnt, if_pos h.cx, (pb_inv h.pb).2]; simp)] at hpb
    split at hpb
    · assumption
    · cases hpb
  unfold pbE
  rw [if_neg h0, if_neg (by simp [h.cl]), if_neg (by rw [cnt, if_pos h.cl, pl, hzl]; simp), if_pos ?_]
  rw [List.all_eq_true] at hx ⊢
  intro z hz
  rw [h.hz] at hz
  unfold cutL at hz
  obtain ⟨k, -, hz⟩ := List.mem_flatMap.1 hz
  exact hx z (List.mem_of_mem_drop (List.mem_of_mem_take hz))

theorem joined_answer {s1 s2 s3 u1 u2 u3 : Sl} {a at' t t1 t2 : Int} {x xs l1 z1 l2 z2 : List Int} (h1 : slG (slAt s1 s2 s3 [0] [at'] [a]) t x xs = .ok (t1, l1, z1)) (h2 : slG (slAt u1 u2 u3 [at'] [65536] [a]) t x xs = .ok (t2, l2, z2)) : catR (axAt ⟨#[67, 111, 110, 99, 97, 116]⟩ a) t1 t2 l1 l2 z1 z2 = .ok (t, x, xs) := by
  obtain ⟨et1, ax, A0, d, W, sa, ea, c1⟩ := sl_one h1
  obtain ⟨et2, ax', A0', d', W', sb, eb, c2⟩ := sl_one h2
  rw [et1, et2]
  clear h1 h2 et1 et2
  have e1 := c2.hax
  rw [c1.hax] at e1
  cases e1
  have e2 := c2.hd
  rw [c1.hd] at e2
  obtain rfl : d = d' := by omega
  have e3 := c2.hA
  rw [c1.hA] at e3
  obtain rfl : A0 = A0' := by omega
  have e4 := c2.hR
  rw [c1.hR] at e4
  obtain rfl : W = W' := by omega
  have F := fine_of c1.cx
  have hlt := axisO_lt c1.hax
  have hd5 : (d : Int) ≤ 65536 := by rw [← c1.hd]; exact F.le_each (getD_mem3 hlt)
  have z0 : sa = 0 := by
    have := c1.hs
    rw [show boundedP 0 d = 0 from by unfold boundedP fromEndP; simp] at this
    omega
  have zd : eb = d := by
    have := c2.he
    rw [show boundedP 65536 d = d from by unfold boundedP fromEndP; simp; omega] at this
    omega
  have zm : sb = ea := by
    have k1 := c1.he
    have k2 := c2.hs
    rw [k1] at k2
    omega
  subst z0 zd zm
  have m1 := c1.lt
  have m2 := c2.lt
  obtain ⟨p1, q1, r1⟩ := cut_pb c1
  obtain ⟨p2, q2, r2⟩ := cut_pb c2
  obtain ⟨q, hq⟩ := c1.ty
  rw [Nat.sub_zero] at r1
  have hl1 : l1 = x.set ax ((sb : Nat) : Int) := by rw [c1.hl, Nat.sub_zero]
  have ll1 : l1.length = x.length := by rw [hl1, List.length_set]
  have ll2 : l2.length = x.length := by rw [c2.hl, List.length_set]
  have hj : joinedP (axAt ⟨#[67, 111, 110, 99, 97, 116]⟩ a) l1 [l2] = .ok x := by
    unfold joinedP
    rw [ax_int]
    have ha : axisP a l1.length = .ok ax := by unfold axisP; rw [ll1, c1.hax]
    rw [ha]
    show joinL ax [l2] l1 = .ok x
    simp only [joinL]
    have k1 : mustP (decide (l2.length = l1.length)) = .ok () := by unfold mustP; rw [if_pos (by simp [ll1, ll2])]
    have k2 : likeP l1 ax l2 = true := by
      unfold likeP
      rw [List.all_eq_true]
      intro i hi
      by_cases e : i = ax
      · simp [e]
      · have hi2 : i < x.length := by have := List.mem_range.1 hi; omega
        have g1 : l2.getD i 0 = x.getD i 0 := by rw [c2.hl]; exact set_like x ax _ i hi2 e
        have g2 : l1.getD i 0 = x.getD i 0 := by rw [hl1]; exact set_like x ax _ i hi2 e
        show (i == ax || l2.getD i 0 == l1.getD i 0) = true
        rw [g1, g2]
        simp
    rw [k1, k2]
    show (Except.ok (l1.set ax (l1.getD ax 0 + l2.getD ax 0)) : R (List Int)) = .ok x
    congr 1
    have g1 : l1.getD ax 0 = (sb : Int) := by rw [hl1]; simp [List.getD, hlt]
    have g2 : l2.getD ax 0 = ((eb - sb : Nat) : Int) := by rw [c2.hl]; simp [List.getD, hlt]
    rw [g1, g2, hl1, List.set_set, show (sb : Int) + ((eb - sb : Nat) : Int) = x.getD ax 0 from by rw [c1.hd]; omega]
    refine List.ext_getElem (by rw [List.length_set]) fun i h1 h2 => ?_
    rw [List.getElem_set]
    split
    · rename_i e; subst e; simp [List.getD, h2]
    · rfl
  have ho : outC (axAt ⟨#[67, 111, 110, 99, 97, 116]⟩ a) t t l1 l2 = .ok (t, x) := by
    unfold outC
    rw [hq, hj, show countP l1 = .ok (prod l1) from if_pos c1.cl, show countP l2 = .ok (prod l2) from if_pos c2.cl, show sameP [t, t] = .ok t from by simp [sameP]]
    show (countP x).bind _ = _
    rw [show countP x = .ok (prod x) from if_pos c1.cx]
    rfl
  unfold catR
  unfold nodeP
  rw [if_pos (by simp [tq, okT, p1, p2]), ho, ax_int, ll1, c1.hax, Option.getD_some, q1, r1, r2]
  simp only [Int.toNat_natCast]
  unfold doR
  simp only
  rw [c1.hz, c2.hz, Nat.sub_zero, cut_join c1.len (by omega)]
  rfl

end Go.Proofs.YtaoplfpigjkgpaaGreatDoor
