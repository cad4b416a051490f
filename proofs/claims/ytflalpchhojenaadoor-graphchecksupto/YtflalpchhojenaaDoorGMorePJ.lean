/- One more input, in pure words. -/
import Derived.Test.YtflalpchhojenaaDoorGNmJ
import Derived.Test.YtflalpchhojenaaDoorGAllJ
namespace Go.Proofs.YtflalpchhojenaaDoor
open Go.RowKit

theorem pos_app (a b : List ByteArray) (y : ByteArray) : pos (a ++ b) y = if pos a y < a.length then pos a y else pos b y + a.length := by
  unfold pos
  exact List.findIdx_append

theorem pos_one {x y : ByteArray} (h : y ≠ x) (b : List ByteArray) : pos ([x] ++ b) y = pos b y + 1 := by
  have e : (x.data.toList == y.data.toList) = false := by
    rw [beq_eq_false_iff_ne]
    exact fun e => h (bytes_eq e).symm
  rw [List.singleton_append]
  unfold pos
  rw [List.findIdx_cons, e]
  rfl

theorem pos_in {a : List ByteArray} {y : ByteArray} (h : y ∈ a) : pos a y < a.length := pos_lt (inL_iff.2 h)

theorem pos_more {a b : List ByteArray} {x y : ByteArray} (h : y ≠ x) : (pos (a ++ [x] ++ b) y = pos (a ++ b) y ∧ pos (a ++ b) y < a.length) ∨ pos (a ++ [x] ++ b) y = pos (a ++ b) y + 1 := by
  rw [List.append_assoc, pos_app a ([x] ++ b), pos_app a b, pos_one h]
  by_cases hp : pos a y < a.length
  · rw [if_pos hp, if_pos hp]
    exact Or.inl ⟨rfl, hp⟩
  · rw [if_neg hp, if_neg hp]
    right
    omega

theorem lnk_more {a b : List ByteArray} {x y : ByteArray} (h : y ≠ x) {k0 : Nat} (hk : a.length ≤ k0) (i : Nat) (p : List Int × List (List Int)) : lnk (a ++ [x] ++ b) (k0 + 1) i p y = lnk (a ++ b) k0 i p y := by
  unfold lnk
  rcases pos_more (a := a) (b := b) h with ⟨e, hl⟩ | e
  · rw [if_neg (by omega), if_neg (by omega)]
  · rw [e]
    by_cases hp : k0 ≤ pos (a ++ b) y
    · rw [if_pos hp, if_pos (by omega), show pos (a ++ b) y + 1 - (k0 + 1) = pos (a ++ b) y - k0 by omega]
    · rw [if_neg hp, if_neg (by omega)]

theorem row_more {a b : List ByteArray} {x : ByteArray} {k0 : Nat} (hk : a.length ≤ k0) (i : Nat) : ∀ {ys : List ByteArray} (p : List Int × List (List Int)), x ∉ ys → lnkRow (a ++ [x] ++ b) (k0 + 1) i p ys = lnkRow (a ++ b) k0 i p ys
  | [], _, _ => rfl
  | y :: ys, p, h => by
    have hy : y ≠ x := fun e => h (by simp [e])
    show lnkRow _ _ _ (lnk _ _ _ p y) ys = lnkRow _ _ _ (lnk _ _ _ p y) ys
    rw [lnk_more hy hk, row_more hk i _ (fun e => h (by simp [e]))]

theorem links_more {cs : List Nc} {a b : List ByteArray} {x : ByteArray} {k0 : Nat} (hk : a.length ≤ k0) (hx : ∀ c ∈ cs, x ∉ c.ins) : ∀ k, linksN cs (a ++ [x] ++ b) (k0 + 1) k = linksN cs (a ++ b) k0 k
  | 0 => rfl
  | k + 1 => by
    rw [linksN, linksN, links_more hk hx k]
    refine row_more hk k _ ?_
    cases hc : cs[k]? with
    | none => simp
    | some c => simpa using hx c (List.mem_of_getElem? hc)

theorem more_order {cs : List Nc} {vin vout : List (Val × List Int)} {its : List (Nam × List Int × List Int)} {v : Val} {ds : List Int} (h0 : (orderR cs vin vout its).2 = 0) (hx : v.name ∉ allN cs vin vout its) (hn : v.name.toList ≠ []) (ht : chk v.ty 0 = true) (hc : cntE ds = 0) (hm : vin.length + its.length + cs.length < 3000) :
    orderR cs (vin ++ [(v, ds)]) vout its = orderR cs vin vout its := by
  obtain ⟨m1, m2, m3, m4, m5⟩ := orderR_iff.1 h0
  have hr : orderR cs vin vout its = (lineF cs vin its, 0) := orderR_of m1 m2 m3 m4 m5
  have xi : v.name ∉ (vin.map (·.1)).map (·.name) := fun h => hx (by unfold allN; simp only [List.mem_append]; exact Or.inl (Or.inl (Or.inl h)))
  have xt : v.name ∉ (its.map (·.1)).map (·.name) := fun h => hx (by unfold allN; simp only [List.mem_append]; exact Or.inl (Or.inr h))
  have xn : v.name ∉ (cs.map (·.n)).map (·.out) := fun h => hx (by
    unfold allN
    simp only [List.mem_append]
    refine Or.inr ?_
    rw [List.map_map] at h
    obtain ⟨c, hc, e⟩ := List.mem_map.1 h
    exact List.mem_flatMap.2 ⟨c, hc, by rw [← e]; simp⟩)
  have xs : ∀ c ∈ cs, v.name ∉ c.ins := fun c hc h => hx (by
    unfold allN
    simp only [List.mem_append]
    exact Or.inr (List.mem_flatMap.2 ⟨c, hc, by simp [h]⟩))
  have ev : vnames cs vin its = (vin.map (·.1)).map (·.name) ++ ((its.map (·.1)).map (·.name) ++ (cs.map (·.n)).map (·.out)) := by unfold vnames; rw [List.append_assoc]
  have ev' : vnames cs (vin ++ [(v, ds)]) its = (vin.map (·.1)).map (·.name) ++ [v.name] ++ ((its.map (·.1)).map (·.name) ++ (cs.map (·.n)).map (·.out)) := by unfold vnames; simp only [List.map_append, List.map_cons, List.map_nil, List.append_assoc]
  have hp : List.Perm (vnames cs (vin ++ [(v, ds)]) its) (v.name :: vnames cs vin its) := by
    rw [ev, ev', List.append_assoc, List.singleton_append]
    exact List.perm_middle
  have hmem : ∀ y, y ∈ vnames cs (vin ++ [(v, ds)]) its ↔ y = v.name ∨ y ∈ vnames cs vin its := fun y => by rw [hp.mem_iff, List.mem_cons]
  have xv : v.name ∉ vnames cs vin its := by
    rw [ev]
    simp only [List.mem_append]
    rintro (h | h | h)
    · exact xi h
    · exact xt h
    · exact xn h
  have hl : lineF cs (vin ++ [(v, ds)]) its = lineF cs vin its := by
    unfold lineF
    rw [ev', ev, List.length_append, List.length_singleton, show vin.length + 1 + its.length = vin.length + its.length + 1 by omega, links_more (by simp) xs]
  rw [hr, ← hl]
  rw [namesOK_nil] at m3
  rw [foundF_iff] at m4
  refine orderR_of ?_ ?_ ?_ ?_ (by rw [hl]; exact m5)
  · unfold manyF at m1 ⊢
    simp only [Bool.or_eq_false_iff, decide_eq_false_iff_not, List.length_append, List.length_singleton] at m1 ⊢
    omega
  · unfold partsF at m2 ⊢
    rw [firstE_zero] at m2 ⊢
    intro z hz
    simp only [List.map_append, List.map_cons, List.map_nil, List.mem_append, List.mem_singleton] at hz m2
    rcases hz with (hz | hz) | hz
    · exact m2 z (Or.inl hz)
    · rw [hz]
      unfold valE
      rw [if_pos ht]
      exact hc
    · exact m2 z (Or.inr hz)
  · rw [namesOK_nil]
    refine ⟨fun y hy => ?_, hp.nodup_iff.2 (List.nodup_cons.2 ⟨xv, m3.2⟩)⟩
    rcases (hmem y).1 hy with rfl | hy
    · exact hn
    · exact m3.1 y hy
  · rw [foundF_iff]
    exact ⟨m4.1, m4.2.1, fun y hy => (hmem y).2 (Or.inr (m4.2.2.1 y hy)), fun c hc y hy => (hmem y).2 (Or.inr (m4.2.2.2 c hc y hy))⟩
end Go.Proofs.YtflalpchhojenaaDoor
