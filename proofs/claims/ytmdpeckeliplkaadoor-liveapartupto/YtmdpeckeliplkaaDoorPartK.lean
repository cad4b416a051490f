/- Joined texts: GNm, GMoreP, GStandP, GWorkP, GMaker, GWork. -/
import Derived.Test.YtmdpeckeliplkaaDoorGOrdLJ
import Derived.Test.YtmdpeckeliplkaaDoorPartR
import Derived.Test.YtmdpeckeliplkaaDoorGCopyGJ
import Derived.Test.YtmdpeckeliplkaaDoorGBoolJ
import Derived.Deep.RegionHeld3
/- Names in lists, in pure words. -/
namespace Go.Proofs.YtmdpeckeliplkaaDoor
open Go.RowKit

theorem bytes_eq {x y : ByteArray} (h : x.data.toList = y.data.toList) : x = y := by
  obtain ⟨⟨x⟩⟩ := x
  obtain ⟨⟨y⟩⟩ := y
  simp at h
  rw [h]

theorem inL_iff {x : ByteArray} {l : List ByteArray} : inL x l = true ↔ x ∈ l := by
  unfold inL
  rw [List.any_eq_true]
  constructor
  · rintro ⟨y, hy, e⟩
    have e2 : y = x := bytes_eq (by simpa using e)
    rw [← e2]
    exact hy
  · intro h
    exact ⟨x, h, by simp⟩

theorem inL_not {x : ByteArray} {l : List ByteArray} : inL x l = false ↔ x ∉ l := by
  rw [← inL_iff]
  simp

theorem namesOK_iff : ∀ {l acc : List ByteArray}, namesOK acc l = true ↔ (∀ y ∈ l, y ∉ acc ∧ y.toList ≠ []) ∧ l.Nodup
  | [], acc => by simp [namesOK]
  | x :: l, acc => by
    rw [namesOK, Bool.and_eq_true, Bool.and_eq_true, Bool.not_eq_true', Bool.not_eq_true', namesOK_iff, inL_not, List.nodup_cons]
    constructor
    · rintro ⟨⟨h1, h2⟩, h3, h4⟩
      refine ⟨fun y hy => ?_, fun hx => ?_, h4⟩
      · rcases List.mem_cons.1 hy with rfl | hy
        · exact ⟨h1, by simpa using h2⟩
        · have := h3 y hy
          exact ⟨fun h => this.1 (by simp [h]), this.2⟩
      · exact (h3 x hx).1 (by simp)
    · rintro ⟨h1, h2, h3⟩
      have hx := h1 x (by simp)
      refine ⟨⟨hx.1, by simpa using hx.2⟩, fun y hy => ⟨fun h => ?_, (h1 y (by simp [hy])).2⟩, h3⟩
      rcases List.mem_append.1 h with h | h
      · exact (h1 y (by simp [hy])).1 h
      · have e : y = x := by simpa using h
        exact h2 (e ▸ hy)

theorem namesOK_nil {l : List ByteArray} : namesOK [] l = true ↔ (∀ y ∈ l, y.toList ≠ []) ∧ l.Nodup := by
  rw [namesOK_iff]
  simp

theorem allF_iff {l xs : List ByteArray} : allF l xs = true ↔ ∀ x ∈ xs, x ∈ l := by
  unfold allF
  rw [List.all_eq_true]
  exact ⟨fun h x hx => inL_iff.1 (h x hx), fun h x hx => inL_iff.2 (h x hx)⟩

theorem foundF_iff {cs : List Nc} {outs l : List ByteArray} : foundF cs outs l = true ↔ namesOK [] outs = true ∧ outs.length ≠ 0 ∧ (∀ x ∈ outs, x ∈ l) ∧ ∀ c ∈ cs, ∀ x ∈ c.ins, x ∈ l := by
  unfold foundF
  rw [Bool.and_eq_true, Bool.and_eq_true, Bool.and_eq_true, allF_iff, List.all_eq_true]
  simp only [allF_iff, Bool.not_eq_true', beq_eq_false_iff_ne, ne_eq, and_assoc]

theorem firstE_app (a b : List Int) : firstE (a ++ b) = if firstE a = 0 then firstE b else firstE a := by
  induction a with
  | nil => simp [firstE]
  | cons z l ih =>
    rw [List.cons_append, firstE, firstE, ih]
    by_cases hz : z = 0
    · rw [if_pos hz, if_pos hz]
    · rw [if_neg hz, if_neg hz, if_neg hz]

theorem firstE_zero {l : List Int} : firstE l = 0 ↔ ∀ z ∈ l, z = 0 := by
  induction l with
  | nil => simp [firstE]
  | cons z l ih =>
    rw [firstE]
    by_cases hz : z = 0
    · rw [if_pos hz, ih]
      simp [hz]
    · rw [if_neg hz]
      simp [hz]

/-- All that a graph has whose order there is. -/
theorem orderR_iff {cs : List Nc} {vin vout : List (Val × List Int)} {its : List (Nam × List Int × List Int)} : (orderR cs vin vout its).2 = 0 ↔ manyF cs.length vin.length vout.length its.length = false ∧ partsF cs vin its = 0 ∧ namesOK [] (vnames cs vin its) = true ∧ foundF cs (onames vout) (vnames cs vin its) = true ∧ (lineF cs vin its).length = cs.length := by
  have hle : (lineF cs vin its).length ≤ cs.length := ordF_len _ _ _
  unfold orderR
  constructor
  · intro h
    by_cases h1 : manyF cs.length vin.length vout.length its.length = true
    · rw [if_pos h1] at h; simp at h
    · rw [if_neg h1] at h
      by_cases h2 : partsF cs vin its ≠ 0
      · rw [if_pos h2] at h; exact absurd h h2
      · rw [if_neg h2] at h
        by_cases h3 : (namesOK [] (vnames cs vin its) && foundF cs (onames vout) (vnames cs vin its)) = false
        · rw [if_pos h3] at h; simp at h
        · rw [if_neg h3] at h
          by_cases h4 : (lineF cs vin its).length < cs.length
          · rw [if_pos h4] at h; simp at h
          · have h5 : (namesOK [] (vnames cs vin its) && foundF cs (onames vout) (vnames cs vin its)) = true := by simpa using h3
            rw [Bool.and_eq_true] at h5
            exact ⟨by simpa using h1, by simpa using h2, h5.1, h5.2, by omega⟩
  · rintro ⟨h1, h2, h3, h4, h5⟩
    rw [if_neg (by simp [h1]), if_neg (by simp [h2]), if_neg (by simp [h3, h4]), if_neg (by omega)]

theorem orderR_of {cs : List Nc} {vin vout : List (Val × List Int)} {its : List (Nam × List Int × List Int)} (h1 : manyF cs.length vin.length vout.length its.length = false) (h2 : partsF cs vin its = 0) (h3 : namesOK [] (vnames cs vin its) = true) (h4 : foundF cs (onames vout) (vnames cs vin its) = true) (h5 : (lineF cs vin its).length = cs.length) : orderR cs vin vout its = (lineF cs vin its, 0) := by
  unfold orderR
  rw [if_neg (by simp [h1]), if_neg (by simp [h2]), if_neg (by simp [h3, h4]), if_neg (by omega)]
end Go.Proofs.YtmdpeckeliplkaaDoor

/- One more input, in pure words. -/
namespace Go.Proofs.YtmdpeckeliplkaaDoor
open Go.RowKit

theorem pos_app (a b : List ByteArray) (y : ByteArray) : pos (a ++ b) y = if pos a y < a.length then pos a y else pos b y + a.length := by
  unfold pos
  exact List.findIdx_append

theorem pos_one {x y : ByteArray} (h : y ≠ x) (b : List ByteArray) : pos ([x] ++ b) y = pos b y + 1 := by
  have e : (x.data.toList == y.data.toList) = false := by
    rw [beq_eq_false_iff_ne]
    exact fun e => h (bytes_eq e).symm
  rw [List.singleton_append]
  unfold pos
  rw [List.findIdx_cons, e]
  rfl

theorem pos_in {a : List ByteArray} {y : ByteArray} (h : y ∈ a) : pos a y < a.length := pos_lt (inL_iff.2 h)

theorem pos_more {a b : List ByteArray} {x y : ByteArray} (h : y ≠ x) : (pos (a ++ [x] ++ b) y = pos (a ++ b) y ∧ pos (a ++ b) y < a.length) ∨ pos (a ++ [x] ++ b) y = pos (a ++ b) y + 1 := by
  rw [List.append_assoc, pos_app a ([x] ++ b), pos_app a b, pos_one h]
  by_cases hp : pos a y < a.length
  · rw [if_pos hp, if_pos hp]
    exact Or.inl ⟨rfl, hp⟩
  · rw [if_neg hp, if_neg hp]
    right
    omega

theorem lnk_more {a b : List ByteArray} {x y : ByteArray} (h : y ≠ x) {k0 : Nat} (hk : a.length ≤ k0) (i : Nat) (p : List Int × List (List Int)) : lnk (a ++ [x] ++ b) (k0 + 1) i p y = lnk (a ++ b) k0 i p y := by
  unfold lnk
  rcases pos_more (a := a) (b := b) h with ⟨e, hl⟩ | e
  · rw [if_neg (by omega), if_neg (by omega)]
  · rw [e]
    by_cases hp : k0 ≤ pos (a ++ b) y
    · rw [if_pos hp, if_pos (by omega), show pos (a ++ b) y + 1 - (k0 + 1) = pos (a ++ b) y - k0 by omega]
    · rw [if_neg hp, if_neg (by omega)]

theorem row_more {a b : List ByteArray} {x : ByteArray} {k0 : Nat} (hk : a.length ≤ k0) (i : Nat) : ∀ {ys : List ByteArray} (p : List Int × List (List Int)), x ∉ ys → lnkRow (a ++ [x] ++ b) (k0 + 1) i p ys = lnkRow (a ++ b) k0 i p ys
  | [], _, _ => rfl
  | y :: ys, p, h => by
    have hy : y ≠ x := fun e => h (by simp [e])
    show lnkRow _ _ _ (lnk _ _ _ p y) ys = lnkRow _ _ _ (lnk _ _ _ p y) ys
    rw [lnk_more hy hk, row_more hk i _ (fun e => h (by simp [e]))]

theorem links_more {cs : List Nc} {a b : List ByteArray} {x : ByteArray} {k0 : Nat} (hk : a.length ≤ k0) (hx : ∀ c ∈ cs, x ∉ c.ins) : ∀ k, linksN cs (a ++ [x] ++ b) (k0 + 1) k = linksN cs (a ++ b) k0 k
  | 0 => rfl
  | k + 1 => by
    rw [linksN, linksN, links_more hk hx k]
    refine row_more hk k _ ?_
    cases hc : cs[k]? with
    | none => simp
    | some c => simpa using hx c (List.mem_of_getElem? hc)

theorem more_order {cs : List Nc} {vin vout : List (Val × List Int)} {its : List (Nam × List Int × List Int)} {v : Val} {ds : List Int} (h0 : (orderR cs vin vout its).2 = 0) (hx : v.name ∉ allN cs vin vout its) (hn : v.name.toList ≠ []) (ht : chk v.ty 0 = true) (hc : cntE ds = 0) (hm : vin.length + its.length + cs.length < 3000) :
    orderR cs (vin ++ [(v, ds)]) vout its = orderR cs vin vout its := by
  obtain ⟨m1, m2, m3, m4, m5⟩ := orderR_iff.1 h0
  have hr : orderR cs vin vout its = (lineF cs vin its, 0) := orderR_of m1 m2 m3 m4 m5
  have xi : v.name ∉ (vin.map (·.1)).map (·.name) := fun h => hx (by unfold allN; simp only [List.mem_append]; exact Or.inl (Or.inl (Or.inl h)))
  have xt : v.name ∉ (its.map (·.1)).map (·.name) := fun h => hx (by unfold allN; simp only [List.mem_append]; exact Or.inl (Or.inr h))
  have xn : v.name ∉ (cs.map (·.n)).map (·.out) := fun h => hx (by
    unfold allN
    simp only [List.mem_append]
    refine Or.inr ?_
    rw [List.map_map] at h
    obtain ⟨c, hc, e⟩ := List.mem_map.1 h
    exact List.mem_flatMap.2 ⟨c, hc, by rw [← e]; simp⟩)
  have xs : ∀ c ∈ cs, v.name ∉ c.ins := fun c hc h => hx (by
    unfold allN
    simp only [List.mem_append]
    exact Or.inr (List.mem_flatMap.2 ⟨c, hc, by simp [h]⟩))
  have ev : vnames cs vin its = (vin.map (·.1)).map (·.name) ++ ((its.map (·.1)).map (·.name) ++ (cs.map (·.n)).map (·.out)) := by unfold vnames; rw [List.append_assoc]
  have ev' : vnames cs (vin ++ [(v, ds)]) its = (vin.map (·.1)).map (·.name) ++ [v.name] ++ ((its.map (·.1)).map (·.name) ++ (cs.map (·.n)).map (·.out)) := by unfold vnames; simp only [List.map_append, List.map_cons, List.map_nil, List.append_assoc]
  have hp : List.Perm (vnames cs (vin ++ [(v, ds)]) its) (v.name :: vnames cs vin its) := by
    rw [ev, ev', List.append_assoc, List.singleton_append]
    exact List.perm_middle
  have hmem : ∀ y, y ∈ vnames cs (vin ++ [(v, ds)]) its ↔ y = v.name ∨ y ∈ vnames cs vin its := fun y => by rw [hp.mem_iff, List.mem_cons]
  have xv : v.name ∉ vnames cs vin its := by
    rw [ev]
    simp only [List.mem_append]
    rintro (h | h | h)
    · exact xi h
    · exact xt h
    · exact xn h
  have hl : lineF cs (vin ++ [(v, ds)]) its = lineF cs vin its := by
    unfold lineF
    rw [ev', ev, List.length_append, List.length_singleton, show vin.length + 1 + its.length = vin.length + its.length + 1 by omega, links_more (by simp) xs]
  rw [hr, ← hl]
  rw [namesOK_nil] at m3
  rw [foundF_iff] at m4
  refine orderR_of ?_ ?_ ?_ ?_ (by rw [hl]; exact m5)
  · unfold manyF at m1 ⊢
    simp only [Bool.or_eq_false_iff, decide_eq_false_iff_not, List.length_append, List.length_singleton] at m1 ⊢
    omega
  · unfold partsF at m2 ⊢
    rw [firstE_zero] at m2 ⊢
    intro z hz
    simp only [List.map_append, List.map_cons, List.map_nil, List.mem_append, List.mem_singleton] at hz m2
    rcases hz with (hz | hz) | hz
    · exact m2 z (Or.inl hz)
    · rw [hz]
      unfold valE
      rw [if_pos ht]
      exact hc
    · exact m2 z (Or.inr hz)
  · rw [namesOK_nil]
    refine ⟨fun y hy => ?_, hp.nodup_iff.2 (List.nodup_cons.2 ⟨xv, m3.2⟩)⟩
    rcases (hmem y).1 hy with rfl | hy
    · exact hn
    · exact m3.1 y hy
  · rw [foundF_iff]
    exact ⟨m4.1, m4.2.1, fun y hy => (hmem y).2 (Or.inr (m4.2.2.1 y hy)), fun c hc y hy => (hmem y).2 (Or.inr (m4.2.2.2 c hc y hy))⟩
end Go.Proofs.YtmdpeckeliplkaaDoor

/- Nodes that stand in their order, in pure words. -/
namespace Go.Proofs.YtmdpeckeliplkaaDoor
open Go.RowKit

theorem nodup_leG : ∀ {n : Nat} {L : List Int}, L.Nodup → (∀ z ∈ L, 0 ≤ z ∧ z < n) → L.length ≤ n
  | 0, [], _, _ => Nat.le_refl _
  | 0, x :: L, _, h => by have := h x (by simp); omega
  | n + 1, L, hd, h => by
    have ih := nodup_leG (n := n) (L := L.erase (n : Int)) (hd.erase _) (fun z hz => by
      have h1 := (List.Nodup.mem_erase_iff hd).1 hz
      have h2 := h z h1.2
      have h3 := h1.1
      omega)
    rw [List.length_erase] at ih
    split at ih <;> omega

theorem full_ofG {n : Nat} {L : List Int} (hd : L.Nodup) (hr : ∀ z ∈ L, 0 ≤ z ∧ z < n) (hl : L.length = n) {k : Nat} (hk : k < n) : (k : Int) ∈ L := by
  refine Classical.byContradiction fun hn => ?_
  have := nodup_leG (n := n) (L := (k : Int) :: L) (List.nodup_cons.2 ⟨hn, hd⟩) (fun z hz => by
    rcases List.mem_cons.1 hz with rfl | hz
    · omega
    · exact hr z hz)
  rw [List.length_cons] at this
  omega

/-- The numbers from i on, f of them. -/
def upF : Nat → Nat → List Int
  | _, 0 => []
  | i, f + 1 => (i : Int) :: upF (i + 1) f

theorem upF_len : ∀ i f, (upF i f).length = f
  | _, 0 => rfl
  | i, f + 1 => by rw [upF, List.length_cons, upF_len]

theorem upF_at : ∀ (i f k : Nat), k < f → (upF i f)[k]? = some ((i + k : Nat) : Int)
  | i, f + 1, 0, _ => by simp [upF]
  | i, f + 1, k + 1, h => by
    rw [upF, List.getElem?_cons_succ, upF_at (i + 1) f k (by omega)]
    congr 2
    omega

theorem upF_snoc : ∀ i f, upF i (f + 1) = upF i f ++ [((i + f : Nat) : Int)]
  | i, 0 => by simp [upF]
  | i, f + 1 => by
    rw [upF, upF_snoc (i + 1) f, upF, List.cons_append, show i + 1 + f = i + (f + 1) by omega]

theorem upF_mem {i f : Nat} {z : Int} : z ∈ upF i f ↔ (i : Int) ≤ z ∧ z < (i + f : Nat) := by
  induction f generalizing i with
  | zero => simp [upF]
  | succ f ih =>
    rw [upF, List.mem_cons, ih]
    omega

theorem owed_none {R : List (List Int)} {acc : List Int} {i : Int} : ∀ {m : Nat}, (∀ j : Nat, j < m → (j : Int) ∉ acc → i ∉ R.getD j []) → owed R acc i m = 0
  | 0, _ => rfl
  | m + 1, h => by
    rw [owed, owed_none (fun j hj => h j (by omega))]
    by_cases hm : (m : Int) ∈ acc
    · rw [if_pos hm]
    · rw [if_neg hm, List.count_eq_zero.2 (h m (by omega) hm)]

/-- An order whose nodes all stand behind those that they wait for. -/
theorem ordF_stands {n : Nat} {R : List (List Int)} (hR : ∀ k, k < n → ∀ z ∈ R.getD k [], 0 ≤ z ∧ z < n) (hS : ∀ j : Nat, j < n → ∀ z ∈ R.getD j [], (j : Int) < z) : ∀ (f i : Nat) {W : List Int}, i + f = n → Cons n R (upF 0 i) W → ordF f W R = upF i f
  | 0, i, W, _, _ => rfl
  | f + 1, i, W, hn, h => by
    have hi : i < n := by omega
    have hia : (i : Int) ∉ upF 0 i := fun e => by have := upF_mem.1 e; omega
    have h0 : W.getD i 0 = 0 := by
      rw [h.free i hi hia, owed_none (fun j hj hja hm => ?_)]
      · rfl
      · have := hS j hj _ hm
        exact hja (upF_mem.2 (by omega))
    have hlt : i < W.length := by rw [h.len]; exact hi
    have hf : W.findIdx? (fun z => z == 0) = some i := find_zero hlt h0 (fun j hj e => by
      have := h.gone j (by omega) (upF_mem.2 (by omega))
      omega)
    have st := h.step hR hi h0
    have hu : upF 0 i ++ [(i : Int)] = upF 0 (i + 1) := by rw [upF_snoc, Nat.zero_add]
    rw [hu] at st
    unfold ordF
    rw [hf]
    show (i : Int) :: ordF f (decAll (W.set i (-1)) (R.getD i [])) R = _
    rw [ordF_stands hR hS f (i + 1) (by omega) st, upF]

theorem lnk_only {l : List ByteArray} {k0 i : Nat} {p : List Int × List (List Int)} {x : ByteArray} {j : Nat} {z : Int} (hx : pos l x < k0 + p.2.length) (h : z ∈ (lnk l k0 i p x).2.getD j []) : z ∈ p.2.getD j [] ∨ (z = (i : Int) ∧ pos l x = k0 + j) := by
  unfold lnk at h
  split at h
  · rename_i hk
    rw [getD_set_list _ _ _ _ (by omega)] at h
    split at h
    · rename_i e
      rcases List.mem_append.1 h with h | h
      · rw [e] at h
        exact Or.inl h
      · exact Or.inr ⟨by simpa using h, by omega⟩
    · exact Or.inl h
  · exact Or.inl h

theorem lnk_len2 (l : List ByteArray) (k0 i : Nat) (p : List Int × List (List Int)) (x : ByteArray) : (lnk l k0 i p x).2.length = p.2.length := by
  unfold lnk
  split
  · simp
  · rfl

theorem row_only {l : List ByteArray} {k0 i n : Nat} {j : Nat} {z : Int} (hj : j < n) : ∀ {xs : List ByteArray} {p : List Int × List (List Int)}, p.2.length = n → (∀ x ∈ xs, pos l x < k0 + n) → z ∈ (lnkRow l k0 i p xs).2.getD j [] → z ∈ p.2.getD j [] ∨ (z = (i : Int) ∧ ∃ x ∈ xs, pos l x = k0 + j)
  | [], p, _, _, h => Or.inl h
  | x :: xs, p, hl, hx, h => by
    have h' : z ∈ (lnkRow l k0 i (lnk l k0 i p x) xs).2.getD j [] := h
    rcases row_only hj (by rw [lnk_len2]; exact hl) (fun y hy => hx y (by simp [hy])) h' with h1 | ⟨h1, y, hy, e⟩
    · rcases lnk_only (by rw [hl]; exact hx x (by simp)) h1 with h2 | ⟨h2, e⟩
      · exact Or.inl h2
      · exact Or.inr ⟨h2, x, by simp, e⟩
    · exact Or.inr ⟨h1, y, by simp [hy], e⟩

theorem row_len2 (l : List ByteArray) (k0 i : Nat) : ∀ (xs : List ByteArray) (p : List Int × List (List Int)), (lnkRow l k0 i p xs).2.length = p.2.length
  | [], _ => rfl
  | x :: xs, p => by
    show (lnkRow l k0 i (lnk l k0 i p x) xs).2.length = _
    rw [row_len2, lnk_len2]

theorem links_len2 (cs : List Nc) (l : List ByteArray) (k0 : Nat) : ∀ k, (linksN cs l k0 k).2.length = cs.length
  | 0 => by simp [linksN]
  | k + 1 => by rw [linksN, row_len2, links_len2]

/-- Who is told by a node reads its value. -/
theorem links_only {cs : List Nc} {l : List ByteArray} {k0 : Nat} (hin : ∀ c ∈ cs, ∀ x ∈ c.ins, pos l x < k0 + cs.length) {j : Nat} (hj : j < cs.length) {z : Int} : ∀ k, k ≤ cs.length → z ∈ (linksN cs l k0 k).2.getD j [] → ∃ (i : Nat) (hi : i < cs.length), z = (i : Int) ∧ ∃ x ∈ cs[i].ins, pos l x = k0 + j
  | 0, _, h => by
    rw [linksN] at h
    simp [List.getD, hj] at h
  | k + 1, hk, h => by
    rw [linksN, List.getElem?_eq_getElem (by omega)] at h
    rcases row_only hj (links_len2 cs l k0 k) (fun x hx => hin cs[k] (List.getElem_mem _) x hx) h with h1 | ⟨h1, x, hx, e⟩
    · exact links_only hin hj k (by omega) h1
    · exact ⟨k, by omega, h1, x, hx, e⟩

/-- Where the nodes stand behind all whose values they read, the order is as they stand. -/
theorem line_stands {cs : List Nc} {vin : List (Val × List Int)} {its : List (Nam × List Int × List Int)} (hlen : ∀ c ∈ cs, c.ins.length ≤ 1048576) (hin : ∀ c ∈ cs, ∀ x ∈ c.ins, x ∈ vnames cs vin its) (hS : ∀ (i j : Nat) (hi : i < cs.length), j < cs.length → (∃ x ∈ cs[i].ins, pos (vnames cs vin its) x = vin.length + its.length + j) → j < i) : lineF cs vin its = upF 0 cs.length := by
  have hin' : ∀ c ∈ cs, ∀ x ∈ c.ins, inL x (vnames cs vin its) = true := fun c hc x hx => inL_iff.2 (hin c hc x hx)
  have hp : ∀ c ∈ cs, ∀ x ∈ c.ins, pos (vnames cs vin its) x < vin.length + its.length + cs.length := fun c hc x hx => by have := pos_lt (hin' c hc x hx); rwa [vnames_len] at this
  have hlb := linksN_lb cs (vnames cs vin its) (vin.length + its.length) (vnames_len cs vin its) (fun c hc => ⟨hlen c hc, hin' c hc⟩) cs.length (Nat.le_refl _)
  have hev := Even.links hp cs.length (Nat.le_refl _)
  have hR : ∀ k, k < cs.length → ∀ z ∈ (linksN cs (vnames cs vin its) (vin.length + its.length) cs.length).2.getD k [], 0 ≤ z ∧ z < cs.length := fun k hk z hz => by
    rw [List.getD, List.getElem?_eq_getElem (by rw [hlb.l2]; exact hk)] at hz
    exact (hlb.b2 _ (List.getElem_mem _)).2 z hz
  have h0 : Cons cs.length (linksN cs (vnames cs vin its) (vin.length + its.length) cs.length).2 (upF 0 0) (linksN cs (vnames cs vin its) (vin.length + its.length) cs.length).1 :=
    ⟨hev.1, List.nodup_nil, (fun z hz => by cases hz), (fun i hi _ => hev.2.2 i hi), (fun i _ h => by cases h), (fun p z hz => by simp [upF] at hz)⟩
  unfold lineF
  refine ordF_stands hR (fun j hj z hz => ?_) cs.length 0 (by omega) h0
  obtain ⟨i, hi, rfl, hx⟩ := links_only hp hj cs.length (Nat.le_refl _) hz
  have := hS i j hi hj hx
  omega

/-- The nodes, put into an order. -/
def putN (cs : List Nc) (L : List Int) : List Nc := L.filterMap (fun z => cs[z.toNat]?)

theorem putN_at {cs : List Nc} : ∀ {L : List Int}, (∀ z ∈ L, 0 ≤ z ∧ z < cs.length) → ∀ k : Nat, (putN cs L)[k]? = (L[k]?).bind (fun z => cs[z.toNat]?)
  | [], _, k => by simp [putN]
  | z :: L, h, k => by
    have hz := h z (by simp)
    have e : cs[z.toNat]? = some (cs[z.toNat]'(by omega)) := List.getElem?_eq_getElem _
    have ih := putN_at (L := L) (fun y hy => h y (by simp [hy]))
    unfold putN at ih ⊢
    rw [List.filterMap_cons, e]
    cases k with
    | zero => simp [e]
    | succ k => simpa using ih k

theorem putN_len {cs : List Nc} : ∀ {L : List Int}, (∀ z ∈ L, 0 ≤ z ∧ z < cs.length) → (putN cs L).length = L.length
  | [], _ => rfl
  | z :: L, h => by
    have hz := h z (by simp)
    have e : cs[z.toNat]? = some (cs[z.toNat]'(by omega)) := List.getElem?_eq_getElem _
    have ih := putN_len (L := L) (fun y hy => h y (by simp [hy]))
    unfold putN at ih ⊢
    rw [List.filterMap_cons, e]
    simp [ih]

theorem putN_mem {cs : List Nc} {L : List Int} {c : Nc} (h : c ∈ putN cs L) : c ∈ cs := by
  unfold putN at h
  obtain ⟨z, -, e⟩ := List.mem_filterMap.1 h
  exact List.mem_of_getElem? e

theorem upF_put : ∀ (cs pre : List Nc), putN (pre ++ cs) (upF pre.length cs.length) = cs
  | [], pre => rfl
  | c :: cs, pre => by
    have ih := upF_put cs (pre ++ [c])
    rw [List.append_assoc, List.singleton_append, List.length_append, List.length_singleton] at ih
    rw [List.length_cons, upF]
    unfold putN at ih ⊢
    rw [List.filterMap_cons]
    simp [ih]

theorem putN_perm {cs : List Nc} {L : List Int} (hd : L.Nodup) (hr : ∀ z ∈ L, 0 ≤ z ∧ z < cs.length) (hl : L.length = cs.length) : List.Perm (putN cs L) cs := by
  have hu := upF_put cs []
  rw [List.nil_append, List.length_nil] at hu
  have hnd : (upF 0 cs.length).Nodup := by
    rw [List.nodup_iff_pairwise_ne, List.pairwise_iff_getElem]
    intro i j hi hj hij
    rw [upF_len] at hi hj
    have e1 := upF_at 0 cs.length i hi
    have e2 := upF_at 0 cs.length j hj
    rw [List.getElem?_eq_getElem (by rw [upF_len]; exact hi)] at e1
    rw [List.getElem?_eq_getElem (by rw [upF_len]; exact hj)] at e2
    rw [Option.some.inj e1, Option.some.inj e2]
    omega
  have hp : List.Perm L (upF 0 cs.length) := (List.perm_ext_iff_of_nodup hd hnd).2 fun z => by
    constructor
    · intro h
      have := hr z h
      exact upF_mem.2 (by omega)
    · intro h
      have h1 := upF_mem.1 h
      obtain ⟨q, rfl⟩ : ∃ q : Nat, z = (q : Int) := ⟨z.toNat, by omega⟩
      exact full_ofG hd hr hl (by omega)
  have h2 : List.Perm (putN cs L) (putN cs (upF 0 cs.length)) := hp.filterMap _
  rw [hu] at h2
  exact h2

theorem getElem?_nodup {L : List Int} (hd : L.Nodup) {p q : Nat} {z : Int} (hp : L[p]? = some z) (hq : L[q]? = some z) : p = q := by
  obtain ⟨h1, e1⟩ := List.getElem?_eq_some_iff.1 hp
  obtain ⟨h2, e2⟩ := List.getElem?_eq_some_iff.1 hq
  rw [List.nodup_iff_pairwise_ne, List.pairwise_iff_getElem] at hd
  rcases Nat.lt_trichotomy p q with h | h | h
  · exact absurd (e1.trans e2.symm) (hd p q h1 h2 h)
  · exact h
  · exact absurd (e2.trans e1.symm) (hd q p h2 h1 h)

theorem stands_order {cs : List Nc} {vin vout : List (Val × List Int)} {its : List (Nam × List Int × List Int)} (hlen : ∀ c ∈ cs, c.ins.length ≤ 1048576) (h0 : (orderR cs vin vout its).2 = 0) : (∀ z ∈ lineF cs vin its, 0 ≤ z ∧ z < cs.length) ∧ orderR (putN cs (lineF cs vin its)) vin vout its = (upF 0 cs.length, 0) := by
  obtain ⟨m1, m2, m3, m4, m5⟩ := orderR_iff.1 h0
  have m4' := foundF_iff.1 m4
  obtain ⟨hd, hr, hb⟩ := line_law (vin := vin) (its := its) hlen (fun c hc x hx => inL_iff.2 (m4'.2.2.2 c hc x hx))
  obtain ⟨L, hL⟩ : ∃ L, L = lineF cs vin its := ⟨_, rfl⟩
  rw [← hL] at hd hr hb m5 ⊢
  refine ⟨hr, ?_⟩
  have hp := putN_perm hd hr m5
  have hpl := putN_len (cs := cs) hr
  have hpa := putN_at (cs := cs) hr
  have hpo : List.Perm (((putN cs L).map (·.n)).map (·.out)) ((cs.map (·.n)).map (·.out)) := (hp.map _).map _
  have hpv : List.Perm (vnames (putN cs L) vin its) (vnames cs vin its) := by
    unfold vnames
    exact List.Perm.append_left _ hpo
  have hlv := vnames_len (putN cs L) vin its
  have hin : ∀ c ∈ putN cs L, ∀ x ∈ c.ins, x ∈ vnames (putN cs L) vin its := fun c hc x hx => hpv.mem_iff.2 (m4'.2.2.2 c (putN_mem hc) x hx)
  have hline : lineF (putN cs L) vin its = upF 0 (putN cs L).length := by
    refine line_stands (fun c hc => hlen c (putN_mem hc)) hin fun i j hi hj ⟨x, hx, e⟩ => ?_
    have hx1 := hin _ (List.getElem_mem hi) x hx
    have hx2 := pos_at (inL_iff.2 hx1)
    rw [e] at hx2
    have ej : (vnames (putN cs L) vin its)[vin.length + its.length + j]? = some (putN cs L)[j].n.out := by
      unfold vnames
      rw [List.getElem?_append_right (by simp)]
      simp [hj]
    have hxo : (putN cs L)[j].n.out = x := Option.some.inj (ej.symm.trans hx2)
    have aj := hpa j
    have ai := hpa i
    rw [List.getElem?_eq_getElem hj] at aj
    rw [List.getElem?_eq_getElem hi] at ai
    have hjL : j < L.length := by omega
    have hiL : i < L.length := by omega
    rw [List.getElem?_eq_getElem hjL] at aj
    rw [List.getElem?_eq_getElem hiL] at ai
    have rj := hr L[j] (List.getElem_mem hjL)
    have ri := hr L[i] (List.getElem_mem hiL)
    have zj : L[j].toNat < cs.length := by omega
    have zi : L[i].toNat < cs.length := by omega
    simp only [Option.bind_some, List.getElem?_eq_getElem zj] at aj
    simp only [Option.bind_some, List.getElem?_eq_getElem zi] at ai
    have aj' := Option.some.inj aj
    have ai' := Option.some.inj ai
    have hpo' := pos_out m3 zj
    rw [← aj', hxo] at hpo'
    have hm := hb i L[i].toNat L[j].toNat zi (by rw [List.getElem?_eq_getElem hiL]; congr 1; omega) zj ⟨x, by rw [← ai']; exact hx, hpo'⟩
    obtain ⟨q, hq, eq⟩ := List.mem_take_iff_getElem.1 hm
    have hqj : q = j := getElem?_nodup hd (z := L[j]) (by rw [List.getElem?_eq_getElem (by omega), eq]; congr 1; omega) (List.getElem?_eq_getElem hjL)
    omega
  rw [hpl, m5] at hline
  have hcl : (putN cs L).length = cs.length := by rw [hpl, m5]
  have h5 : (lineF (putN cs L) vin its).length = (putN cs L).length := by rw [hline, upF_len, hcl]
  rw [orderR_of (by rw [hcl]; exact m1) ?_ ?_ ?_ h5, hline]
  · unfold partsF at m2 ⊢
    rw [firstE_zero] at m2 ⊢
    intro z hz
    simp only [List.mem_append] at hz m2
    rcases hz with hz | hz | hz
    · exact m2 z (Or.inl hz)
    · exact m2 z (Or.inr (Or.inl hz))
    · obtain ⟨c, hc, rfl⟩ := List.mem_map.1 hz
      exact m2 _ (Or.inr (Or.inr (List.mem_map_of_mem (putN_mem hc))))
  · rw [namesOK_nil] at m3 ⊢
    exact ⟨fun y hy => m3.1 y (hpv.mem_iff.1 hy), hpv.nodup_iff.2 m3.2⟩
  · rw [foundF_iff]
    exact ⟨m4'.1, m4'.2.1, fun y hy => hpv.mem_iff.2 (m4'.2.2.1 y hy), hin⟩
end Go.Proofs.YtmdpeckeliplkaaDoor

/- The document's order of work, in pure words: it is the program's. -/
namespace Go.Proofs.YtmdpeckeliplkaaDoor
open Go.RowKit

/-- The names of what the nodes make. -/
def outsW (cs : List Nc) : List ByteArray := (cs.map (·.n)).map (·.out)

theorem outsW_len (cs : List Nc) : (outsW cs).length = cs.length := by simp [outsW]

/-- The node that makes a value, or -1. -/
def mkN (cs : List Nc) (x : ByteArray) : Int := if pos (outsW cs) x < cs.length then (pos (outsW cs) x : Int) else -1

/-- Is a node ready, when so many are done? -/
def readyF (cs : List Nc) (acc : List Int) (i : Nat) : Bool := !(decide ((i : Int) ∈ acc)) && ((cs[i]?.map (·.ins)).getD []).all (fun x => decide (mkN cs x < 0) || decide (mkN cs x ∈ acc))

/-- The least number that is so, among the last d of n; -1: none. -/
def lowF (p : Nat → Bool) (n : Nat) : Nat → Int
  | 0 => -1
  | d + 1 => if p (n - (d + 1)) = true then ((n - (d + 1) : Nat) : Int) else lowF p n d

theorem lowF_spec (p : Nat → Bool) (n : Nat) : ∀ d, d ≤ n → (lowF p n d = -1 ∧ ∀ i, n - d ≤ i → i < n → p i = false) ∨ ∃ k : Nat, lowF p n d = (k : Int) ∧ n - d ≤ k ∧ k < n ∧ p k = true ∧ ∀ i, n - d ≤ i → i < k → p i = false
  | 0, _ => Or.inl ⟨rfl, fun i h1 h2 => by omega⟩
  | d + 1, hd => by
    rw [lowF]
    by_cases hp : p (n - (d + 1)) = true
    · rw [if_pos hp]
      exact Or.inr ⟨n - (d + 1), rfl, Nat.le_refl _, by omega, hp, fun i h1 h2 => by omega⟩
    · rw [if_neg hp]
      have hp' : p (n - (d + 1)) = false := by simpa using hp
      rcases lowF_spec p n d (by omega) with ⟨h1, h2⟩ | ⟨k, h1, h2, h3, h4, h5⟩
      · refine Or.inl ⟨h1, fun i hi1 hi2 => ?_⟩
        by_cases e : i = n - (d + 1)
        · rw [e]; exact hp'
        · exact h2 i (by omega) hi2
      · refine Or.inr ⟨k, h1, by omega, h3, h4, fun i hi1 hi2 => ?_⟩
        by_cases e : i = n - (d + 1)
        · rw [e]; exact hp'
        · exact h5 i (by omega) hi2

/-- The order of work, as far as it goes. -/
def workF (cs : List Nc) : Nat → List Int → List Int
  | 0, acc => acc
  | f + 1, acc => if lowF (readyF cs acc) cs.length cs.length < 0 then acc else workF cs f (acc ++ [lowF (readyF cs acc) cs.length cs.length])

theorem lowF_zero {W : List Int} {n : Nat} {p : Nat → Bool} (hl : W.length = n) (h : ∀ i : Nat, i < n → (p i = true ↔ W.getD i 0 = 0)) : (W.findIdx? (fun z => z == 0) = none ∧ lowF p n n = -1) ∨ ∃ k : Nat, k < n ∧ W.findIdx? (fun z => z == 0) = some k ∧ lowF p n n = (k : Int) ∧ W.getD k 0 = 0 := by
  rcases lowF_spec p n n (Nat.le_refl _) with ⟨h1, h2⟩ | ⟨k, h1, h2, h3, h4, h5⟩
  · refine Or.inl ⟨find_no_zero (fun j hj e => ?_), h1⟩
    have := h2 j (by omega) (by omega)
    rw [(h j (by omega)).2 e] at this
    simp at this
  · refine Or.inr ⟨k, h3, find_zero (by omega) ((h k h3).1 h4) (fun j hj e => ?_), h1, (h k h3).1 h4⟩
    have := h5 j (by omega) hj
    rw [(h j (by omega)).2 e] at this
    simp at this

theorem work_ord {cs : List Nc} {R : List (List Int)} (hR : ∀ k, k < cs.length → ∀ z ∈ R.getD k [], 0 ≤ z ∧ z < cs.length) (hw : ∀ {acc W : List Int}, Cons cs.length R acc W → ∀ i : Nat, i < cs.length → (readyF cs acc i = true ↔ W.getD i 0 = 0)) : ∀ (f : Nat) {acc W : List Int}, f + acc.length = cs.length → Cons cs.length R acc W → workF cs (f + 1) acc = acc ++ ordF f W R
  | 0, acc, W, hf, h => by
    rw [ordF, List.append_nil, workF]
    rcases lowF_zero h.len (hw h) with ⟨-, e⟩ | ⟨k, hk, -, e, h0⟩
    · rw [if_pos (by rw [e]; decide)]
    · have := full_ofG h.once h.inr (by omega) hk
      have := h.gone k hk this
      omega
  | f + 1, acc, W, hf, h => by
    rw [workF]
    unfold ordF
    rcases lowF_zero h.len (hw h) with ⟨e1, e⟩ | ⟨k, hk, e1, e, h0⟩
    · rw [if_pos (by rw [e]; decide), e1, List.append_nil]
    · rw [if_neg (by rw [e]; omega), e1, e]
      have st := h.step hR hk h0
      rw [work_ord hR hw f (by rw [List.length_append, List.length_singleton]; omega) st, List.append_assoc]
      rfl

theorem mk_pos {cs : List Nc} {vin : List (Val × List Int)} {its : List (Nam × List Int × List Int)} (hn : namesOK [] (vnames cs vin its) = true) {x : ByteArray} (hx : x ∈ vnames cs vin its) : (mkN cs x = -1 ∧ pos (vnames cs vin its) x < vin.length + its.length) ∨ (mkN cs x = ((pos (vnames cs vin its) x - (vin.length + its.length) : Nat) : Int) ∧ vin.length + its.length ≤ pos (vnames cs vin its) x) := by
  obtain ⟨A, hA⟩ : ∃ A, A = (vin.map (·.1)).map (·.name) ++ (its.map (·.1)).map (·.name) := ⟨_, rfl⟩
  have hAl : A.length = vin.length + its.length := by rw [hA]; simp
  have ev : vnames cs vin its = A ++ outsW cs := by rw [hA]; rfl
  rw [ev] at hx hn ⊢
  rw [pos_app, ← hAl]
  have hd := (namesOK_nil.1 hn).2
  rw [List.nodup_append] at hd
  by_cases hp : pos A x < A.length
  · rw [if_pos hp]
    refine Or.inl ⟨?_, hp⟩
    have hxa : x ∈ A := by
      have h1 : A.findIdx (fun y => y.data.toList == x.data.toList) < A.length := hp
      have h2 := List.findIdx_getElem (w := h1)
      have h3 : A[A.findIdx (fun y => y.data.toList == x.data.toList)] = x := bytes_eq (by simpa using h2)
      rw [← h3]
      exact List.getElem_mem h1
    unfold mkN
    rw [if_neg]
    intro hlt
    have h1 : (outsW cs).findIdx (fun y => y.data.toList == x.data.toList) < (outsW cs).length := by rw [outsW_len]; exact hlt
    have h2 := List.findIdx_getElem (w := h1)
    have h3 : (outsW cs)[(outsW cs).findIdx (fun y => y.data.toList == x.data.toList)] = x := bytes_eq (by simpa using h2)
    exact hd.2.2 x hxa _ (List.getElem_mem h1) h3.symm
  · rw [if_neg hp]
    refine Or.inr ⟨?_, by omega⟩
    have hxb : x ∈ outsW cs := by
      rcases List.mem_append.1 hx with h | h
      · exact absurd (pos_in h) hp
      · exact h
    have hlt := pos_in hxb
    rw [outsW_len] at hlt
    unfold mkN
    rw [if_pos hlt, show pos (outsW cs) x + A.length - A.length = pos (outsW cs) x by omega]

/-- The document's order is the program's. -/
theorem work_line {cs : List Nc} {vin : List (Val × List Int)} {its : List (Nam × List Int × List Int)} (hlen : ∀ c ∈ cs, c.ins.length ≤ 1048576) (hn : namesOK [] (vnames cs vin its) = true) (hin : ∀ c ∈ cs, ∀ x ∈ c.ins, x ∈ vnames cs vin its) : workF cs (cs.length + 1) [] = lineF cs vin its := by
  have hin' : ∀ c ∈ cs, ∀ x ∈ c.ins, inL x (vnames cs vin its) = true := fun c hc x hx => inL_iff.2 (hin c hc x hx)
  have hp : ∀ c ∈ cs, ∀ x ∈ c.ins, pos (vnames cs vin its) x < vin.length + its.length + cs.length := fun c hc x hx => by have := pos_lt (hin' c hc x hx); rwa [vnames_len] at this
  have hlb := linksN_lb cs (vnames cs vin its) (vin.length + its.length) (vnames_len cs vin its) (fun c hc => ⟨hlen c hc, hin' c hc⟩) cs.length (Nat.le_refl _)
  have hev := Even.links hp cs.length (Nat.le_refl _)
  have hR : ∀ k, k < cs.length → ∀ z ∈ (linksN cs (vnames cs vin its) (vin.length + its.length) cs.length).2.getD k [], 0 ≤ z ∧ z < cs.length := fun k hk z hz => by
    rw [List.getD, List.getElem?_eq_getElem (by rw [hlb.l2]; exact hk)] at hz
    exact (hlb.b2 _ (List.getElem_mem _)).2 z hz
  have h0 : Cons cs.length (linksN cs (vnames cs vin its) (vin.length + its.length) cs.length).2 [] (linksN cs (vnames cs vin its) (vin.length + its.length) cs.length).1 :=
    ⟨hev.1, List.nodup_nil, (fun z hz => by cases hz), (fun i hi _ => hev.2.2 i hi), (fun i _ h => by cases h), (fun p z hz => by simp at hz)⟩
  have hw : ∀ {acc W : List Int}, Cons cs.length (linksN cs (vnames cs vin its) (vin.length + its.length) cs.length).2 acc W → ∀ i : Nat, i < cs.length → (readyF cs acc i = true ↔ W.getD i 0 = 0) := by
    intro acc W hc i hi
    unfold readyF
    rw [List.getElem?_eq_getElem hi, Option.map_some, Option.getD_some, Bool.and_eq_true, List.all_eq_true]
    by_cases hia : (i : Int) ∈ acc
    · have := hc.gone i hi hia
      constructor
      · intro h
        simp [hia] at h
      · intro h
        omega
    · rw [hc.free i hi hia]
      constructor
      · rintro ⟨-, h⟩
        have e : owed (linksN cs (vnames cs vin its) (vin.length + its.length) cs.length).2 acc (i : Int) cs.length = 0 := owed_none fun j hj hja hm => by
          obtain ⟨i', hi', e1, x, hx, e2⟩ := links_only hp hj cs.length (Nat.le_refl _) hm
          obtain rfl : i = i' := by omega
          have hh := h x hx
          rcases mk_pos hn (hin _ (List.getElem_mem hi) x hx) with ⟨m1, m2⟩ | ⟨m1, m2⟩
          · omega
          · rw [m1, Bool.or_eq_true, decide_eq_true_eq, decide_eq_true_eq] at hh
            rcases hh with hh | hh
            · omega
            · rw [show pos (vnames cs vin its) x - (vin.length + its.length) = j by omega] at hh
              exact hja hh
        omega
      · intro h
        have hz : owed (linksN cs (vnames cs vin its) (vin.length + its.length) cs.length).2 acc (i : Int) cs.length = 0 := by omega
        refine ⟨by simp [hia], fun x hx => ?_⟩
        rw [Bool.or_eq_true, decide_eq_true_eq, decide_eq_true_eq]
        rcases mk_pos hn (hin _ (List.getElem_mem hi) x hx) with ⟨m1, m2⟩ | ⟨m1, m2⟩
        · left
          omega
        · right
          rw [m1]
          have hpx := hp _ (List.getElem_mem hi) x hx
          refine Classical.byContradiction fun hja => ?_
          exact owed_zero hz (pos (vnames cs vin its) x - (vin.length + its.length)) (by omega) hja (links_tell hp hi (by omega) ⟨x, hx, by omega⟩ cs.length hi (Nat.le_refl _))
  unfold lineF
  have := work_ord hR hw cs.length (acc := []) (by simp) h0
  rw [this, List.nil_append]
end Go.Proofs.YtmdpeckeliplkaaDoor

/- The document's maker, by the walk. -/
namespace Go.Proofs.YtmdpeckeliplkaaDoor
open Go.RowKit

theorem pos_step {l : List ByteArray} {x Y : ByteArray} {k : Nat} (hk : k ≤ pos l x) (hY : l[k]? = some Y) : ((Y.toList == x.toList) = true → pos l x = k) ∧ ((Y.toList == x.toList) = false → k + 1 ≤ pos l x) := by
  obtain ⟨hl, eY⟩ := List.getElem?_eq_some_iff.1 hY
  have he : (Y.data.toList == x.data.toList) = (Y.toList == x.toList) := by rw [bytes_toList, bytes_toList]
  unfold pos at hk ⊢
  constructor
  · intro h
    refine Classical.byContradiction fun hne => ?_
    have := List.not_of_lt_findIdx (p := fun y => y.data.toList == x.data.toList) (xs := l) (i := k) (by omega)
    rw [eY, he, h] at this
    simp at this
  · intro h
    refine Classical.byContradiction fun hne => ?_
    have e : l.findIdx (fun y => y.data.toList == x.data.toList) = k := by omega
    have h2 := List.findIdx_getElem (p := fun y : ByteArray => y.data.toList == x.data.toList) (xs := l) (w := by rw [e]; exact hl)
    simp only [e, eY, he, h] at h2
    exact absurd h2 (by simp)

set_option maxRecDepth 100000 in
set_option maxHeartbeats 3200000 in
theorem maker_any (g : Gra) (cs : List Nc) (x : ByteArray) (w : World) (h1 : IsNods w g.nv.v (cs.map (·.n))) :
    Calls Tryd.prog 51 #[gval g, .string x] w fun e w' => e = .returned (.int .i64 (mkN cs x)) ∧ w.grownBy w' none := by
  obtain ⟨nam, ⟨na0, nn0, nc0⟩, ⟨ia, iN, ic⟩, ⟨oa, oN, oc⟩, ⟨ta, tN, tc⟩⟩ := g
  have H1 := hide h1
  obtain ⟨xa, xc, e1, p1, p2, p3⟩ := h1.form
  rw [List.length_map] at e1 p1 p3
  obtain ⟨rfl, rfl, rfl⟩ : na0 = xa ∧ nn0 = cs.length ∧ nc0 = xc := by simpa [Sl.v] using e1
  clear h1 e1
  unfold gval
  simp only
  obtain ⟨w0, hw0⟩ : ∃ w0, w0 = w.alloc (.cells #[.string nam, .slice na0 cs.length nc0, .slice ia iN ic, .slice oa oN oc, .slice ta tN tc] 26) := ⟨_, rfl⟩
  have g0 : w.grownBy w0 none := by rw [hw0]; exact grown_new _ _
  have b0 := heap_alloc_new w (.cells #[.string nam, .slice na0 cs.length nc0, .slice ia iN ic, .slice oa oN oc, .slice ta tN tc] 26)
  rw [← hw0] at b0
  have BX : Hid (∀ wx, w0.grownBy wx none → wx.heap[w.heap.size]? = some (.cells #[.string nam, .slice na0 cs.length nc0, .slice ia iN ic, .slice oa oN oc, .slice ta tN tc] 26 (0, 0))) := fun wx hx => box_kept b0 hx
  clear b0
  go_enter Tryd.func51, Tryd.ntmps51
  go_wp2_with fail
  rw [← hw0]
  clear hw0
  go_loopw [5] (fun i wr => w0.grownBy wr none ∧ ∃ k : Nat, k ≤ cs.length ∧ i = .int .i64 k ∧ k ≤ pos (outsW cs) x) (fun i _ => cs.length - (intOf i).toNat)
  case atStart => exact ⟨grown_refl _, 0, Nat.zero_le _, rfl, Nat.zero_le _⟩
  case round =>
    obtain ⟨hgr, k, hk, rfl, hp⟩ := hrel
    have HP := hide hp
    clear hp
    obtain ⟨r0, r1, r2, r3, r4⟩ := gra_cells (g := ⟨nam, ⟨na0, cs.length, nc0⟩, ⟨ia, iN, ic⟩, ⟨oa, oN, oc⟩, ⟨ta, tN, tc⟩⟩) (BX.out wr hgr)
    simp only at r1
    clear r0 r2 r3 r4
    by_cases hlt : k < cs.length
    · have hlt' : k < (cs.map (·.n)).length := by rw [List.length_map]; exact hlt
      have HLk := H1.out.more (grown_trans g0 hgr)
      obtain ⟨b, off, rfl⟩ := HLk.addr hlt'
      have a3 := (HLk.nod k hlt').2.2.2.1
      rw [List.getElem_map] at a3
      have HK : Hid ((outsW cs)[k]? = some cs[k].n.out) := by show _ = _; unfold outsW; rw [List.getElem?_map, List.getElem?_map, List.getElem?_eq_getElem hlt]; rfl
      obtain ⟨Y, hY⟩ : ∃ Y, Y = cs[k].n.out := ⟨_, rfl⟩
      rw [← hY] at a3 HK
      clear HLk hY
      by_cases h : (Y.toList == x.toList) = true
      · have E : Hid (mkN cs x = (k : Int)) := by
          show _ = _
          unfold mkN
          rw [(pos_step HP.out HK.out).1 h, if_pos hlt]
        go_wp2
        go_ret
        exact ⟨by rw [E.out]; rfl, grown_trans g0 hgr⟩
      · have h' : (Y.toList == x.toList) = false := by simpa using h
        have HN : Hid (k + 1 ≤ pos (outsW cs) x) := (pos_step HP.out HK.out).2 h'
        clear h
        go_wp2_with fail
        go_roundw
        case rel => exact ⟨hgr, k + 1, by omega, by go_num, HN.out⟩
        case measure => simp [intOf]; omega
    · have E : Hid (mkN cs x = -1) := by
        show _ = _
        unfold mkN
        rw [if_neg (by have := HP.out; omega)]
      go_wp2
      go_ret
      exact ⟨by rw [E.out]; rfl, grown_trans g0 hgr⟩
end Go.Proofs.YtmdpeckeliplkaaDoor

/- The document's order of work, by the walk. -/
namespace Go.Proofs.YtmdpeckeliplkaaDoor
open Go.RowKit

/-- Which nodes are done, as a list. -/
def doneL (n : Nat) (acc : List Int) : List Bool := (List.range n).map (fun (i : Nat) => decide ((i : Int) ∈ acc))

theorem doneL_len (n : Nat) (acc : List Int) : (doneL n acc).length = n := by simp [doneL]

theorem doneL_at {n : Nat} {acc : List Int} {i : Nat} (hi : i < n) : (doneL n acc)[i]? = some (decide ((i : Int) ∈ acc)) := by simp [doneL, hi]

theorem doneL_set {n : Nat} {acc : List Int} {k : Nat} : (doneL n acc).set k true = doneL n (acc ++ [(k : Int)]) := by
  refine List.ext_getElem? fun i => ?_
  rw [List.getElem?_set]
  by_cases hi : i < n
  · by_cases e : k = i
    · subst e
      rw [if_pos rfl, doneL_len, if_pos hi, doneL_at hi]
      simp
    · rw [if_neg e, doneL_at hi, doneL_at hi]
      have : (i : Int) ≠ (k : Int) := fun h => e (by omega)
      simp [this]
  · rw [List.getElem?_eq_none (l := doneL n acc) (by rw [doneL_len]; omega), List.getElem?_eq_none (l := doneL n (acc ++ [(k : Int)])) (by rw [doneL_len]; omega)]
    split
    · rw [if_neg (by rw [doneL_len]; omega)]
    · rfl

theorem OwnBl.kept {w w' : World} {base B : Nat} {bs : List Bool} (h : OwnBl w base B bs) (hk : w'.heap[B]? = w.heap[B]?) : OwnBl w' base B bs := by
  have o : OwnsL 4 1 (fun b : Bool => [Value.bool b]) w base (.slice (some ⟨B, 0, none⟩) bs.length bs.length) bs := by
    unfold OwnsL
    rw [flat_bools]
    exact h
  have o2 := owns_block (w' := w') o (fun b e => by
    have e2 : B = b := by simpa [Value.ownBlock] using e
    rw [← e2]
    exact hk)
  unfold OwnsL at o2
  rw [flat_bools] at o2
  exact o2

theorem nodup_snoc {acc : List Int} (h : acc.Nodup) {z : Int} (hz : z ∉ acc) : (acc ++ [z]).Nodup := by
  rw [List.nodup_append]
  refine ⟨h, by simp, fun a ha b hb => ?_⟩
  have e : b = z := by simpa using hb
  rw [e]
  exact fun e2 => hz (e2 ▸ ha)

/-- Where the document's order stands. -/
structure WInv (cs : List Nc) (w1 : World) (B : Nat) (wr : World) (l : Value) (acc : List Int) : Prop where
  done : OwnBl wr w1.heap.size B (doneL cs.length acc)
  out : Owns wr w1.heap.size l acc
  ne : l.ownBlock ≠ some B
  once : acc.Nodup
  inr : ∀ z ∈ acc, 0 ≤ z ∧ z < cs.length
  eq : workF cs (cs.length + 1) [] = workF cs (cs.length + 1 - acc.length) acc
  grown : w1.grownBy wr none

set_option maxRecDepth 100000 in
set_option maxHeartbeats 6400000 in
theorem work_any (g : Gra) (cs : List Nc) (w : World) (h1 : IsNods w g.nv.v (cs.map (·.n))) (hf : cs.length ≤ 1048576) (hin : ∀ c ∈ cs, IsStrs w c.n.iv.v c.ins) :
    Calls Tryd.prog 37 #[gval g] w fun e w' => ∃ u : Sl, e = .returned u.v ∧ Owns w' w.heap.size u.v (workF cs (cs.length + 1) []) ∧ w.grownBy w' none := by
  obtain ⟨i0, hi, hz0, hz1, hz2⟩ := info_parts infoInt
  obtain ⟨j0, hj, jz0, jz1, jz2⟩ := info_parts infoBool
  have MK := hide (fun (x : ByteArray) (wx : World) (hx : w.grownBy wx none) => maker_any g cs x wx (h1.more hx))
  obtain ⟨nam, ⟨na0, nn0, nc0⟩, ⟨ia, iN, ic⟩, ⟨oa, oN, oc⟩, ⟨ta, tN, tc⟩⟩ := g
  have H1 := hide h1
  have HIN := hide hin
  obtain ⟨xa, xc, e1, p1, p2, p3⟩ := h1.form
  rw [List.length_map] at e1 p1 p3
  obtain ⟨rfl, rfl, rfl⟩ : na0 = xa ∧ nn0 = cs.length ∧ nc0 = xc := by simpa [Sl.v] using e1
  clear h1 e1 hin
  unfold gval at MK ⊢
  simp only at MK ⊢
  obtain ⟨w0, hw0⟩ : ∃ w0, w0 = w.alloc (.cells #[.string nam, .slice na0 cs.length nc0, .slice ia iN ic, .slice oa oN oc, .slice ta tN tc] 26) := ⟨_, rfl⟩
  have g0 : w.grownBy w0 none := by rw [hw0]; exact grown_new _ _
  have b0 := heap_alloc_new w (.cells #[.string nam, .slice na0 cs.length nc0, .slice ia iN ic, .slice oa oN oc, .slice ta tN tc] 26)
  rw [← hw0] at b0
  have BX : Hid (∀ wx, w0.grownBy wx none → wx.heap[w.heap.size]? = some (.cells #[.string nam, .slice na0 cs.length nc0, .slice ia iN ic, .slice oa oN oc, .slice ta tN tc] 26 (0, 0))) := fun wx hx => box_kept b0 hx
  clear b0
  obtain ⟨r0, r1, r2, r3, r4⟩ := gra_cells (g := ⟨nam, ⟨na0, cs.length, nc0⟩, ⟨ia, iN, ic⟩, ⟨oa, oN, oc⟩, ⟨ta, tN, tc⟩⟩) (BX.out w0 (grown_refl _))
  rw [hw0] at r1
  clear r0 r2 r3 r4
  simp only at r1
  obtain ⟨M1, hM1⟩ : ∃ M, M = madeCells (Value.bool false).cells (((cs.length : Nat) : Int).toNat * j0.size) := ⟨_, rfl⟩
  have E1 : Hid (M1.toList = List.replicate cs.length (.bool false)) := by show _ = _; rw [hM1, jz1, Nat.mul_one, show (Value.bool false).cells = #[Value.bool false] from rfl, toList_madeCells_one]; simp
  have mk1 : ∀ W : World, (Instr.makeSlice 35 (.int .i64 (cs.length : Int)) (.int .i64 (cs.length : Int))).run Tryd.prog W = .ok (.slice (some ⟨W.heap.size, 0, none⟩) cs.length cs.length) (W.alloc (.cells M1 4)) := fun W => by
    have h := Go.run_make (P := Tryd.prog) W 35 4 j0 (.bool false) Tryd.underlying35 hj jz0 .i64 .i64 (cs.length : Int) (cs.length : Int) (by omega) (by omega) (by rw [jz2]; omega) (by omega)
    rw [← hM1] at h
    simpa using h
  clear hM1
  obtain ⟨w2, hw2⟩ : ∃ w2, w2 = w0.alloc (.cells M1 4) := ⟨_, rfl⟩
  have g02 : w0.grownBy w2 none := by rw [hw2]; exact grown_new _ _
  have b2 := heap_alloc_new w0 (.cells M1 4)
  rw [← hw2] at b2
  have hs0 : w0.heap.size = w.heap.size + 1 := by rw [hw0]; simp
  have D0 : Hid (OwnBl w2 w0.heap.size (w.heap.size + 1) (doneL cs.length [])) := by
    show OwnBl _ _ _ _
    rw [← hs0]
    unfold OwnBl
    rw [doneL_len]
    have hd : (doneL cs.length []).map Value.bool = List.replicate cs.length (.bool false) := by
      refine List.ext_getElem? fun i => ?_
      rw [List.getElem?_map]
      by_cases hi : i < cs.length
      · rw [doneL_at hi]; simp [hi]
      · rw [List.getElem?_eq_none (by rw [doneL_len]; omega), List.getElem?_eq_none (by simp; omega)]; rfl
    rw [hd]
    refine ⟨by simp, Or.inr ⟨w0.heap.size, cs.length, M1, rfl, Nat.le_refl _, b2, Nat.le_refl _, by simp only [maxLen]; omega, ?_, ?_⟩⟩
    · rw [← Array.length_toList, E1.out, List.length_replicate, Nat.mul_one]
    · rw [E1.out, List.take_of_length_le (by simp)]
  have S0 : Hid (w0.heap.size < w2.heap.size) := by show _ < _; rw [hw2]; simp
  go_enter Tryd.func37, Tryd.ntmps37
  go_wp2_with fail
  rw [← hw0, ← hw2]
  have HS0 := hide hs0
  clear hw0 hw2 r1 b2 mk1 hs0
  go_loopw [3] (fun l wr => ∃ (acc : List Int) (va : Option Addr) (vc : Nat), l = .slice va acc.length vc ∧ WInv cs w0 (w.heap.size + 1) wr (.slice va acc.length vc) acc) (fun l _ => cs.length - lenV l)
  case atStart => exact ⟨[], none, 0, rfl, ⟨D0.out, ⟨World.ownsRow_nil _ _ _ _, by simp, by simp⟩, by simp [Value.ownBlock], List.nodup_nil, (fun z hz => by cases hz), rfl, g02⟩⟩
  case round =>
    obtain ⟨acc, va, vc, rfl, hinv⟩ := hrel
    have I := hide hinv
    have hal : acc.length ≤ cs.length := nodup_leG hinv.once hinv.inr
    obtain ⟨wq, hwq⟩ : ∃ wq, wq = wr := ⟨_, rfl⟩
    rw [← hwq] at I ⊢
    have gq := hinv.grown
    rw [← hwq] at gq
    clear hinv hwq
    obtain ⟨r0, r1, r2, r3, r4⟩ := gra_cells (g := ⟨nam, ⟨na0, cs.length, nc0⟩, ⟨ia, iN, ic⟩, ⟨oa, oN, oc⟩, ⟨ta, tN, tc⟩⟩) (BX.out wq gq)
    simp only at r1
    clear r0 r2 r3 r4
    go_wp2_with fail
    clear r1
    go_loopw [5, 6] (fun nx i wr => wq.grownBy wr none ∧ ∃ d : Nat, d ≤ cs.length ∧ i = .int .i64 ((cs.length : Int) - (d : Int) - 1) ∧ nx = .int .i64 (lowF (readyF cs acc) cs.length d)) (fun _ i _ => (intOf i + 1).toNat)
    case atStart => exact ⟨grown_refl _, 0, Nat.zero_le _, by simp, rfl⟩
    case round =>
      obtain ⟨hgr, d, hd, rfl, rfl⟩ := hrel
      by_cases hlt : d < cs.length
      · obtain ⟨i, hi0⟩ : ∃ i : Nat, i = cs.length - (d + 1) := ⟨_, rfl⟩
        have hic : (cs.length : Int) - (d : Int) - 1 = (i : Int) := by omega
        have hin2 : i < cs.length := by omega
        rw [hic]
        have hlt' : i < (cs.map (·.n)).length := by rw [List.length_map]; exact hin2
        obtain ⟨b, off, rfl⟩ := H1.out.addr hlt'
        have HN2 : Hid (∀ wx, w.grownBy wx none → wx.cell? ⟨b, off + i * 5 + 2, none⟩ = some (.slice cs[i].n.iv.a cs[i].n.iv.n cs[i].n.iv.c)) := fun wx hx => by have h := ((H1.out.more hx).nod i hlt').2.2.1; rw [List.getElem_map] at h; exact h
        have hii := HIN.out cs[i] (List.getElem_mem hin2)
        have HRD : Hid (readyF cs acc i = (!(decide ((i : Int) ∈ acc)) && cs[i].ins.all (fun x => decide (mkN cs x < 0) || decide (mkN cs x ∈ acc)))) := by show _ = _; unfold readyF; rw [List.getElem?_eq_getElem hin2]; rfl
        obtain ⟨A, hA⟩ : ∃ A, A = cs[i] := ⟨_, rfl⟩
        rw [← hA] at HN2 hii HRD
        have HII := hide hii
        obtain ⟨va', vc', ei, q1, q2, q3⟩ := hii.form
        obtain ⟨⟨aop, anm, ⟨iva, ivn, ivc⟩, aot, aav⟩, ains, axs, aks⟩ := A
        simp only [Sl.v, Value.slice.injEq] at ei
        obtain ⟨rfl, rfl, rfl⟩ := ei
        simp only at HN2 HII HRD
        have dc := (I.out.done.at (doneL_at (acc := acc) hin2)).1
        have dcr := cell_still dc hgr
        obtain ⟨D, hD⟩ : ∃ D, D = decide ((i : Int) ∈ acc) := ⟨_, rfl⟩
        rw [← hD] at dcr HRD
        have gwr := grown_trans gq hgr
        have DN : Hid (∀ (j : Nat) wx, j < cs.length → wq.grownBy wx none → wx.cell? ⟨w.heap.size + 1, j, none⟩ = some (.bool (decide ((j : Int) ∈ acc)))) := fun j wx hj hx => cell_still (I.out.done.at (doneL_at (acc := acc) hj)).1 hx
        have LW : Hid (lowF (readyF cs acc) cs.length (d + 1) = if readyF cs acc i = true then (i : Int) else lowF (readyF cs acc) cs.length d) := by show _ = _; rw [lowF, ← hi0]
        clear dc hD hA hii hi0
        have hi0' : (0 : Int) ≤ (i : Int) := by omega
        go_wp2_with fail
        clear dcr
        go_loopw [7, 8] (fun rd kk wr => wq.grownBy wr none ∧ ∃ k : Nat, k ≤ ains.length ∧ kk = .int .i64 k ∧ rd = .bool (!D && (ains.take k).all (fun x => decide (mkN cs x < 0) || decide (mkN cs x ∈ acc)))) (fun _ kk _ => ains.length - (intOf kk).toNat)
        case atStart => exact ⟨hgr, 0, Nat.zero_le _, rfl, by simp⟩
        case round =>
          obtain ⟨hg3, k, hk, rfl, rfl⟩ := hrel
          obtain ⟨rb, hrb⟩ : ∃ rb, rb = (!D && (ains.take k).all (fun x => decide (mkN cs x < 0) || decide (mkN cs x ∈ acc))) := ⟨_, rfl⟩
          rw [← hrb]
          have HRB := hide hrb
          clear hrb
          have gw3 := grown_trans (grown_trans g0 gq) hg3
          obtain ⟨r0, r1, r2, r3, r4⟩ := gra_cells (g := ⟨nam, ⟨some ⟨b, off, none⟩, cs.length, nc0⟩, ⟨ia, iN, ic⟩, ⟨oa, oN, oc⟩, ⟨ta, tN, tc⟩⟩) (BX.out wr (grown_trans gq hg3))
          simp only at r0 r1 r2 r3 r4
          have a2 := HN2.out wr gw3
          by_cases hkl : k < ains.length
          · cases rb with
            | true =>
              have HS := HII.out.more gw3
              obtain ⟨sb, so, rfl⟩ := HS.addr hkl
              have d0 := str_at HS k hkl
              have HK : Hid (ains[k]? = some ains[k]) := List.getElem?_eq_getElem hkl
              obtain ⟨X, hX⟩ : ∃ X, X = ains[k] := ⟨_, rfl⟩
              rw [← hX] at d0 HK
              clear HS hX
              have gd := grown_drew (grown_refl wr)
              have MX := hide (MK.out X wr.drew (grown_trans gw3 gd))
              have CX := hide (fun (wx : World) (hx : wr.grownBy wx none) => And.intro (And.intro (cell_still r0 hx) (And.intro (cell_still r1 hx) (And.intro (cell_still r2 hx) (And.intro (cell_still r3 hx) (cell_still r4 hx))))) (And.intro (cell_still a2 hx) (cell_still d0 hx)))
              have NX : Hid ((ains.take (k + 1)).all (fun x => decide (mkN cs x < 0) || decide (mkN cs x ∈ acc)) = ((ains.take k).all (fun x => decide (mkN cs x < 0) || decide (mkN cs x ∈ acc)) && (decide (mkN cs X < 0) || decide (mkN cs X ∈ acc)))) := by show _ = _; rw [List.take_add_one, HK.out, List.all_append]; simp
              have RB : Hid ((!D && (ains.take k).all (fun x => decide (mkN cs x < 0) || decide (mkN cs x ∈ acc))) = true) := HRB.out.symm
              have MN : Hid (mkN cs X = -1 ∨ ∃ j : Nat, j < cs.length ∧ mkN cs X = (j : Int)) := by
                show _ ∨ _
                unfold mkN
                split
                · rename_i h
                  exact Or.inr ⟨_, h, rfl⟩
                · exact Or.inl rfl
              go_wp2_with fail
              go_region_held3 (fun w' => w'.cell? ⟨w.heap.size, 0, none⟩ = some (.string nam) ∧ w'.cell? ⟨w.heap.size, 1, none⟩ = some (.slice (some ⟨b, off, none⟩) cs.length nc0) ∧ w'.cell? ⟨w.heap.size, 2, none⟩ = some (.slice ia iN ic) ∧ w'.cell? ⟨w.heap.size, 3, none⟩ = some (.slice oa oN oc) ∧ w'.cell? ⟨w.heap.size, 4, none⟩ = some (.slice ta tN tc) ∧ w'.cell? ⟨b, off + i * 5 + 2, none⟩ = some (.slice (some ⟨sb, so, none⟩) ains.length ivc) ∧ w'.cell? ⟨sb, so + k, none⟩ = some (.string X)) (go_keep) (first | (go_at_call 51; refine MX.out.mono ?_; rintro e w4 ⟨rfl, hg4⟩; have g4 : wr.grownBy w4 none := grown_trans gd hg4; obtain ⟨⟨r0, r1, r2, r3, r4⟩, a2, d0⟩ := CX.out w4 g4) | fail)
              rcases MN.out with hm | ⟨j, hj2, hm⟩
              · have NX2 : Hid ((!D && (ains.take (k + 1)).all (fun x => decide (mkN cs x < 0) || decide (mkN cs x ∈ acc))) = true) := by show _ = _; rw [NX.out, hm]; have := RB.out; simp at this ⊢; exact this
                have hmn : mkN cs X < 0 := by omega
                clear hm
                go_wp2_with fail
                go_roundw
                case rel => exact ⟨grown_trans hg3 g4, k + 1, by omega, by go_num, by rw [NX2.out]⟩
                case measure => simp [intOf]; omega
              · have dj := DN.out j w4 hj2 (grown_trans hg3 g4)
                have NX2 : Hid ((!D && (ains.take (k + 1)).all (fun x => decide (mkN cs x < 0) || decide (mkN cs x ∈ acc))) = decide ((j : Int) ∈ acc)) := by
                  show _ = _
                  rw [NX.out, hm]
                  have h2 := RB.out
                  have h3 : decide ((j : Int) < 0) = false := by simp
                  rw [h3, Bool.false_or, ← Bool.and_assoc, h2, Bool.true_and]
                rw [hm]
                have hj0 : ¬ ((j : Int) < 0) := by omega
                obtain ⟨DJ, hDJ⟩ : ∃ DJ, DJ = decide ((j : Int) ∈ acc) := ⟨_, rfl⟩
                rw [← hDJ] at dj NX2
                clear hDJ hm
                go_wp2_with fail
                go_roundw
                case rel => exact ⟨grown_trans hg3 g4, k + 1, by omega, by go_num, by rw [NX2.out]⟩
                case measure => simp [intOf]; omega
            | false =>
              have E : Hid (readyF cs acc i = false) := by
                show _ = _
                rw [HRD.out]
                have h2 := HRB.out.symm
                rw [Bool.and_eq_false_iff] at h2 ⊢
                rcases h2 with h2 | h2
                · exact Or.inl h2
                · right
                  rw [List.all_eq_false] at h2 ⊢
                  obtain ⟨x, hx, h3⟩ := h2
                  exact ⟨x, List.mem_of_mem_take hx, h3⟩
              go_wp2_with fail
              go_roundw
              case rel => exact ⟨hg3, d + 1, by omega, by first | (congr 1; omega) | congr 1, by rw [LW.out, E.out]; rfl⟩
              case measure => simp [intOf]
          · have E : Hid (readyF cs acc i = rb) := by show _ = _; rw [HRD.out, HRB.out, List.take_of_length_le (by omega)]
            cases rb with
            | true =>
              go_wp2_with fail
              go_roundw
              case rel => exact ⟨hg3, d + 1, by omega, by first | (congr 1; omega) | congr 1, by rw [LW.out, E.out]; rfl⟩
              case measure => simp [intOf]
            | false =>
              go_wp2_with fail
              go_roundw
              case rel => exact ⟨hg3, d + 1, by omega, by first | (congr 1; omega) | congr 1, by rw [LW.out, E.out]; rfl⟩
              case measure => simp [intOf]
      · obtain rfl : d = cs.length := by omega
        have hneg : ¬ ((0 : Int) ≤ (cs.length : Int) - (cs.length : Int) - 1) := by omega
        have e1 : (cs.length : Int) - (cs.length : Int) - 1 = -1 := by omega
        rw [e1]
        clear hneg e1
        rcases lowF_spec (readyF cs acc) cs.length cs.length (Nat.le_refl _) with ⟨h1, -⟩ | ⟨k, h1, -, h3, h4, -⟩
        · have E : Hid (workF cs (cs.length + 1) [] = acc) := by
            show _ = _
            rw [I.out.eq, show cs.length + 1 - acc.length = cs.length - acc.length + 1 by omega, workF, if_pos (by rw [h1]; decide)]
          rw [h1]
          go_wp2
          go_ret
          exact ⟨⟨va, acc.length, vc⟩, rfl, by rw [E.out]; exact (I.out.out.new hgr).base_le g0.size, grown_trans (grown_trans g0 gq) hgr⟩
        · have hka : (k : Int) ∉ acc := fun e => by unfold readyF at h4; simp [e] at h4
          have hnd := nodup_snoc I.out.once hka
          have hrg : ∀ z ∈ acc ++ [(k : Int)], 0 ≤ z ∧ z < cs.length := fun z hz => by
            rcases List.mem_append.1 hz with hz | hz
            · exact I.out.inr z hz
            · have : z = (k : Int) := by simpa using hz
              omega
          have hl2 := nodup_leG hnd hrg
          rw [List.length_append, List.length_singleton] at hl2
          have HEQ : Hid (workF cs (cs.length + 1) [] = workF cs (cs.length + 1 - (acc ++ [(k : Int)]).length) (acc ++ [(k : Int)])) := by
            show _ = _
            rw [I.out.eq, show cs.length + 1 - acc.length = cs.length - acc.length + 1 by omega, workF, if_neg (by rw [h1]; omega), h1, List.length_append, List.length_singleton]
            congr 1
            omega
          have HND := hide hnd
          have HRG := hide hrg
          have dw : OwnBl wr w0.heap.size (w.heap.size + 1) (doneL cs.length acc) := I.out.done.kept (hgr.block _ (I.out.done.lt).2 (by simp))
          obtain ⟨dk0, dk1⟩ := dw.at (doneL_at (acc := acc) h3)
          obtain ⟨ds1, ds2⟩ := dw.set k true
          rw [doneL_set] at ds1
          have DS := hide (And.intro ds1 ds2)
          have hB := I.out.done.lt
          have hsz := hgr.size
          have NE := hide I.out.ne
          have OWr := hide (I.out.out.new hgr)
          have hk0 : ¬ ((k : Int) < 0) := by omega
          rw [h1]
          clear hnd hrg dw ds1 ds2 h1 h4
          obtain ⟨ws, hws⟩ : ∃ ws, ws = wr.setCell ⟨w.heap.size + 1, k, none⟩ (.bool true) := ⟨_, rfl⟩
          rw [← hws] at DS
          have sws : ws.heap.size = wr.heap.size := by rw [hws]; simp [World.setCell]
          have OW : Hid (∀ o, Owns (ws.alloc o) w0.heap.size (.slice va acc.length vc) acc) := fun o => (OWr.out.more DS.out.2 (some_or fun b e => fun e2 => NE.out (by rw [e, e2]))).new (grown_new _ _)
          have SWS := hide sws
          rw [hws] at OW
          clear sws
          go_wp2_with (at_builtin; refine wpList_append_lies _ rfl (.tmp 68) (.tmp 70) 40 rfl w0.heap.size 3 i0 (.int .i64 0) 1 8 Tryd.underlying40 hi hz0 hz1 hz2 rfl (by decide) (.slice va acc.length vc) acc.length (acc.map (Value.int .i64)) rfl (by exact (OW.out _).1) ⟨wr.heap.size, 0, none⟩ 1 1 [.int .i64 (k : Int)] rfl rfl (by have h := cell_one_new (wr.setCell ⟨w.heap.size + 1, k, none⟩ (.bool true)) (Value.int .i64 (k : Int)) 3; simpa [World.setCell] using h) (by simp [Value.oneCell']) (by omega) (by simp only [maxLen]; omega) (by omega) (by simp [World.setCell]; omega) (wr.heap.size + 1) (by simp [World.setCell]) ?_; intro gg cap w8 hown8 hgrow hat hlt8)
          rw [← hws] at hgrow
          have gn := grown_new ws (.cells #[.int .i64 (k : Int)] 3)
          have s8 := hgrow.size
          have sws := SWS.out
          have sgn : (ws.alloc (.cells #[.int .i64 (k : Int)] 3)).heap.size = ws.heap.size + 1 := by simp
          have hBw : w.heap.size + 1 < wr.heap.size := by have := hB.2; omega
          have ST : Hid (WInv cs w0 (w.heap.size + 1) w8 (.slice (some ⟨gg, 0, none⟩) (acc ++ [(k : Int)]).length cap) (acc ++ [(k : Int)])) := by
            refine ⟨DS.out.1.kept ((hgrow.block _ (by omega) (fun e => NE.out e.symm)).trans (gn.block _ (by omega) (by simp))), ⟨?_, ?_, fun z hz => ?_⟩, ?_, HND.out, HRG.out, HEQ.out, ?_⟩
            · rw [List.length_append, List.map_append]
              exact hown8
            · rw [List.length_append, List.length_singleton]
              omega
            · have := HRG.out z hz
              omega
            · intro e
              have e2 : gg = w.heap.size + 1 := by simpa [Value.ownBlock] using e
              rcases hat with h | h
              · exact NE.out (by rw [h, e2])
              · omega
            · exact grown_trans_row (grown_trans (grown_trans_row (grown_trans gq hgr) DS.out.2 (fun r e => by cases e; exact hB.1)) gn) hgrow (fun r e => (OWr.out.lt r e).1)
          rw [List.length_append, List.length_singleton] at ST
          clear hown8 hgrow hat hlt8
          refine ⟨⟨acc ++ [(k : Int)], _, _, by rw [List.length_append, List.length_singleton], by rw [List.length_append, List.length_singleton]; exact ST.out⟩, ?_⟩
          simp only [lenV]
          omega
end Go.Proofs.YtmdpeckeliplkaaDoor
