/- Joined texts: GMoreP, GStandP, GWorkP, GMaker. -/
import Derived.Test.YtmdpeckeliplkaaDoorGNmJ
import Derived.Test.YtmdpeckeliplkaaDoorGAllJ
import Derived.Test.YtmdpeckeliplkaaDoorGCopyGJ
import Derived.Test.YtmdpeckeliplkaaDoorGRefJ
/- One more input, in pure words. -/
namespace Go.Proofs.YtmdpeckeliplkaaDoor
open Go.RowKit

theorem pos_app (a b : List ByteArray) (y : ByteArray) : pos (a ++ b) y = if pos a y < a.length then pos a y else pos b y + a.length := by
  unfold pos
  exact List.findIdx_append

theorem pos_one {x y : ByteArray} (h : y ≠ x) (b : List ByteArray) : pos ([x] ++ b) y = pos b y + 1 := by
  have e : (x.data.toList == y.data.toList) = false := by
    rw [beq_eq_false_iff_ne]
    exact fun e => h (bytes_eq e).symm
  rw [List.singleton_append]
  unfold pos
  rw [List.findIdx_cons, e]
  rfl

theorem pos_in {a : List ByteArray} {y : ByteArray} (h : y ∈ a) : pos a y < a.length := pos_lt (inL_iff.2 h)

theorem pos_more {a b : List ByteArray} {x y : ByteArray} (h : y ≠ x) : (pos (a ++ [x] ++ b) y = pos (a ++ b) y ∧ pos (a ++ b) y < a.length) ∨ pos (a ++ [x] ++ b) y = pos (a ++ b) y + 1 := by
  rw [List.append_assoc, pos_app a ([x] ++ b), pos_app a b, pos_one h]
  by_cases hp : pos a y < a.length
  · rw [if_pos hp, if_pos hp]
    exact Or.inl ⟨rfl, hp⟩
  · rw [if_neg hp, if_neg hp]
    right
    omega

theorem lnk_more {a b : List ByteArray} {x y : ByteArray} (h : y ≠ x) {k0 : Nat} (hk : a.length ≤ k0) (i : Nat) (p : List Int × List (List Int)) : lnk (a ++ [x] ++ b) (k0 + 1) i p y = lnk (a ++ b) k0 i p y := by
  unfold lnk
  rcases pos_more (a := a) (b := b) h with ⟨e, hl⟩ | e
  · rw [if_neg (by omega), if_neg (by omega)]
  · rw [e]
    by_cases hp : k0 ≤ pos (a ++ b) y
    · rw [if_pos hp, if_pos (by omega), show pos (a ++ b) y + 1 - (k0 + 1) = pos (a ++ b) y - k0 by omega]
    · rw [if_neg hp, if_neg (by omega)]

theorem row_more {a b : List ByteArray} {x : ByteArray} {k0 : Nat} (hk : a.length ≤ k0) (i : Nat) : ∀ {ys : List ByteArray} (p : List Int × List (List Int)), x ∉ ys → lnkRow (a ++ [x] ++ b) (k0 + 1) i p ys = lnkRow (a ++ b) k0 i p ys
  | [], _, _ => rfl
  | y :: ys, p, h => by
    have hy : y ≠ x := fun e => h (by simp [e])
    show lnkRow _ _ _ (lnk _ _ _ p y) ys = lnkRow _ _ _ (lnk _ _ _ p y) ys
    rw [lnk_more hy hk, row_more hk i _ (fun e => h (by simp [e]))]

theorem links_more {cs : List Nc} {a b : List ByteArray} {x : ByteArray} {k0 : Nat} (hk : a.length ≤ k0) (hx : ∀ c ∈ cs, x ∉ c.ins) : ∀ k, linksN cs (a ++ [x] ++ b) (k0 + 1) k = linksN cs (a ++ b) k0 k
  | 0 => rfl
  | k + 1 => by
    rw [linksN, linksN, links_more hk hx k]
    refine row_more hk k _ ?_
    cases hc : cs[k]? with
    | none => simp
    | some c => simpa using hx c (List.mem_of_getElem? hc)

theorem more_order {cs : List Nc} {vin vout : List (Val × List Int)} {its : List (Nam × List Int × List Int)} {v : Val} {ds : List Int} (h0 : (orderR cs vin vout its).2 = 0) (hx : v.name ∉ allN cs vin vout its) (hn : v.name.toList ≠ []) (ht : chk v.ty 0 = true) (hc : cntE ds = 0) (hm : vin.length + its.length + cs.length < 3000) :
    orderR cs (vin ++ [(v, ds)]) vout its = orderR cs vin vout its := by
  obtain ⟨m1, m2, m3, m4, m5⟩ := orderR_iff.1 h0
  have hr : orderR cs vin vout its = (lineF cs vin its, 0) := orderR_of m1 m2 m3 m4 m5
  have xi : v.name ∉ (vin.map (·.1)).map (·.name) := fun h => hx (by unfold allN; simp only [List.mem_append]; exact Or.inl (Or.inl (Or.inl h)))
  have xt : v.name ∉ (its.map (·.1)).map (·.name) := fun h => hx (by unfold allN; simp only [List.mem_append]; exact Or.inl (Or.inr h))
  have xn : v.name ∉ (cs.map (·.n)).map (·.out) := fun h => hx (by
    unfold allN
    simp only [List.mem_append]
    refine Or.inr ?_
    rw [List.map_map] at h
    obtain ⟨c, hc, e⟩ := List.mem_map.1 h
    exact List.mem_flatMap.2 ⟨c, hc, by rw [← e]; simp⟩)
  have xs : ∀ c ∈ cs, v.name ∉ c.ins := fun c hc h => hx (by
    unfold allN
    simp only [List.mem_append]
    exact Or.inr (List.mem_flatMap.2 ⟨c, hc, by simp [h]⟩))
  have ev : vnames cs vin its = (vin.map (·.1)).map (·.name) ++ ((its.map (·.1)).map (·.name) ++ (cs.map (·.n)).map (·.out)) := by unfold vnames; rw [List.append_assoc]
  have ev' : vnames cs (vin ++ [(v, ds)]) its = (vin.map (·.1)).map (·.name) ++ [v.name] ++ ((its.map (·.1)).map (·.name) ++ (cs.map (·.n)).map (·.out)) := by unfold vnames; simp only [List.map_append, List.map_cons, List.map_nil, List.append_assoc]
  have hp : List.Perm (vnames cs (vin ++ [(v, ds)]) its) (v.name :: vnames cs vin its) := by
    rw [ev, ev', List.append_assoc, List.singleton_append]
    exact List.perm_middle
  have hmem : ∀ y, y ∈ vnames cs (vin ++ [(v, ds)]) its ↔ y = v.name ∨ y ∈ vnames cs vin its := fun y => by rw [hp.mem_iff, List.mem_cons]
  have xv : v.name ∉ vnames cs vin its := by
    rw [ev]
    simp only [List.mem_append]
    rintro (h | h | h)
    · exact xi h
    · exact xt h
    · exact xn h
  have hl : lineF cs (vin ++ [(v, ds)]) its = lineF cs vin its := by
    unfold lineF
    rw [ev', ev, List.length_append, List.length_singleton, show vin.length + 1 + its.length = vin.length + its.length + 1 by omega, links_more (by simp) xs]
  rw [hr, ← hl]
  rw [namesOK_nil] at m3
  rw [foundF_iff] at m4
  refine orderR_of ?_ ?_ ?_ ?_ (by rw [hl]; exact m5)
  · unfold manyF at m1 ⊢
    simp only [Bool.or_eq_false_iff, decide_eq_false_iff_not, List.length_append, List.length_singleton] at m1 ⊢
    omega
  · unfold partsF at m2 ⊢
    rw [firstE_zero] at m2 ⊢
    intro z hz
    simp only [List.map_append, List.map_cons, List.map_nil, List.mem_append, List.mem_singleton] at hz m2
    rcases hz with (hz | hz) | hz
    · exact m2 z (Or.inl hz)
    · rw [hz]
      unfold valE
      rw [if_pos ht]
      exact hc
    · exact m2 z (Or.inr hz)
  · rw [namesOK_nil]
    refine ⟨fun y hy => ?_, hp.nodup_iff.2 (List.nodup_cons.2 ⟨xv, m3.2⟩)⟩
    rcases (hmem y).1 hy with rfl | hy
    · exact hn
    · exact m3.1 y hy
  · rw [foundF_iff]
    exact ⟨m4.1, m4.2.1, fun y hy => (hmem y).2 (Or.inr (m4.2.2.1 y hy)), fun c hc y hy => (hmem y).2 (Or.inr (m4.2.2.2 c hc y hy))⟩
end Go.Proofs.YtmdpeckeliplkaaDoor

/- Nodes that stand in their order, in pure words. -/
namespace Go.Proofs.YtmdpeckeliplkaaDoor
open Go.RowKit

theorem nodup_leG : ∀ {n : Nat} {L : List Int}, L.Nodup → (∀ z ∈ L, 0 ≤ z ∧ z < n) → L.length ≤ n
  | 0, [], _, _ => Nat.le_refl _
  | 0, x :: L, _, h => by have := h x (by simp); omega
  | n + 1, L, hd, h => by
    have ih := nodup_leG (n := n) (L := L.erase (n : Int)) (hd.erase _) (fun z hz => by
      have h1 := (List.Nodup.mem_erase_iff hd).1 hz
      have h2 := h z h1.2
      have h3 := h1.1
      omega)
    rw [List.length_erase] at ih
    split at ih <;> omega

theorem full_ofG {n : Nat} {L : List Int} (hd : L.Nodup) (hr : ∀ z ∈ L, 0 ≤ z ∧ z < n) (hl : L.length = n) {k : Nat} (hk : k < n) : (k : Int) ∈ L := by
  refine Classical.byContradiction fun hn => ?_
  have := nodup_leG (n := n) (L := (k : Int) :: L) (List.nodup_cons.2 ⟨hn, hd⟩) (fun z hz => by
    rcases List.mem_cons.1 hz with rfl | hz
    · omega
    · exact hr z hz)
  rw [List.length_cons] at this
  omega

/-- The numbers from i on, f of them. -/
def upF : Nat → Nat → List Int
  | _, 0 => []
  | i, f + 1 => (i : Int) :: upF (i + 1) f

theorem upF_len : ∀ i f, (upF i f).length = f
  | _, 0 => rfl
  | i, f + 1 => by rw [upF, List.length_cons, upF_len]

theorem upF_at : ∀ (i f k : Nat), k < f → (upF i f)[k]? = some ((i + k : Nat) : Int)
  | i, f + 1, 0, _ => by simp [upF]
  | i, f + 1, k + 1, h => by
    rw [upF, List.getElem?_cons_succ, upF_at (i + 1) f k (by omega)]
    congr 2
    omega

theorem upF_snoc : ∀ i f, upF i (f + 1) = upF i f ++ [((i + f : Nat) : Int)]
  | i, 0 => by simp [upF]
  | i, f + 1 => by
    rw [upF, upF_snoc (i + 1) f, upF, List.cons_append, show i + 1 + f = i + (f + 1) by omega]

theorem upF_mem {i f : Nat} {z : Int} : z ∈ upF i f ↔ (i : Int) ≤ z ∧ z < (i + f : Nat) := by
  induction f generalizing i with
  | zero => simp [upF]
  | succ f ih =>
    rw [upF, List.mem_cons, ih]
    omega

theorem owed_none {R : List (List Int)} {acc : List Int} {i : Int} : ∀ {m : Nat}, (∀ j : Nat, j < m → (j : Int) ∉ acc → i ∉ R.getD j []) → owed R acc i m = 0
  | 0, _ => rfl
  | m + 1, h => by
    rw [owed, owed_none (fun j hj => h j (by omega))]
    by_cases hm : (m : Int) ∈ acc
    · rw [if_pos hm]
    · rw [if_neg hm, List.count_eq_zero.2 (h m (by omega) hm)]

/-- An order whose nodes all stand behind those that they wait for. -/
theorem ordF_stands {n : Nat} {R : List (List Int)} (hR : ∀ k, k < n → ∀ z ∈ R.getD k [], 0 ≤ z ∧ z < n) (hS : ∀ j : Nat, j < n → ∀ z ∈ R.getD j [], (j : Int) < z) : ∀ (f i : Nat) {W : List Int}, i + f = n → Cons n R (upF 0 i) W → ordF f W R = upF i f
  | 0, i, W, _, _ => rfl
  | f + 1, i, W, hn, h => by
    have hi : i < n := by omega
    have hia : (i : Int) ∉ upF 0 i := fun e => by have := upF_mem.1 e; omega
    have h0 : W.getD i 0 = 0 := by
      rw [h.free i hi hia, owed_none (fun j hj hja hm => ?_)]
      · rfl
      · have := hS j hj _ hm
        exact hja (upF_mem.2 (by omega))
    have hlt : i < W.length := by rw [h.len]; exact hi
    have hf : W.findIdx? (fun z => z == 0) = some i := find_zero hlt h0 (fun j hj e => by
      have := h.gone j (by omega) (upF_mem.2 (by omega))
      omega)
    have st := h.step hR hi h0
    have hu : upF 0 i ++ [(i : Int)] = upF 0 (i + 1) := by rw [upF_snoc, Nat.zero_add]
    rw [hu] at st
    unfold ordF
    rw [hf]
    show (i : Int) :: ordF f (decAll (W.set i (-1)) (R.getD i [])) R = _
    rw [ordF_stands hR hS f (i + 1) (by omega) st, upF]

theorem lnk_only {l : List ByteArray} {k0 i : Nat} {p : List Int × List (List Int)} {x : ByteArray} {j : Nat} {z : Int} (hx : pos l x < k0 + p.2.length) (h : z ∈ (lnk l k0 i p x).2.getD j []) : z ∈ p.2.getD j [] ∨ (z = (i : Int) ∧ pos l x = k0 + j) := by
  unfold lnk at h
  split at h
  · rename_i hk
    rw [getD_set_list _ _ _ _ (by omega)] at h
    split at h
    · rename_i e
      rcases List.mem_append.1 h with h | h
      · rw [e] at h
        exact Or.inl h
      · exact Or.inr ⟨by simpa using h, by omega⟩
    · exact Or.inl h
  · exact Or.inl h

theorem lnk_len2 (l : List ByteArray) (k0 i : Nat) (p : List Int × List (List Int)) (x : ByteArray) : (lnk l k0 i p x).2.length = p.2.length := by
  unfold lnk
  split
  · simp
  · rfl

theorem row_only {l : List ByteArray} {k0 i n : Nat} {j : Nat} {z : Int} (hj : j < n) : ∀ {xs : List ByteArray} {p : List Int × List (List Int)}, p.2.length = n → (∀ x ∈ xs, pos l x < k0 + n) → z ∈ (lnkRow l k0 i p xs).2.getD j [] → z ∈ p.2.getD j [] ∨ (z = (i : Int) ∧ ∃ x ∈ xs, pos l x = k0 + j)
  | [], p, _, _, h => Or.inl h
  | x :: xs, p, hl, hx, h => by
    have h' : z ∈ (lnkRow l k0 i (lnk l k0 i p x) xs).2.getD j [] := h
    rcases row_only hj (by rw [lnk_len2]; exact hl) (fun y hy => hx y (by simp [hy])) h' with h1 | ⟨h1, y, hy, e⟩
    · rcases lnk_only (by rw [hl]; exact hx x (by simp)) h1 with h2 | ⟨h2, e⟩
      · exact Or.inl h2
      · exact Or.inr ⟨h2, x, by simp, e⟩
    · exact Or.inr ⟨h1, y, by simp [hy], e⟩

theorem row_len2 (l : List ByteArray) (k0 i : Nat) : ∀ (xs : List ByteArray) (p : List Int × List (List Int)), (lnkRow l k0 i p xs).2.length = p.2.length
  | [], _ => rfl
  | x :: xs, p => by
    show (lnkRow l k0 i (lnk l k0 i p x) xs).2.length = _
    rw [row_len2, lnk_len2]

theorem links_len2 (cs : List Nc) (l : List ByteArray) (k0 : Nat) : ∀ k, (linksN cs l k0 k).2.length = cs.length
  | 0 => by simp [linksN]
  | k + 1 => by rw [linksN, row_len2, links_len2]

/-- Who is told by a node reads its value. -/
theorem links_only {cs : List Nc} {l : List ByteArray} {k0 : Nat} (hin : ∀ c ∈ cs, ∀ x ∈ c.ins, pos l x < k0 + cs.length) {j : Nat} (hj : j < cs.length) {z : Int} : ∀ k, k ≤ cs.length → z ∈ (linksN cs l k0 k).2.getD j [] → ∃ (i : Nat) (hi : i < cs.length), z = (i : Int) ∧ ∃ x ∈ cs[i].ins, pos l x = k0 + j
  | 0, _, h => by
    rw [linksN] at h
    simp [List.getD, hj] at h
  | k + 1, hk, h => by
    rw [linksN, List.getElem?_eq_getElem (by omega)] at h
    rcases row_only hj (links_len2 cs l k0 k) (fun x hx => hin cs[k] (List.getElem_mem _) x hx) h with h1 | ⟨h1, x, hx, e⟩
    · exact links_only hin hj k (by omega) h1
    · exact ⟨k, by omega, h1, x, hx, e⟩

/-- Where the nodes stand behind all whose values they read, the order is as they stand. -/
theorem line_stands {cs : List Nc} {vin : List (Val × List Int)} {its : List (Nam × List Int × List Int)} (hlen : ∀ c ∈ cs, c.ins.length ≤ 1048576) (hin : ∀ c ∈ cs, ∀ x ∈ c.ins, x ∈ vnames cs vin its) (hS : ∀ (i j : Nat) (hi : i < cs.length), j < cs.length → (∃ x ∈ cs[i].ins, pos (vnames cs vin its) x = vin.length + its.length + j) → j < i) : lineF cs vin its = upF 0 cs.length := by
  have hin' : ∀ c ∈ cs, ∀ x ∈ c.ins, inL x (vnames cs vin its) = true := fun c hc x hx => inL_iff.2 (hin c hc x hx)
  have hp : ∀ c ∈ cs, ∀ x ∈ c.ins, pos (vnames cs vin its) x < vin.length + its.length + cs.length := fun c hc x hx => by have := pos_lt (hin' c hc x hx); rwa [vnames_len] at this
  have hlb := linksN_lb cs (vnames cs vin its) (vin.length + its.length) (vnames_len cs vin its) (fun c hc => ⟨hlen c hc, hin' c hc⟩) cs.length (Nat.le_refl _)
  have hev := Even.links hp cs.length (Nat.le_refl _)
  have hR : ∀ k, k < cs.length → ∀ z ∈ (linksN cs (vnames cs vin its) (vin.length + its.length) cs.length).2.getD k [], 0 ≤ z ∧ z < cs.length := fun k hk z hz => by
    rw [List.getD, List.getElem?_eq_getElem (by rw [hlb.l2]; exact hk)] at hz
    exact (hlb.b2 _ (List.getElem_mem _)).2 z hz
  have h0 : Cons cs.length (linksN cs (vnames cs vin its) (vin.length + its.length) cs.length).2 (upF 0 0) (linksN cs (vnames cs vin its) (vin.length + its.length) cs.length).1 :=
    ⟨hev.1, List.nodup_nil, (fun z hz => by cases hz), (fun i hi _ => hev.2.2 i hi), (fun i _ h => by cases h), (fun p z hz => by simp [upF] at hz)⟩
  unfold lineF
  refine ordF_stands hR (fun j hj z hz => ?_) cs.length 0 (by omega) h0
  obtain ⟨i, hi, rfl, hx⟩ := links_only hp hj cs.length (Nat.le_refl _) hz
  have := hS i j hi hj hx
  omega

/-- The nodes, put into an order. -/
def putN (cs : List Nc) (L : List Int) : List Nc := L.filterMap (fun z => cs[z.toNat]?)

theorem putN_at {cs : List Nc} : ∀ {L : List Int}, (∀ z ∈ L, 0 ≤ z ∧ z < cs.length) → ∀ k : Nat, (putN cs L)[k]? = (L[k]?).bind (fun z => cs[z.toNat]?)
  | [], _, k => by simp [putN]
  | z :: L, h, k => by
    have hz := h z (by simp)
    have e : cs[z.toNat]? = some (cs[z.toNat]'(by omega)) := List.getElem?_eq_getElem _
    have ih := putN_at (L := L) (fun y hy => h y (by simp [hy]))
    unfold putN at ih ⊢
    rw [List.filterMap_cons, e]
    cases k with
    | zero => simp [e]
    | succ k => simpa using ih k

theorem putN_len {cs : List Nc} : ∀ {L : List Int}, (∀ z ∈ L, 0 ≤ z ∧ z < cs.length) → (putN cs L).length = L.length
  | [], _ => rfl
  | z :: L, h => by
    have hz := h z (by simp)
    have e : cs[z.toNat]? = some (cs[z.toNat]'(by omega)) := List.getElem?_eq_getElem _
    have ih := putN_len (L := L) (fun y hy => h y (by simp [hy]))
    unfold putN at ih ⊢
    rw [List.filterMap_cons, e]
    simp [ih]

theorem putN_mem {cs : List Nc} {L : List Int} {c : Nc} (h : c ∈ putN cs L) : c ∈ cs := by
  unfold putN at h
  obtain ⟨z, -, e⟩ := List.mem_filterMap.1 h
  exact List.mem_of_getElem? e

theorem upF_put : ∀ (cs pre : List Nc), putN (pre ++ cs) (upF pre.length cs.length) = cs
  | [], pre => rfl
  | c :: cs, pre => by
    have ih := upF_put cs (pre ++ [c])
    rw [List.append_assoc, List.singleton_append, List.length_append, List.length_singleton] at ih
    rw [List.length_cons, upF]
    unfold putN at ih ⊢
    rw [List.filterMap_cons]
    simp [ih]

theorem putN_perm {cs : List Nc} {L : List Int} (hd : L.Nodup) (hr : ∀ z ∈ L, 0 ≤ z ∧ z < cs.length) (hl : L.length = cs.length) : List.Perm (putN cs L) cs := by
  have hu := upF_put cs []
  rw [List.nil_append, List.length_nil] at hu
  have hnd : (upF 0 cs.length).Nodup := by
    rw [List.nodup_iff_pairwise_ne, List.pairwise_iff_getElem]
    intro i j hi hj hij
    rw [upF_len] at hi hj
    have e1 := upF_at 0 cs.length i hi
    have e2 := upF_at 0 cs.length j hj
    rw [List.getElem?_eq_getElem (by rw [upF_len]; exact hi)] at e1
    rw [List.getElem?_eq_getElem (by rw [upF_len]; exact hj)] at e2
    rw [Option.some.inj e1, Option.some.inj e2]
    omega
  have hp : List.Perm L (upF 0 cs.length) := (List.perm_ext_iff_of_nodup hd hnd).2 fun z => by
    constructor
    · intro h
      have := hr z h
      exact upF_mem.2 (by omega)
    · intro h
      have h1 := upF_mem.1 h
      obtain ⟨q, rfl⟩ : ∃ q : Nat, z = (q : Int) := ⟨z.toNat, by omega⟩
      exact full_ofG hd hr hl (by omega)
  have h2 : List.Perm (putN cs L) (putN cs (upF 0 cs.length)) := hp.filterMap _
  rw [hu] at h2
  exact h2

theorem getElem?_nodup {L : List Int} (hd : L.Nodup) {p q : Nat} {z : Int} (hp : L[p]? = some z) (hq : L[q]? = some z) : p = q := by
  obtain ⟨h1, e1⟩ := List.getElem?_eq_some_iff.1 hp
  obtain ⟨h2, e2⟩ := List.getElem?_eq_some_iff.1 hq
  rw [List.nodup_iff_pairwise_ne, List.pairwise_iff_getElem] at hd
  rcases Nat.lt_trichotomy p q with h | h | h
  · exact absurd (e1.trans e2.symm) (hd p q h1 h2 h)
  · exact h
  · exact absurd (e2.trans e1.symm) (hd q p h2 h1 h)

theorem stands_order {cs : List Nc} {vin vout : List (Val × List Int)} {its : List (Nam × List Int × List Int)} (hlen : ∀ c ∈ cs, c.ins.length ≤ 1048576) (h0 : (orderR cs vin vout its).2 = 0) : (∀ z ∈ lineF cs vin its, 0 ≤ z ∧ z < cs.length) ∧ orderR (putN cs (lineF cs vin its)) vin vout its = (upF 0 cs.length, 0) := by
  obtain ⟨m1, m2, m3, m4, m5⟩ := orderR_iff.1 h0
  have m4' := foundF_iff.1 m4
  obtain ⟨hd, hr, hb⟩ := line_law (vin := vin) (its := its) hlen (fun c hc x hx => inL_iff.2 (m4'.2.2.2 c hc x hx))
  obtain ⟨L, hL⟩ : ∃ L, L = lineF cs vin its := ⟨_, rfl⟩
  rw [← hL] at hd hr hb m5 ⊢
  refine ⟨hr, ?_⟩
  have hp := putN_perm hd hr m5
  have hpl := putN_len (cs := cs) hr
  have hpa := putN_at (cs := cs) hr
  have hpo : List.Perm (((putN cs L).map (·.n)).map (·.out)) ((cs.map (·.n)).map (·.out)) := (hp.map _).map _
  have hpv : List.Perm (vnames (putN cs L) vin its) (vnames cs vin its) := by
    unfold vnames
    exact List.Perm.append_left _ hpo
  have hlv := vnames_len (putN cs L) vin its
  have hin : ∀ c ∈ putN cs L, ∀ x ∈ c.ins, x ∈ vnames (putN cs L) vin its := fun c hc x hx => hpv.mem_iff.2 (m4'.2.2.2 c (putN_mem hc) x hx)
  have hline : lineF (putN cs L) vin its = upF 0 (putN cs L).length := by
    refine line_stands (fun c hc => hlen c (putN_mem hc)) hin fun i j hi hj ⟨x, hx, e⟩ => ?_
    have hx1 := hin _ (List.getElem_mem hi) x hx
    have hx2 := pos_at (inL_iff.2 hx1)
    rw [e] at hx2
    have ej : (vnames (putN cs L) vin its)[vin.length + its.length + j]? = some (putN cs L)[j].n.out := by
      unfold vnames
      rw [List.getElem?_append_right (by simp)]
      simp [hj]
    have hxo : (putN cs L)[j].n.out = x := Option.some.inj (ej.symm.trans hx2)
    have aj := hpa j
    have ai := hpa i
    rw [List.getElem?_eq_getElem hj] at aj
    rw [List.getElem?_eq_getElem hi] at ai
    have hjL : j < L.length := by omega
    have hiL : i < L.length := by omega
    rw [List.getElem?_eq_getElem hjL] at aj
    rw [List.getElem?_eq_getElem hiL] at ai
    have rj := hr L[j] (List.getElem_mem hjL)
    have ri := hr L[i] (List.getElem_mem hiL)
    have zj : L[j].toNat < cs.length := by omega
    have zi : L[i].toNat < cs.length := by omega
    simp only [Option.bind_some, List.getElem?_eq_getElem zj] at aj
    simp only [Option.bind_some, List.getElem?_eq_getElem zi] at ai
    have aj' := Option.some.inj aj
    have ai' := Option.some.inj ai
    have hpo' := pos_out m3 zj
    rw [← aj', hxo] at hpo'
    have hm := hb i L[i].toNat L[j].toNat zi (by rw [List.getElem?_eq_getElem hiL]; congr 1; omega) zj ⟨x, by rw [← ai']; exact hx, hpo'⟩
    obtain ⟨q, hq, eq⟩ := List.mem_take_iff_getElem.1 hm
    have hqj : q = j := getElem?_nodup hd (z := L[j]) (by rw [List.getElem?_eq_getElem (by omega), eq]; congr 1; omega) (List.getElem?_eq_getElem hjL)
    omega
  rw [hpl, m5] at hline
  have hcl : (putN cs L).length = cs.length := by rw [hpl, m5]
  have h5 : (lineF (putN cs L) vin its).length = (putN cs L).length := by rw [hline, upF_len, hcl]
  rw [orderR_of (by rw [hcl]; exact m1) ?_ ?_ ?_ h5, hline]
  · unfold partsF at m2 ⊢
    rw [firstE_zero] at m2 ⊢
    intro z hz
    simp only [List.mem_append] at hz m2
    rcases hz with hz | hz | hz
    · exact m2 z (Or.inl hz)
    · exact m2 z (Or.inr (Or.inl hz))
    · obtain ⟨c, hc, rfl⟩ := List.mem_map.1 hz
      exact m2 _ (Or.inr (Or.inr (List.mem_map_of_mem (putN_mem hc))))
  · rw [namesOK_nil] at m3 ⊢
    exact ⟨fun y hy => m3.1 y (hpv.mem_iff.1 hy), hpv.nodup_iff.2 m3.2⟩
  · rw [foundF_iff]
    exact ⟨m4'.1, m4'.2.1, fun y hy => hpv.mem_iff.2 (m4'.2.2.1 y hy), hin⟩
end Go.Proofs.YtmdpeckeliplkaaDoor

/- The document's order of work, in pure words: it is the program's. -/
namespace Go.Proofs.YtmdpeckeliplkaaDoor
open Go.RowKit

/-- The names of what the nodes make. -/
def outsW (cs : List Nc) : List ByteArray := (cs.map (·.n)).map (·.out)

theorem outsW_len (cs : List Nc) : (outsW cs).length = cs.length := by simp [outsW]

/-- The node that makes a value, or -1. -/
def mkN (cs : List Nc) (x : ByteArray) : Int := if pos (outsW cs) x < cs.length then (pos (outsW cs) x : Int) else -1

/-- Is a node ready, when so many are done? -/
def readyF (cs : List Nc) (acc : List Int) (i : Nat) : Bool := !(decide ((i : Int) ∈ acc)) && ((cs[i]?.map (·.ins)).getD []).all (fun x => decide (mkN cs x < 0) || decide (mkN cs x ∈ acc))

/-- The least number that is so, among the last d of n; -1: none. -/
def lowF (p : Nat → Bool) (n : Nat) : Nat → Int
  | 0 => -1
  | d + 1 => if p (n - (d + 1)) = true then ((n - (d + 1) : Nat) : Int) else lowF p n d

theorem lowF_spec (p : Nat → Bool) (n : Nat) : ∀ d, d ≤ n → (lowF p n d = -1 ∧ ∀ i, n - d ≤ i → i < n → p i = false) ∨ ∃ k : Nat, lowF p n d = (k : Int) ∧ n - d ≤ k ∧ k < n ∧ p k = true ∧ ∀ i, n - d ≤ i → i < k → p i = false
  | 0, _ => Or.inl ⟨rfl, fun i h1 h2 => by omega⟩
  | d + 1, hd => by
    rw [lowF]
    by_cases hp : p (n - (d + 1)) = true
    · rw [if_pos hp]
      exact Or.inr ⟨n - (d + 1), rfl, Nat.le_refl _, by omega, hp, fun i h1 h2 => by omega⟩
    · rw [if_neg hp]
      have hp' : p (n - (d + 1)) = false := by simpa using hp
      rcases lowF_spec p n d (by omega) with ⟨h1, h2⟩ | ⟨k, h1, h2, h3, h4, h5⟩
      · refine Or.inl ⟨h1, fun i hi1 hi2 => ?_⟩
        by_cases e : i = n - (d + 1)
        · rw [e]; exact hp'
        · exact h2 i (by omega) hi2
      · refine Or.inr ⟨k, h1, by omega, h3, h4, fun i hi1 hi2 => ?_⟩
        by_cases e : i = n - (d + 1)
        · rw [e]; exact hp'
        · exact h5 i (by omega) hi2

/-- The order of work, as far as it goes. -/
def workF (cs : List Nc) : Nat → List Int → List Int
  | 0, acc => acc
  | f + 1, acc => if lowF (readyF cs acc) cs.length cs.length < 0 then acc else workF cs f (acc ++ [lowF (readyF cs acc) cs.length cs.length])

theorem lowF_zero {W : List Int} {n : Nat} {p : Nat → Bool} (hl : W.length = n) (h : ∀ i : Nat, i < n → (p i = true ↔ W.getD i 0 = 0)) : (W.findIdx? (fun z => z == 0) = none ∧ lowF p n n = -1) ∨ ∃ k : Nat, k < n ∧ W.findIdx? (fun z => z == 0) = some k ∧ lowF p n n = (k : Int) ∧ W.getD k 0 = 0 := by
  rcases lowF_spec p n n (Nat.le_refl _) with ⟨h1, h2⟩ | ⟨k, h1, h2, h3, h4, h5⟩
  · refine Or.inl ⟨find_no_zero (fun j hj e => ?_), h1⟩
    have := h2 j (by omega) (by omega)
    rw [(h j (by omega)).2 e] at this
    simp at this
  · refine Or.inr ⟨k, h3, find_zero (by omega) ((h k h3).1 h4) (fun j hj e => ?_), h1, (h k h3).1 h4⟩
    have := h5 j (by omega) hj
    rw [(h j (by omega)).2 e] at this
    simp at this

theorem work_ord {cs : List Nc} {R : List (List Int)} (hR : ∀ k, k < cs.length → ∀ z ∈ R.getD k [], 0 ≤ z ∧ z < cs.length) (hw : ∀ {acc W : List Int}, Cons cs.length R acc W → ∀ i : Nat, i < cs.length → (readyF cs acc i = true ↔ W.getD i 0 = 0)) : ∀ (f : Nat) {acc W : List Int}, f + acc.length = cs.length → Cons cs.length R acc W → workF cs (f + 1) acc = acc ++ ordF f W R
  | 0, acc, W, hf, h => by
    rw [ordF, List.append_nil, workF]
    rcases lowF_zero h.len (hw h) with ⟨-, e⟩ | ⟨k, hk, -, e, h0⟩
    · rw [if_pos (by rw [e]; decide)]
    · have := full_ofG h.once h.inr (by omega) hk
      have := h.gone k hk this
      omega
  | f + 1, acc, W, hf, h => by
    rw [workF]
    unfold ordF
    rcases lowF_zero h.len (hw h) with ⟨e1, e⟩ | ⟨k, hk, e1, e, h0⟩
    · rw [if_pos (by rw [e]; decide), e1, List.append_nil]
    · rw [if_neg (by rw [e]; omega), e1, e]
      have st := h.step hR hk h0
      rw [work_ord hR hw f (by rw [List.length_append, List.length_singleton]; omega) st, List.append_assoc]
      rfl

theorem mk_pos {cs : List Nc} {vin : List (Val × List Int)} {its : List (Nam × List Int × List Int)} (hn : namesOK [] (vnames cs vin its) = true) {x : ByteArray} (hx : x ∈ vnames cs vin its) : (mkN cs x = -1 ∧ pos (vnames cs vin its) x < vin.length + its.length) ∨ (mkN cs x = ((pos (vnames cs vin its) x - (vin.length + its.length) : Nat) : Int) ∧ vin.length + its.length ≤ pos (vnames cs vin its) x) := by
  obtain ⟨A, hA⟩ : ∃ A, A = (vin.map (·.1)).map (·.name) ++ (its.map (·.1)).map (·.name) := ⟨_, rfl⟩
  have hAl : A.length = vin.length + its.length := by rw [hA]; simp
  have ev : vnames cs vin its = A ++ outsW cs := by rw [hA]; rfl
  rw [ev] at hx hn ⊢
  rw [pos_app, ← hAl]
  have hd := (namesOK_nil.1 hn).2
  rw [List.nodup_append] at hd
  by_cases hp : pos A x < A.length
  · rw [if_pos hp]
    refine Or.inl ⟨?_, hp⟩
    have hxa : x ∈ A := by
      have h1 : A.findIdx (fun y => y.data.toList == x.data.toList) < A.length := hp
      have h2 := List.findIdx_getElem (w := h1)
      have h3 : A[A.findIdx (fun y => y.data.toList == x.data.toList)] = x := bytes_eq (by simpa using h2)
      rw [← h3]
      exact List.getElem_mem h1
    unfold mkN
    rw [if_neg]
    intro hlt
    have h1 : (outsW cs).findIdx (fun y => y.data.toList == x.data.toList) < (outsW cs).length := by rw [outsW_len]; exact hlt
    have h2 := List.findIdx_getElem (w := h1)
    have h3 : (outsW cs)[(outsW cs).findIdx (fun y => y.data.toList == x.data.toList)] = x := bytes_eq (by simpa using h2)
    exact hd.2.2 x hxa _ (List.getElem_mem h1) h3.symm
  · rw [if_neg hp]
    refine Or.inr ⟨?_, by omega⟩
    have hxb : x ∈ outsW cs := by
      rcases List.mem_append.1 hx with h | h
      · exact absurd (pos_in h) hp
      · exact h
    have hlt := pos_in hxb
    rw [outsW_len] at hlt
    unfold mkN
    rw [if_pos hlt, show pos (outsW cs) x + A.length - A.length = pos (outsW cs) x by omega]

/-- The document's order is the program's. -/
theorem work_line {cs : List Nc} {vin : List (Val × List Int)} {its : List (Nam × List Int × List Int)} (hlen : ∀ c ∈ cs, c.ins.length ≤ 1048576) (hn : namesOK [] (vnames cs vin its) = true) (hin : ∀ c ∈ cs, ∀ x ∈ c.ins, x ∈ vnames cs vin its) : workF cs (cs.length + 1) [] = lineF cs vin its := by
  have hin' : ∀ c ∈ cs, ∀ x ∈ c.ins, inL x (vnames cs vin its) = true := fun c hc x hx => inL_iff.2 (hin c hc x hx)
  have hp : ∀ c ∈ cs, ∀ x ∈ c.ins, pos (vnames cs vin its) x < vin.length + its.length + cs.length := fun c hc x hx => by have := pos_lt (hin' c hc x hx); rwa [vnames_len] at this
  have hlb := linksN_lb cs (vnames cs vin its) (vin.length + its.length) (vnames_len cs vin its) (fun c hc => ⟨hlen c hc, hin' c hc⟩) cs.length (Nat.le_refl _)
  have hev := Even.links hp cs.length (Nat.le_refl _)
  have hR : ∀ k, k < cs.length → ∀ z ∈ (linksN cs (vnames cs vin its) (vin.length + its.length) cs.length).2.getD k [], 0 ≤ z ∧ z < cs.length := fun k hk z hz => by
    rw [List.getD, List.getElem?_eq_getElem (by rw [hlb.l2]; exact hk)] at hz
    exact (hlb.b2 _ (List.getElem_mem _)).2 z hz
  have h0 : Cons cs.length (linksN cs (vnames cs vin its) (vin.length + its.length) cs.length).2 [] (linksN cs (vnames cs vin its) (vin.length + its.length) cs.length).1 :=
    ⟨hev.1, List.nodup_nil, (fun z hz => by cases hz), (fun i hi _ => hev.2.2 i hi), (fun i _ h => by cases h), (fun p z hz => by simp at hz)⟩
  have hw : ∀ {acc W : List Int}, Cons cs.length (linksN cs (vnames cs vin its) (vin.length + its.length) cs.length).2 acc W → ∀ i : Nat, i < cs.length → (readyF cs acc i = true ↔ W.getD i 0 = 0) := by
    intro acc W hc i hi
    unfold readyF
    rw [List.getElem?_eq_getElem hi, Option.map_some, Option.getD_some, Bool.and_eq_true, List.all_eq_true]
    by_cases hia : (i : Int) ∈ acc
    · have := hc.gone i hi hia
      constructor
      · intro h
        simp [hia] at h
      · intro h
        omega
    · rw [hc.free i hi hia]
      constructor
      · rintro ⟨-, h⟩
        have e : owed (linksN cs (vnames cs vin its) (vin.length + its.length) cs.length).2 acc (i : Int) cs.length = 0 := owed_none fun j hj hja hm => by
          obtain ⟨i', hi', e1, x, hx, e2⟩ := links_only hp hj cs.length (Nat.le_refl _) hm
          obtain rfl : i = i' := by omega
          have hh := h x hx
          rcases mk_pos hn (hin _ (List.getElem_mem hi) x hx) with ⟨m1, m2⟩ | ⟨m1, m2⟩
          · omega
          · rw [m1, Bool.or_eq_true, decide_eq_true_eq, decide_eq_true_eq] at hh
            rcases hh with hh | hh
            · omega
            · rw [show pos (vnames cs vin its) x - (vin.length + its.length) = j by omega] at hh
              exact hja hh
        omega
      · intro h
        have hz : owed (linksN cs (vnames cs vin its) (vin.length + its.length) cs.length).2 acc (i : Int) cs.length = 0 := by omega
        refine ⟨by simp [hia], fun x hx => ?_⟩
        rw [Bool.or_eq_true, decide_eq_true_eq, decide_eq_true_eq]
        rcases mk_pos hn (hin _ (List.getElem_mem hi) x hx) with ⟨m1, m2⟩ | ⟨m1, m2⟩
        · left
          omega
        · right
          rw [m1]
          have hpx := hp _ (List.getElem_mem hi) x hx
          refine Classical.byContradiction fun hja => ?_
          exact owed_zero hz (pos (vnames cs vin its) x - (vin.length + its.length)) (by omega) hja (links_tell hp hi (by omega) ⟨x, hx, by omega⟩ cs.length hi (Nat.le_refl _))
  unfold lineF
  have := work_ord hR hw cs.length (acc := []) (by simp) h0
  rw [this, List.nil_append]
end Go.Proofs.YtmdpeckeliplkaaDoor

/- The document's maker, by the walk. -/
namespace Go.Proofs.YtmdpeckeliplkaaDoor
open Go.RowKit

theorem pos_step {l : List ByteArray} {x Y : ByteArray} {k : Nat} (hk : k ≤ pos l x) (hY : l[k]? = some Y) : ((Y.toList == x.toList) = true → pos l x = k) ∧ ((Y.toList == x.toList) = false → k + 1 ≤ pos l x) := by
  obtain ⟨hl, eY⟩ := List.getElem?_eq_some_iff.1 hY
  have he : (Y.data.toList == x.data.toList) = (Y.toList == x.toList) := by rw [bytes_toList, bytes_toList]
  unfold pos at hk ⊢
  constructor
  · intro h
    refine Classical.byContradiction fun hne => ?_
    have := List.not_of_lt_findIdx (p := fun y => y.data.toList == x.data.toList) (xs := l) (i := k) (by omega)
    rw [eY, he, h] at this
    simp at this
  · intro h
    refine Classical.byContradiction fun hne => ?_
    have e : l.findIdx (fun y => y.data.toList == x.data.toList) = k := by omega
    have h2 := List.findIdx_getElem (p := fun y : ByteArray => y.data.toList == x.data.toList) (xs := l) (w := by rw [e]; exact hl)
    simp only [e, eY, he, h] at h2
    exact absurd h2 (by simp)

set_option maxRecDepth 100000 in
set_option maxHeartbeats 3200000 in
theorem maker_any (g : Gra) (cs : List Nc) (x : ByteArray) (w : World) (h1 : IsNods w g.nv.v (cs.map (·.n))) :
    Calls Tryd.prog 51 #[gval g, .string x] w fun e w' => e = .returned (.int .i64 (mkN cs x)) ∧ w.grownBy w' none := by
  obtain ⟨nam, ⟨na0, nn0, nc0⟩, ⟨ia, iN, ic⟩, ⟨oa, oN, oc⟩, ⟨ta, tN, tc⟩⟩ := g
  have H1 := hide h1
  obtain ⟨xa, xc, e1, p1, p2, p3⟩ := h1.form
  rw [List.length_map] at e1 p1 p3
  obtain ⟨rfl, rfl, rfl⟩ : na0 = xa ∧ nn0 = cs.length ∧ nc0 = xc := by simpa [Sl.v] using e1
  clear h1 e1
  unfold gval
  simp only
  obtain ⟨w0, hw0⟩ : ∃ w0, w0 = w.alloc (.cells #[.string nam, .slice na0 cs.length nc0, .slice ia iN ic, .slice oa oN oc, .slice ta tN tc] 26) := ⟨_, rfl⟩
  have g0 : w.grownBy w0 none := by rw [hw0]; exact grown_new _ _
  have b0 := heap_alloc_new w (.cells #[.string nam, .slice na0 cs.length nc0, .slice ia iN ic, .slice oa oN oc, .slice ta tN tc] 26)
  rw [← hw0] at b0
  have BX : Hid (∀ wx, w0.grownBy wx none → wx.heap[w.heap.size]? = some (.cells #[.string nam, .slice na0 cs.length nc0, .slice ia iN ic, .slice oa oN oc, .slice ta tN tc] 26 (0, 0))) := fun wx hx => box_kept b0 hx
  clear b0
  go_enter Tryd.func51, Tryd.ntmps51
  go_wp2_with fail
  rw [← hw0]
  clear hw0
  go_loopw [5] (fun i wr => w0.grownBy wr none ∧ ∃ k : Nat, k ≤ cs.length ∧ i = .int .i64 k ∧ k ≤ pos (outsW cs) x) (fun i _ => cs.length - (intOf i).toNat)
  case atStart => exact ⟨grown_refl _, 0, Nat.zero_le _, rfl, Nat.zero_le _⟩
  case round =>
    obtain ⟨hgr, k, hk, rfl, hp⟩ := hrel
    have HP := hide hp
    clear hp
    obtain ⟨r0, r1, r2, r3, r4⟩ := gra_cells (g := ⟨nam, ⟨na0, cs.length, nc0⟩, ⟨ia, iN, ic⟩, ⟨oa, oN, oc⟩, ⟨ta, tN, tc⟩⟩) (BX.out wr hgr)
    simp only at r1
    clear r0 r2 r3 r4
    by_cases hlt : k < cs.length
    · have hlt' : k < (cs.map (·.n)).length := by rw [List.length_map]; exact hlt
      have HLk := H1.out.more (grown_trans g0 hgr)
      obtain ⟨b, off, rfl⟩ := HLk.addr hlt'
      have a3 := (HLk.nod k hlt').2.2.2.1
      rw [List.getElem_map] at a3
      have HK : Hid ((outsW cs)[k]? = some cs[k].n.out) := by show _ = _; unfold outsW; rw [List.getElem?_map, List.getElem?_map, List.getElem?_eq_getElem hlt]; rfl
      obtain ⟨Y, hY⟩ : ∃ Y, Y = cs[k].n.out := ⟨_, rfl⟩
      rw [← hY] at a3 HK
      clear HLk hY
      by_cases h : (Y.toList == x.toList) = true
      · have E : Hid (mkN cs x = (k : Int)) := by
          show _ = _
          unfold mkN
          rw [(pos_step HP.out HK.out).1 h, if_pos hlt]
        go_wp2
        go_ret
        exact ⟨by rw [E.out]; rfl, grown_trans g0 hgr⟩
      · have h' : (Y.toList == x.toList) = false := by simpa using h
        have HN : Hid (k + 1 ≤ pos (outsW cs) x) := (pos_step HP.out HK.out).2 h'
        clear h
        go_wp2_with fail
        go_roundw
        case rel => exact ⟨hgr, k + 1, by omega, by go_num, HN.out⟩
        case measure => simp [intOf]; omega
    · have E : Hid (mkN cs x = -1) := by
        show _ = _
        unfold mkN
        rw [if_neg (by have := HP.out; omega)]
      go_wp2
      go_ret
      exact ⟨by rw [E.out]; rfl, grown_trans g0 hgr⟩
end Go.Proofs.YtmdpeckeliplkaaDoor
