/- Nodes that stand in their order, in pure words. -/
import Derived.Test.YtflalpchhojenaaDoorGNmJ
import Derived.Test.YtflalpchhojenaaDoorGCopyGJ
namespace Go.Proofs.YtflalpchhojenaaDoor
open Go.RowKit

theorem nodup_leG : ∀ {n : Nat} {L : List Int}, L.Nodup → (∀ z ∈ L, 0 ≤ z ∧ z < n) → L.length ≤ n
  | 0, [], _, _ => Nat.le_refl _
  | 0, x :: L, _, h => by have := h x (by simp); omega
  | n + 1, L, hd, h => by
    have ih := nodup_leG (n := n) (L := L.erase (n : Int)) (hd.erase _) (fun z hz => by
      have h1 := (List.Nodup.mem_erase_iff hd).1 hz
      have h2 := h z h1.2
      have h3 := h1.1
      omega)
    rw [List.length_erase] at ih
    split at ih <;> omega

theorem full_ofG {n : Nat} {L : List Int} (hd : L.Nodup) (hr : ∀ z ∈ L, 0 ≤ z ∧ z < n) (hl : L.length = n) {k : Nat} (hk : k < n) : (k : Int) ∈ L := by
  refine Classical.byContradiction fun hn => ?_
  have := nodup_leG (n := n) (L := (k : Int) :: L) (List.nodup_cons.2 ⟨hn, hd⟩) (fun z hz => by
    rcases List.mem_cons.1 hz with rfl | hz
    · omega
    · exact hr z hz)
  rw [List.length_cons] at this
  omega

/-- The numbers from i on, f of them. -/
def upF : Nat → Nat → List Int
  | _, 0 => []
  | i, f + 1 => (i : Int) :: upF (i + 1) f

theorem upF_len : ∀ i f, (upF i f).length = f
  | _, 0 => rfl
  | i, f + 1 => by rw [upF, List.length_cons, upF_len]

theorem upF_at : ∀ (i f k : Nat), k < f → (upF i f)[k]? = some ((i + k : Nat) : Int)
  | i, f + 1, 0, _ => by simp [upF]
  | i, f + 1, k + 1, h => by
    rw [upF, List.getElem?_cons_succ, upF_at (i + 1) f k (by omega)]
    congr 2
    omega

theorem upF_snoc : ∀ i f, upF i (f + 1) = upF i f ++ [((i + f : Nat) : Int)]
  | i, 0 => by simp [upF]
  | i, f + 1 => by
    rw [upF, upF_snoc (i + 1) f, upF, List.cons_append, show i + 1 + f = i + (f + 1) by omega]

theorem upF_mem {i f : Nat} {z : Int} : z ∈ upF i f ↔ (i : Int) ≤ z ∧ z < (i + f : Nat) := by
  induction f generalizing i with
  | zero => simp [upF]
  | succ f ih =>
    rw [upF, List.mem_cons, ih]
    omega

theorem owed_none {R : List (List Int)} {acc : List Int} {i : Int} : ∀ {m : Nat}, (∀ j : Nat, j < m → (j : Int) ∉ acc → i ∉ R.getD j []) → owed R acc i m = 0
  | 0, _ => rfl
  | m + 1, h => by
    rw [owed, owed_none (fun j hj => h j (by omega))]
    by_cases hm : (m : Int) ∈ acc
    · rw [if_pos hm]
    · rw [if_neg hm, List.count_eq_zero.2 (h m (by omega) hm)]

/-- An order whose nodes all stand behind those that they wait for. -/
theorem ordF_stands {n : Nat} {R : List (List Int)} (hR : ∀ k, k < n → ∀ z ∈ R.getD k [], 0 ≤ z ∧ z < n) (hS : ∀ j : Nat, j < n → ∀ z ∈ R.getD j [], (j : Int) < z) : ∀ (f i : Nat) {W : List Int}, i + f = n → Cons n R (upF 0 i) W → ordF f W R = upF i f
  | 0, i, W, _, _ => rfl
  | f + 1, i, W, hn, h => by
    have hi : i < n := by omega
    have hia : (i : Int) ∉ upF 0 i := fun e => by have := upF_mem.1 e; omega
    have h0 : W.getD i 0 = 0 := by
      rw [h.free i hi hia, owed_none (fun j hj hja hm => ?_)]
      · rfl
      · have := hS j hj _ hm
        exact hja (upF_mem.2 (by omega))
    have hlt : i < W.length := by rw [h.len]; exact hi
    have hf : W.findIdx? (fun z => z == 0) = some i := find_zero hlt h0 (fun j hj e => by
      have := h.gone j (by omega) (upF_mem.2 (by omega))
      omega)
    have st := h.step hR hi h0
    have hu : upF 0 i ++ [(i : Int)] = upF 0 (i + 1) := by rw [upF_snoc, Nat.zero_add]
    rw [hu] at st
    unfold ordF
    rw [hf]
    show (i : Int) :: ordF f (decAll (W.set i (-1)) (R.getD i [])) R = _
    rw [ordF_stands hR hS f (i + 1) (by omega) st, upF]

theorem lnk_only {l : List ByteArray} {k0 i : Nat} {p : List Int × List (List Int)} {x : ByteArray} {j : Nat} {z : Int} (hx : pos l x < k0 + p.2.length) (h : z ∈ (lnk l k0 i p x).2.getD j []) : z ∈ p.2.getD j [] ∨ (z = (i : Int) ∧ pos l x = k0 + j) := by
  unfold lnk at h
  split at h
  · rename_i hk
    rw [getD_set_list _ _ _ _ (by omega)] at h
    split at h
    · rename_i e
      rcases List.mem_append.1 h with h | h
      · rw [e] at h
        exact Or.inl h
      · exact Or.inr ⟨by simpa using h, by omega⟩
    · exact Or.inl h
  · exact Or.inl h

theorem lnk_len2 (l : List ByteArray) (k0 i : Nat) (p : List Int × List (List Int)) (x : ByteArray) : (lnk l k0 i p x).2.length = p.2.length := by
  unfold lnk
  split
  · simp
  · rfl

theorem row_only {l : List ByteArray} {k0 i n : Nat} {j : Nat} {z : Int} (hj : j < n) : ∀ {xs : List ByteArray} {p : List Int × List (List Int)}, p.2.length = n → (∀ x ∈ xs, pos l x < k0 + n) → z ∈ (lnkRow l k0 i p xs).2.getD j [] → z ∈ p.2.getD j [] ∨ (z = (i : Int) ∧ ∃ x ∈ xs, pos l x = k0 + j)
  | [], p, _, _, h => Or.inl h
  | x :: xs, p, hl, hx, h => by
    have h' : z ∈ (lnkRow l k0 i (lnk l k0 i p x) xs).2.getD j [] := h
    rcases row_only hj (by rw [lnk_len2]; exact hl) (fun y hy => hx y (by simp [hy])) h' with h1 | ⟨h1, y, hy, e⟩
    · rcases lnk_only (by rw [hl]; exact hx x (by simp)) h1 with h2 | ⟨h2, e⟩
      · exact Or.inl h2
      · exact Or.inr ⟨h2, x, by simp, e⟩
    · exact Or.inr ⟨h1, y, by simp [hy], e⟩

theorem row_len2 (l : List ByteArray) (k0 i : Nat) : ∀ (xs : List ByteArray) (p : List Int × List (List Int)), (lnkRow l k0 i p xs).2.length = p.2.length
  | [], _ => rfl
  | x :: xs, p => by
    show (lnkRow l k0 i (lnk l k0 i p x) xs).2.length = _
    rw [row_len2, lnk_len2]

theorem links_len2 (cs : List Nc) (l : List ByteArray) (k0 : Nat) : ∀ k, (linksN cs l k0 k).2.length = cs.length
  | 0 => by simp [linksN]
  | k + 1 => by rw [linksN, row_len2, links_len2]

/-- Who is told by a node reads its value. -/
theorem links_only {cs : List Nc} {l : List ByteArray} {k0 : Nat} (hin : ∀ c ∈ cs, ∀ x ∈ c.ins, pos l x < k0 + cs.length) {j : Nat} (hj : j < cs.length) {z : Int} : ∀ k, k ≤ cs.length → z ∈ (linksN cs l k0 k).2.getD j [] → ∃ (i : Nat) (hi : i < cs.length), z = (i : Int) ∧ ∃ x ∈ cs[i].ins, pos l x = k0 + j
  | 0, _, h => by
    rw [linksN] at h
    simp [List.getD, hj] at h
  | k + 1, hk, h => by
    rw [linksN, List.getElem?_eq_getElem (by omega)] at h
    rcases row_only hj (links_len2 cs l k0 k) (fun x hx => hin cs[k] (List.getElem_mem _) x hx) h with h1 | ⟨h1, x, hx, e⟩
    · exact links_only hin hj k (by omega) h1
    · exact ⟨k, by omega, h1, x, hx, e⟩

/-- Where the nodes stand behind all whose values they read, the order is as they stand. -/
theorem line_stands {cs : List Nc} {vin : List (Val × List Int)} {its : List (Nam × List Int × List Int)} (hlen : ∀ c ∈ cs, c.ins.length ≤ 1048576) (hin : ∀ c ∈ cs, ∀ x ∈ c.ins, x ∈ vnames cs vin its) (hS : ∀ (i j : Nat) (hi : i < cs.length), j < cs.length → (∃ x ∈ cs[i].ins, pos (vnames cs vin its) x = vin.length + its.length + j) → j < i) : lineF cs vin its = upF 0 cs.length := by
  have hin' : ∀ c ∈ cs, ∀ x ∈ c.ins, inL x (vnames cs vin its) = true := fun c hc x hx => inL_iff.2 (hin c hc x hx)
  have hp : ∀ c ∈ cs, ∀ x ∈ c.ins, pos (vnames cs vin its) x < vin.length + its.length + cs.length := fun c hc x hx => by have := pos_lt (hin' c hc x hx); rwa [vnames_len] at this
  have hlb := linksN_lb cs (vnames cs vin its) (vin.length + its.length) (vnames_len cs vin its) (fun c hc => ⟨hlen c hc, hin' c hc⟩) cs.length (Nat.le_refl _)
  have hev := Even.links hp cs.length (Nat.le_refl _)
  have hR : ∀ k, k < cs.length → ∀ z ∈ (linksN cs (vnames cs vin its) (vin.length + its.length) cs.length).2.getD k [], 0 ≤ z ∧ z < cs.length := fun k hk z hz => by
    rw [List.getD, List.getElem?_eq_getElem (by rw [hlb.l2]; exact hk)] at hz
    exact (hlb.b2 _ (List.getElem_mem _)).2 z hz
  have h0 : Cons cs.length (linksN cs (vnames cs vin its) (vin.length + its.length) cs.length).2 (upF 0 0) (linksN cs (vnames cs vin its) (vin.length + its.length) cs.length).1 :=
    ⟨hev.1, List.nodup_nil, (fun z hz => by cases hz), (fun i hi _ => hev.2.2 i hi), (fun i _ h => by cases h), (fun p z hz => by simp [upF] at hz)⟩
  unfold lineF
  refine ordF_stands hR (fun j hj z hz => ?_) cs.length 0 (by omega) h0
  obtain ⟨i, hi, rfl, hx⟩ := links_only hp hj cs.length (Nat.le_refl _) hz
  have := hS i j hi hj hx
  omega

/-- The nodes, put into an order. -/
def putN (cs : List Nc) (L : List Int) : List Nc := L.filterMap (fun z => cs[z.toNat]?)

theorem putN_at {cs : List Nc} : ∀ {L : List Int}, (∀ z ∈ L, 0 ≤ z ∧ z < cs.length) → ∀ k : Nat, (putN cs L)[k]? = (L[k]?).bind (fun z => cs[z.toNat]?)
  | [], _, k => by simp [putN]
  | z :: L, h, k => by
    have hz := h z (by simp)
    have e : cs[z.toNat]? = some (cs[z.toNat]'(by omega)) := List.getElem?_eq_getElem _
    have ih := putN_at (L := L) (fun y hy => h y (by simp [hy]))
    unfold putN at ih ⊢
    rw [List.filterMap_cons, e]
    cases k with
    | zero => simp [e]
    | succ k => simpa using ih k

theorem putN_len {cs : List Nc} : ∀ {L : List Int}, (∀ z ∈ L, 0 ≤ z ∧ z < cs.length) → (putN cs L).length = L.length
  | [], _ => rfl
  | z :: L, h => by
    have hz := h z (by simp)
    have e : cs[z.toNat]? = some (cs[z.toNat]'(by omega)) := List.getElem?_eq_getElem _
    have ih := putN_len (L := L) (fun y hy => h y (by simp [hy]))
    unfold putN at ih ⊢
    rw [List.filterMap_cons, e]
    simp [ih]

theorem putN_mem {cs : List Nc} {L : List Int} {c : Nc} (h : c ∈ putN cs L) : c ∈ cs := by
  unfold putN at h
  obtain ⟨z, -, e⟩ := List.mem_filterMap.1 h
  exact List.mem_of_getElem? e

theorem upF_put : ∀ (cs pre : List Nc), putN (pre ++ cs) (upF pre.length cs.length) = cs
  | [], pre => rfl
  | c :: cs, pre => by
    have ih := upF_put cs (pre ++ [c])
    rw [List.append_assoc, List.singleton_append, List.length_append, List.length_singleton] at ih
    rw [List.length_cons, upF]
    unfold putN at ih ⊢
    rw [List.filterMap_cons]
    simp [ih]

theorem putN_perm {cs : List Nc} {L : List Int} (hd : L.Nodup) (hr : ∀ z ∈ L, 0 ≤ z ∧ z < cs.length) (hl : L.length = cs.length) : List.Perm (putN cs L) cs := by
  have hu := upF_put cs []
  rw [List.nil_append, List.length_nil] at hu
  have hnd : (upF 0 cs.length).Nodup := by
    rw [List.nodup_iff_pairwise_ne, List.pairwise_iff_getElem]
    intro i j hi hj hij
    rw [upF_len] at hi hj
    have e1 := upF_at 0 cs.length i hi
    have e2 := upF_at 0 cs.length j hj
    rw [List.getElem?_eq_getElem (by rw [upF_len]; exact hi)] at e1
    rw [List.getElem?_eq_getElem (by rw [upF_len]; exact hj)] at e2
    rw [Option.some.inj e1, Option.some.inj e2]
    omega
  have hp : List.Perm L (upF 0 cs.length) := (List.perm_ext_iff_of_nodup hd hnd).2 fun z => by
    constructor
    · intro h
      have := hr z h
      exact upF_mem.2 (by omega)
    · intro h
      have h1 := upF_mem.1 h
      obtain ⟨q, rfl⟩ : ∃ q : Nat, z = (q : Int) := ⟨z.toNat, by omega⟩
      exact full_ofG hd hr hl (by omega)
  have h2 : List.Perm (putN cs L) (putN cs (upF 0 cs.length)) := hp.filterMap _
  rw [hu] at h2
  exact h2

theorem getElem?_nodup {L : List Int} (hd : L.Nodup) {p q : Nat} {z : Int} (hp : L[p]? = some z) (hq : L[q]? = some z) : p = q := by
  obtain ⟨h1, e1⟩ := List.getElem?_eq_some_iff.1 hp
  obtain ⟨h2, e2⟩ := List.getElem?_eq_some_iff.1 hq
  rw [List.nodup_iff_pairwise_ne, List.pairwise_iff_getElem] at hd
  rcases Nat.lt_trichotomy p q with h | h | h
  · exact absurd (e1.trans e2.symm) (hd p q h1 h2 h)
  · exact h
  · exact absurd (e2.trans e1.symm) (hd q p h2 h1 h)

theorem stands_order {cs : List Nc} {vin vout : List (Val × List Int)} {its : List (Nam × List Int × List Int)} (hlen : ∀ c ∈ cs, c.ins.length ≤ 1048576) (h0 : (orderR cs vin vout its).2 = 0) : (∀ z ∈ lineF cs vin its, 0 ≤ z ∧ z < cs.length) ∧ orderR (putN cs (lineF cs vin its)) vin vout its = (upF 0 cs.length, 0) := by
  obtain ⟨m1, m2, m3, m4, m5⟩ := orderR_iff.1 h0
  have m4' := foundF_iff.1 m4
  obtain ⟨hd, hr, hb⟩ := line_law (vin := vin) (its := its) hlen (fun c hc x hx => inL_iff.2 (m4'.2.2.2 c hc x hx))
  obtain ⟨L, hL⟩ : ∃ L, L = lineF cs vin its := ⟨_, rfl⟩
  rw [← hL] at hd hr hb m5 ⊢
  refine ⟨hr, ?_⟩
  have hp := putN_perm hd hr m5
  have hpl := putN_len (cs := cs) hr
  have hpa := putN_at (cs := cs) hr
  have hpo : List.Perm (((putN cs L).map (·.n)).map (·.out)) ((cs.map (·.n)).map (·.out)) := (hp.map _).map _
  have hpv : List.Perm (vnames (putN cs L) vin its) (vnames cs vin its) := by
    unfold vnames
    exact List.Perm.append_left _ hpo
  have hlv := vnames_len (putN cs L) vin its
  have hin : ∀ c ∈ putN cs L, ∀ x ∈ c.ins, x ∈ vnames (putN cs L) vin its := fun c hc x hx => hpv.mem_iff.2 (m4'.2.2.2 c (putN_mem hc) x hx)
  have hline : lineF (putN cs L) vin its = upF 0 (putN cs L).length := by
    refine line_stands (fun c hc => hlen c (putN_mem hc)) hin fun i j hi hj ⟨x, hx, e⟩ => ?_
    have hx1 := hin _ (List.getElem_mem hi) x hx
    have hx2 := pos_at (inL_iff.2 hx1)
    rw [e] at hx2
    have ej : (vnames (putN cs L) vin its)[vin.length + its.length + j]? = some (putN cs L)[j].n.out := by
      unfold vnames
      rw [List.getElem?_append_right (by simp)]
      simp [hj]
    have hxo : (putN cs L)[j].n.out = x := Option.some.inj (ej.symm.trans hx2)
    have aj := hpa j
    have ai := hpa i
    rw [List.getElem?_eq_getElem hj] at aj
    rw [List.getElem?_eq_getElem hi] at ai
    have hjL : j < L.length := by omega
    have hiL : i < L.length := by omega
    rw [List.getElem?_eq_getElem hjL] at aj
    rw [List.getElem?_eq_getElem hiL] at ai
    have rj := hr L[j] (List.getElem_mem hjL)
    have ri := hr L[i] (List.getElem_mem hiL)
    have zj : L[j].toNat < cs.length := by omega
    have zi : L[i].toNat < cs.length := by omega
    simp only [Option.bind_some, List.getElem?_eq_getElem zj] at aj
    simp only [Option.bind_some, List.getElem?_eq_getElem zi] at ai
    have aj' := Option.some.inj aj
    have ai' := Option.some.inj ai
    have hpo' := pos_out m3 zj
    rw [← aj', hxo] at hpo'
    have hm := hb i L[i].toNat L[j].toNat zi (by rw [List.getElem?_eq_getElem hiL]; congr 1; omega) zj ⟨x, by rw [← ai']; exact hx, hpo'⟩
    obtain ⟨q, hq, eq⟩ := List.mem_take_iff_getElem.1 hm
    have hqj : q = j := getElem?_nodup hd (z := L[j]) (by rw [List.getElem?_eq_getElem (by omega), eq]; congr 1; omega) (List.getElem?_eq_getElem hjL)
    omega
  rw [hpl, m5] at hline
  have hcl : (putN cs L).length = cs.length := by rw [hpl, m5]
  have h5 : (lineF (putN cs L) vin its).length = (putN cs L).length := by rw [hline, upF_len, hcl]
  rw [orderR_of (by rw [hcl]; exact m1) ?_ ?_ ?_ h5, hline]
  · unfold partsF at m2 ⊢
    rw [firstE_zero] at m2 ⊢
    intro z hz
    simp only [List.mem_append] at hz m2
    rcases hz with hz | hz | hz
    · exact m2 z (Or.inl hz)
    · exact m2 z (Or.inr (Or.inl hz))
    · obtain ⟨c, hc, rfl⟩ := List.mem_map.1 hz
      exact m2 _ (Or.inr (Or.inr (List.mem_map_of_mem (putN_mem hc))))
  · rw [namesOK_nil] at m3 ⊢
    exact ⟨fun y hy => m3.1 y (hpv.mem_iff.1 hy), hpv.nodup_iff.2 m3.2⟩
  · rw [foundF_iff]
    exact ⟨m4'.1, m4'.2.1, fun y hy => hpv.mem_iff.2 (m4'.2.2.1 y hy), hin⟩
end Go.Proofs.YtflalpchhojenaaDoor
