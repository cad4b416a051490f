/- The document's order of work, in pure words: it is the program's. -/
import Derived.Test.YtflalpchhojenaaDoorGMorePJ
import Derived.Test.YtflalpchhojenaaDoorGStandPJ
namespace Go.Proofs.YtflalpchhojenaaDoor
open Go.RowKit

/-- The names of what the nodes make. -/
def outsN (cs : List Nc) : List ByteArray := (cs.map (·.n)).map (·.out)

theorem outsN_len (cs : List Nc) : (outsN cs).length = cs.length := by simp [outsN]

/-- The node that makes a value, or -1. -/
def mkN (cs : List Nc) (x : ByteArray) : Int := if pos (outsN cs) x < cs.length then (pos (outsN cs) x : Int) else -1

/-- Is a node ready, when so many are done? -/
def readyF (cs : List Nc) (acc : List Int) (i : Nat) : Bool := !(decide ((i : Int) ∈ acc)) && ((cs[i]?.map (·.ins)).getD []).all (fun x => decide (mkN cs x < 0) || decide (mkN cs x ∈ acc))

/-- The least number that is so, among the last d of n; -1: none. -/
def lowF (p : Nat → Bool) (n : Nat) : Nat → Int
  | 0 => -1
  | d + 1 => if p (n - (d + 1)) = true then ((n - (d + 1) : Nat) : Int) else lowF p n d

theorem lowF_spec (p : Nat → Bool) (n : Nat) : ∀ d, d ≤ n → (lowF p n d = -1 ∧ ∀ i, n - d ≤ i → i < n → p i = false) ∨ ∃ k : Nat, lowF p n d = (k : Int) ∧ n - d ≤ k ∧ k < n ∧ p k = true ∧ ∀ i, n - d ≤ i → i < k → p i = false
  | 0, _ => Or.inl ⟨rfl, fun i h1 h2 => by omega⟩
  | d + 1, hd => by
    rw [lowF]
    by_cases hp : p (n - (d + 1)) = true
    · rw [if_pos hp]
      exact Or.inr ⟨n - (d + 1), rfl, Nat.le_refl _, by omega, hp, fun i h1 h2 => by omega⟩
    · rw [if_neg hp]
      have hp' : p (n - (d + 1)) = false := by simpa using hp
      rcases lowF_spec p n d (by omega) with ⟨h1, h2⟩ | ⟨k, h1, h2, h3, h4, h5⟩
      · refine Or.inl ⟨h1, fun i hi1 hi2 => ?_⟩
        by_cases e : i = n - (d + 1)
        · rw [e]; exact hp'
        · exact h2 i (by omega) hi2
      · refine Or.inr ⟨k, h1, by omega, h3, h4, fun i hi1 hi2 => ?_⟩
        by_cases e : i = n - (d + 1)
        · rw [e]; exact hp'
        · exact h5 i (by omega) hi2

/-- The order of work, as far as it goes. -/
def workF (cs : List Nc) : Nat → List Int → List Int
  | 0, acc => acc
  | f + 1, acc => if lowF (readyF cs acc) cs.length cs.length < 0 then acc else workF cs f (acc ++ [lowF (readyF cs acc) cs.length cs.length])

theorem lowF_zero {W : List Int} {n : Nat} {p : Nat → Bool} (hl : W.length = n) (h : ∀ i : Nat, i < n → (p i = true ↔ W.getD i 0 = 0)) : (W.findIdx? (fun z => z == 0) = none ∧ lowF p n n = -1) ∨ ∃ k : Nat, k < n ∧ W.findIdx? (fun z => z == 0) = some k ∧ lowF p n n = (k : Int) ∧ W.getD k 0 = 0 := by
  rcases lowF_spec p n n (Nat.le_refl _) with ⟨h1, h2⟩ | ⟨k, h1, h2, h3, h4, h5⟩
  · refine Or.inl ⟨find_no_zero (fun j hj e => ?_), h1⟩
    have := h2 j (by omega) (by omega)
    rw [(h j (by omega)).2 e] at this
    simp at this
  · refine Or.inr ⟨k, h3, find_zero (by omega) ((h k h3).1 h4) (fun j hj e => ?_), h1, (h k h3).1 h4⟩
    have := h5 j (by omega) hj
    rw [(h j (by omega)).2 e] at this
    simp at this

theorem work_ord {cs : List Nc} {R : List (List Int)} (hR : ∀ k, k < cs.length → ∀ z ∈ R.getD k [], 0 ≤ z ∧ z < cs.length) (hw : ∀ {acc W : List Int}, Cons cs.length R acc W → ∀ i : Nat, i < cs.length → (readyF cs acc i = true ↔ W.getD i 0 = 0)) : ∀ (f : Nat) {acc W : List Int}, f + acc.length = cs.length → Cons cs.length R acc W → workF cs (f + 1) acc = acc ++ ordF f W R
  | 0, acc, W, hf, h => by
    rw [ordF, List.append_nil, workF]
    rcases lowF_zero h.len (hw h) with ⟨-, e⟩ | ⟨k, hk, -, e, h0⟩
    · rw [if_pos (by rw [e]; decide)]
    · have := full_ofG h.once h.inr (by omega) hk
      have := h.gone k hk this
      omega
  | f + 1, acc, W, hf, h => by
    rw [workF]
    unfold ordF
    rcases lowF_zero h.len (hw h) with ⟨e1, e⟩ | ⟨k, hk, e1, e, h0⟩
    · rw [if_pos (by rw [e]; decide), e1, List.append_nil]
    · rw [if_neg (by rw [e]; omega), e1, e]
      have st := h.step hR hk h0
      rw [work_ord hR hw f (by rw [List.length_append, List.length_singleton]; omega) st, List.append_assoc]
      rfl

theorem mk_pos {cs : List Nc} {vin : List (Val × List Int)} {its : List (Nam × List Int × List Int)} (hn : namesOK [] (vnames cs vin its) = true) {x : ByteArray} (hx : x ∈ vnames cs vin its) : (mkN cs x = -1 ∧ pos (vnames cs vin its) x < vin.length + its.length) ∨ (mkN cs x = ((pos (vnames cs vin its) x - (vin.length + its.length) : Nat) : Int) ∧ vin.length + its.length ≤ pos (vnames cs vin its) x) := by
  obtain ⟨A, hA⟩ : ∃ A, A = (vin.map (·.1)).map (·.name) ++ (its.map (·.1)).map (·.name) := ⟨_, rfl⟩
  have hAl : A.length = vin.length + its.length := by rw [hA]; simp
  have ev : vnames cs vin its = A ++ outsN cs := by rw [hA]; rfl
  rw [ev] at hx hn ⊢
  rw [pos_app, ← hAl]
  have hd := (namesOK_nil.1 hn).2
  rw [List.nodup_append] at hd
  by_cases hp : pos A x < A.length
  · rw [if_pos hp]
    refine Or.inl ⟨?_, hp⟩
    have hxa : x ∈ A := by
      have h1 : A.findIdx (fun y => y.data.toList == x.data.toList) < A.length := hp
      have h2 := List.findIdx_getElem (w := h1)
      have h3 : A[A.findIdx (fun y => y.data.toList == x.data.toList)] = x := bytes_eq (by simpa using h2)
      rw [← h3]
      exact List.getElem_mem h1
    unfold mkN
    rw [if_neg]
    intro hlt
    have h1 : (outsN cs).findIdx (fun y => y.data.toList == x.data.toList) < (outsN cs).length := by rw [outsN_len]; exact hlt
    have h2 := List.findIdx_getElem (w := h1)
    have h3 : (outsN cs)[(outsN cs).findIdx (fun y => y.data.toList == x.data.toList)] = x := bytes_eq (by simpa using h2)
    exact hd.2.2 x hxa _ (List.getElem_mem h1) h3.symm
  · rw [if_neg hp]
    refine Or.inr ⟨?_, by omega⟩
    have hxb : x ∈ outsN cs := by
      rcases List.mem_append.1 hx with h | h
      · exact absurd (pos_in h) hp
      · exact h
    have hlt := pos_in hxb
    rw [outsN_len] at hlt
    unfold mkN
    rw [if_pos hlt, show pos (outsN cs) x + A.length - A.length = pos (outsN cs) x by omega]

/-- The document's order is the program's. -/
theorem work_line {cs : List Nc} {vin : List (Val × List Int)} {its : List (Nam × List Int × List Int)} (hlen : ∀ c ∈ cs, c.ins.length ≤ 1048576) (hn : namesOK [] (vnames cs vin its) = true) (hin : ∀ c ∈ cs, ∀ x ∈ c.ins, x ∈ vnames cs vin its) : workF cs (cs.length + 1) [] = lineF cs vin its := by
  have hin' : ∀ c ∈ cs, ∀ x ∈ c.ins, inL x (vnames cs vin its) = true := fun c hc x hx => inL_iff.2 (hin c hc x hx)
  have hp : ∀ c ∈ cs, ∀ x ∈ c.ins, pos (vnames cs vin its) x < vin.length + its.length + cs.length := fun c hc x hx => by have := pos_lt (hin' c hc x hx); rwa [vnames_len] at this
  have hlb := linksN_lb cs (vnames cs vin its) (vin.length + its.length) (vnames_len cs vin its) (fun c hc => ⟨hlen c hc, hin' c hc⟩) cs.length (Nat.le_refl _)
  have hev := Even.links hp cs.length (Nat.le_refl _)
  have hR : ∀ k, k < cs.length → ∀ z ∈ (linksN cs (vnames cs vin its) (vin.length + its.length) cs.length).2.getD k [], 0 ≤ z ∧ z < cs.length := fun k hk z hz => by
    rw [List.getD, List.getElem?_eq_getElem (by rw [hlb.l2]; exact hk)] at hz
    exact (hlb.b2 _ (List.getElem_mem _)).2 z hz
  have h0 : Cons cs.length (linksN cs (vnames cs vin its) (vin.length + its.length) cs.length).2 [] (linksN cs (vnames cs vin its) (vin.length + its.length) cs.length).1 :=
    ⟨hev.1, List.nodup_nil, (fun z hz => by cases hz), (fun i hi _ => hev.2.2 i hi), (fun i _ h => by cases h), (fun p z hz => by simp at hz)⟩
  have hw : ∀ {acc W : List Int}, Cons cs.length (linksN cs (vnames cs vin its) (vin.length + its.length) cs.length).2 acc W → ∀ i : Nat, i < cs.length → (readyF cs acc i = true ↔ W.getD i 0 = 0) := by
    intro acc W hc i hi
    unfold readyF
    rw [List.getElem?_eq_getElem hi, Option.map_some, Option.getD_some, Bool.and_eq_true, List.all_eq_true]
    by_cases hia : (i : Int) ∈ acc
    · have := hc.gone i hi hia
      constructor
      · intro h
        simp [hia] at h
      · intro h
        omega
    · rw [hc.free i hi hia]
      constructor
      · rintro ⟨-, h⟩
        have e : owed (linksN cs (vnames cs vin its) (vin.length + its.length) cs.length).2 acc (i : Int) cs.length = 0 := owed_none fun j hj hja hm => by
          obtain ⟨i', hi', e1, x, hx, e2⟩ := links_only hp hj cs.length (Nat.le_refl _) hm
          obtain rfl : i = i' := by omega
          have hh := h x hx
          rcases mk_pos hn (hin _ (List.getElem_mem hi) x hx) with ⟨m1, m2⟩ | ⟨m1, m2⟩
          · omega
          · rw [m1, Bool.or_eq_true, decide_eq_true_eq, decide_eq_true_eq] at hh
            rcases hh with hh | hh
            · omega
            · rw [show pos (vnames cs vin its) x - (vin.length + its.length) = j by omega] at hh
              exact hja hh
        omega
      · intro h
        have hz : owed (linksN cs (vnames cs vin its) (vin.length + its.length) cs.length).2 acc (i : Int) cs.length = 0 := by omega
        refine ⟨by simp [hia], fun x hx => ?_⟩
        rw [Bool.or_eq_true, decide_eq_true_eq, decide_eq_true_eq]
        rcases mk_pos hn (hin _ (List.getElem_mem hi) x hx) with ⟨m1, m2⟩ | ⟨m1, m2⟩
        · left
          omega
        · right
          rw [m1]
          have hpx := hp _ (List.getElem_mem hi) x hx
          refine Classical.byContradiction fun hja => ?_
          exact owed_zero hz (pos (vnames cs vin its) x - (vin.length + its.length)) (by omega) hja (links_tell hp hi (by omega) ⟨x, hx, by omega⟩ cs.length hi (Nat.le_refl _))
  unfold lineF
  have := work_ord hR hw cs.length (acc := []) (by simp) h0
  rw [this, List.nil_append]
end Go.Proofs.YtflalpchhojenaaDoor
