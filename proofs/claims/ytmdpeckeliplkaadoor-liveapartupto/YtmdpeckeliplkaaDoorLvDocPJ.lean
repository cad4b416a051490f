/- The document's rows, and that they are the program's: plain functions. -/
import Derived.Test.YtmdpeckeliplkaaDoorPartP
namespace Go.Proofs.YtmdpeckeliplkaaDoor
open Go.RowKit

/-- Does a node read a name? -/
def rdsF (c : Nc) (x : ByteArray) : Bool := c.ins.any (fun y => y.toList == x.toList)

/-- One place of the document's row: d more steps, from c on. -/
def dC (row : List Bool) (M : List (List Bool)) (b : Nat) : Nat → Nat → Bool → Bool
  | 0, _, v => v
  | d + 1, c, v => if v then true else dC row M b d (c + 1) (row.getD c false && (M.getD c []).getD b false)

/-- The document's row of a node, its first j places behind the node. -/
def dRowN (rd : Nat → Bool) (M : List (List Bool)) (n a : Nat) : Nat → List Bool
  | 0 => List.replicate n false
  | j + 1 => (dRowN rd M n a j).set (a + 1 + j) (dC (dRowN rd M n a j) M (a + 1 + j) j (a + 1) (rd (a + 1 + j)))

/-- The document's rows, from behind. -/
def dN (rd : Nat → Nat → Bool) (n : Nat) : Nat → List (List Bool)
  | 0 => List.replicate n []
  | k + 1 => (dN rd n k).set (n - 1 - k) (dRowN (rd (n - 1 - k)) (dN rd n k) n (n - 1 - k) k)

theorem dC_iff (row : List Bool) (M : List (List Bool)) (b : Nat) : ∀ (d c : Nat) (v : Bool), dC row M b d c v = true ↔ v = true ∨ ∃ e, c ≤ e ∧ e < c + d ∧ row.getD e false = true ∧ (M.getD e []).getD b false = true
  | 0, c, v => by
    rw [dC]
    constructor
    · exact Or.inl
    · rintro (h | ⟨e, h1, h2, -⟩)
      · exact h
      · omega
  | d + 1, c, v => by
    rw [dC]
    by_cases hv : v = true
    · rw [if_pos hv]
      simp [hv]
    · rw [if_neg hv, dC_iff row M b d (c + 1)]
      simp only [Bool.and_eq_true]
      constructor
      · rintro (⟨h1, h2⟩ | ⟨e, h1, h2, h3⟩)
        · exact Or.inr ⟨c, by omega, by omega, h1, h2⟩
        · exact Or.inr ⟨e, by omega, by omega, h3⟩
      · rintro (h | ⟨e, h1, h2, h3⟩)
        · exact absurd h hv
        · by_cases e1 : e = c
          · subst e1
            exact Or.inl h3
          · exact Or.inr ⟨e, by omega, by omega, h3⟩

theorem dRowN_len (rd : Nat → Bool) (M : List (List Bool)) (n a : Nat) : ∀ j, (dRowN rd M n a j).length = n
  | 0 => by simp [dRowN]
  | j + 1 => by rw [dRowN, List.length_set]; exact dRowN_len rd M n a j

theorem dRowN_far (rd : Nat → Bool) (M : List (List Bool)) (n a : Nat) : ∀ j e, a + 1 + j ≤ n → (e ≤ a ∨ a + j < e) → (dRowN rd M n a j).getD e false = false
  | 0, e, _, _ => by
    rw [dRowN, List.getD, List.getElem?_replicate]
    split <;> rfl
  | j + 1, e, hj, he => by
    rw [dRowN, getD_set _ _ _ _ _ (by rw [dRowN_len]; omega), if_neg (by omega)]
    exact dRowN_far rd M n a j e (by omega) (by omega)

theorem dRowN_stays (rd : Nat → Bool) (M : List (List Bool)) (n a e i : Nat) (he : e ≤ a + i) : ∀ j, i ≤ j → a + 1 + j ≤ n → (dRowN rd M n a j).getD e false = (dRowN rd M n a i).getD e false
  | 0, h, _ => by obtain rfl : i = 0 := by omega
                  rfl
  | j + 1, h, hj => by
    by_cases e1 : i = j + 1
    · rw [e1]
    · rw [dRowN, getD_set _ _ _ _ _ (by rw [dRowN_len]; omega), if_neg (by omega)]
      exact dRowN_stays rd M n a e i he j (by omega) (by omega)

theorem dRow_iff (rd : Nat → Bool) (M : List (List Bool)) {n a b : Nat} (ha : a < n) (hb : b < n) : (dRowN rd M n a (n - 1 - a)).getD b false = true ↔ a < b ∧ (rd b = true ∨ ∃ c, a < c ∧ c < b ∧ (dRowN rd M n a (n - 1 - a)).getD c false = true ∧ (M.getD c []).getD b false = true) := by
  by_cases hab : a < b
  · have e1 : (dRowN rd M n a (n - 1 - a)).getD b false = dC (dRowN rd M n a (b - 1 - a)) M b (b - 1 - a) (a + 1) (rd b) := by
      rw [dRowN_stays rd M n a b (b - 1 - a + 1) (by omega) (n - 1 - a) (by omega) (by omega), dRowN, getD_set _ _ _ _ _ (by rw [dRowN_len]; omega), if_pos (by omega), show a + 1 + (b - 1 - a) = b by omega]
    rw [e1, dC_iff]
    constructor
    · rintro (h | ⟨e, h1, h2, h3, h4⟩)
      · exact ⟨hab, Or.inl h⟩
      · refine ⟨hab, Or.inr ⟨e, by omega, by omega, ?_, h4⟩⟩
        rw [dRowN_stays rd M n a e (b - 1 - a) (by omega) (n - 1 - a) (by omega) (by omega)]
        exact h3
    · rintro ⟨-, h | ⟨e, h1, h2, h3, h4⟩⟩
      · exact Or.inl h
      · refine Or.inr ⟨e, by omega, by omega, ?_, h4⟩
        rw [dRowN_stays rd M n a e (b - 1 - a) (by omega) (n - 1 - a) (by omega) (by omega)] at h3
        exact h3
  · rw [dRowN_far rd M n a (n - 1 - a) b (by omega) (by omega)]
    constructor
    · intro h; cases h
    · rintro ⟨h, -⟩; omega

theorem dN_len (rd : Nat → Nat → Bool) (n : Nat) : ∀ k, (dN rd n k).length = n
  | 0 => by simp [dN]
  | k + 1 => by rw [dN, List.length_set]; exact dN_len rd n k

theorem dN_stays {rd : Nat → Nat → Bool} {n a b : Nat} (h1 : n - b ≤ a) (ha : a < n) : ∀ c, b ≤ c → c ≤ n → (dN rd n c).getD a [] = (dN rd n b).getD a []
  | 0, h, _ => by obtain rfl : b = 0 := by omega
                  rfl
  | c + 1, h, hc => by
    by_cases e : b = c + 1
    · rw [e]
    · rw [dN, getD_set _ _ _ _ _ (by rw [dN_len]; omega), if_neg (by omega)]
      exact dN_stays h1 ha c (by omega) (by omega)

theorem dN_row (rd : Nat → Nat → Bool) {n a : Nat} (ha : a < n) : (dN rd n n).getD a [] = dRowN (rd a) (dN rd n (n - 1 - a)) n a (n - 1 - a) := by
  rw [dN_stays (b := n - 1 - a + 1) (by omega) ha n (by omega) (by omega), dN, getD_set _ _ _ _ _ (by rw [dN_len]; omega), if_pos (by omega), show n - 1 - (n - 1 - a) = a by omega]

theorem d_iff (rd : Nat → Nat → Bool) {n a b : Nat} (ha : a < n) (hb : b < n) : ((dN rd n n).getD a []).getD b false = true ↔ a < b ∧ (rd a b = true ∨ ∃ c, a < c ∧ c < b ∧ ((dN rd n n).getD a []).getD c false = true ∧ ((dN rd n n).getD c []).getD b false = true) := by
  rw [dN_row rd ha, dRow_iff (rd a) (dN rd n (n - 1 - a)) ha hb]
  constructor
  · rintro ⟨h, h1 | ⟨c, h2, h3, h4, h5⟩⟩
    · exact ⟨h, Or.inl h1⟩
    · exact ⟨h, Or.inr ⟨c, h2, h3, h4, by rw [dN_stays (b := n - 1 - a) (by omega) (by omega) n (by omega) (by omega)]; exact h5⟩⟩
  · rintro ⟨h, h1 | ⟨c, h2, h3, h4, h5⟩⟩
    · exact ⟨h, Or.inl h1⟩
    · exact ⟨h, Or.inr ⟨c, h2, h3, h4, by rw [dN_stays (b := n - 1 - a) (by omega) (by omega) n (by omega) (by omega)] at h5; exact h5⟩⟩

/-- The document's rows are the program's, where the readers are those that read. -/
theorem doc_rows {R : List (List Int)} {n : Nat} {rd : Nat → Nat → Bool} (hB : Behind R n) (hR : ∀ a b, a < n → b < n → a < b → (rd a b = true ↔ (b : Int) ∈ R.getD a [])) {b : Nat} (hb : b < n) : ∀ d a, b - a = d → a < n → (((dN rd n n).getD a []).getD b false = true ↔ ((rowN R n n).getD a []).getD b false = true) := by
  intro d
  induction d using Nat.strongRecOn generalizing b with
  | _ d ih =>
    intro a hd ha
    rw [d_iff rd ha hb]
    constructor
    · rintro ⟨hab, h | ⟨c, h1, h2, h3, h4⟩⟩
      · exact (rows_iff hB ha hb).2 ⟨b, (hR a b ha hb hab).1 h, Or.inl (by simp)⟩
      · have k1 := (ih (c - a) (by omega) (by omega : c < n) a rfl ha).1 h3
        have k2 := (ih (b - c) (by omega) hb c rfl (by omega)).1 h4
        exact rows_on hB (by omega) hb k2 _ a rfl ha k1
    · intro h
      have hab := rows_lt hB hb _ a rfl ha h
      obtain ⟨r, hr, h1⟩ := (rows_iff hB ha hb).1 h
      obtain ⟨hr1, hr2⟩ := hB a ha r hr
      have hrr : ((r.toNat : Nat) : Int) = r := by omega
      have hrd : rd a r.toNat = true := (hR a r.toNat ha (by omega) (by omega)).2 (by rw [hrr]; exact hr)
      rcases h1 with h1 | h1
      · rw [← h1] at hrd
        exact ⟨hab, Or.inl hrd⟩
      · have hlt := rows_lt hB hb _ r.toNat rfl (by omega) h1
        refine ⟨hab, Or.inr ⟨r.toNat, by omega, hlt, ?_, ?_⟩⟩
        · exact (d_iff rd ha (by omega)).2 ⟨by omega, Or.inl hrd⟩
        · exact (ih (b - r.toNat) (by omega) hb r.toNat rfl (by omega)).2 h1

theorem doc_rows_eq {R : List (List Int)} {n : Nat} {rd : Nat → Nat → Bool} (hB : Behind R n) (hR : ∀ a b, a < n → b < n → a < b → (rd a b = true ↔ (b : Int) ∈ R.getD a [])) : dN rd n n = rowN R n n := by
  refine List.ext_getElem (by rw [dN_len, rowN_len]) (fun a h1 h2 => ?_)
  rw [dN_len] at h1
  have e1 : (dN rd n n)[a]'(by rw [dN_len]; exact h1) = (dN rd n n).getD a [] := by rw [List.getD, List.getElem?_eq_getElem (by rw [dN_len]; exact h1)]; rfl
  have e2 : (rowN R n n)[a]'(by rw [rowN_len]; exact h1) = (rowN R n n).getD a [] := by rw [List.getD, List.getElem?_eq_getElem (by rw [rowN_len]; exact h1)]; rfl
  rw [e1, e2]
  have l1 : ((dN rd n n).getD a []).length = n := by rw [dN_row rd h1, dRowN_len]
  have l2 : ((rowN R n n).getD a []).length = n := rowN_row hB n (Nat.le_refl _) a (by omega) h1
  refine List.ext_getElem (by rw [l1, l2]) (fun b h3 h4 => ?_)
  rw [l1] at h3
  have g : ∀ {X : List Bool} (h : b < X.length), X[b] = X.getD b false := fun {X} h => by
    rw [List.getD, List.getElem?_eq_getElem h]
    rfl
  rw [g (by omega), g (by omega)]
  exact Bool.eq_iff_iff.2 (doc_rows hB hR h3 _ a rfl h1)

theorem rdS_spec {l : List ByteArray} {n i : Nat} {R : List (List Int)} {x : ByteArray} (hi : i < n) (hl : l.length = i) (hR : R.length = n + n) (hJ : ∀ a, a < n → (a : Int) ∈ R.getD i [] → (i : Int) ∈ R.getD (n + a) []) :
    (rdS l n i R x).length = n + n ∧ (∀ a, a < n → (a : Int) ∈ (rdS l n i R x).getD i [] → (i : Int) ∈ (rdS l n i R x).getD (n + a) []) ∧ (∀ a, a < n → ∀ z, z ∈ (rdS l n i R x).getD (n + a) [] ↔ z ∈ R.getD (n + a) [] ∨ (z = (i : Int) ∧ inL x l = true ∧ pos l x = a)) ∧ ∀ j, j < n → j ≠ i → (rdS l n i R x).getD j [] = R.getD j [] := by
  unfold rdS
  by_cases hx : inL x l = true
  · have hp := pos_lt hx
    by_cases hc : (R.getD i []).contains ((pos l x : Nat) : Int) = true
    · rw [if_neg (by simp only [hx, hc]; decide)]
      refine ⟨hR, hJ, fun a ha z => ?_, fun j _ _ => rfl⟩
      constructor
      · exact Or.inl
      · rintro (h | ⟨rfl, -, rfl⟩)
        · exact h
        · exact hJ _ ha (by simpa using hc)
    · have hc2 : (R.getD i []).contains ((pos l x : Nat) : Int) = false := by simpa using hc
      rw [if_pos (by rw [hx, hc2]; rfl)]
      have g : ∀ j, ((R.set i (R.getD i [] ++ [((pos l x : Nat) : Int)])).set (n + pos l x) (R.getD (n + pos l x) [] ++ [(i : Int)])).getD j [] = if j = n + pos l x then R.getD (n + pos l x) [] ++ [(i : Int)] else if j = i then R.getD i [] ++ [((pos l x : Nat) : Int)] else R.getD j [] := fun j => by
        rw [getD_set _ _ _ _ _ (by rw [List.length_set]; omega), getD_set _ _ _ _ _ (by omega)]
      refine ⟨by simp [hR], fun a ha h => ?_, fun a ha z => ?_, fun j hj hne => ?_⟩
      · rw [g, if_neg (by omega), if_pos rfl] at h
        rw [g]
        by_cases e : n + a = n + pos l x
        · rw [if_pos e]
          simp
        · rw [if_neg e, if_neg (by omega)]
          rcases List.mem_append.1 h with h | h
          · exact hJ a ha h
          · simp at h
            omega
      · rw [g]
        by_cases e : n + a = n + pos l x
        · have e2 : pos l x = a := by omega
          rw [if_pos e, e2]
          simp [hx]
        · rw [if_neg e, if_neg (by omega)]
          constructor
          · exact Or.inl
          · rintro (h | ⟨-, -, h⟩)
            · exact h
            · omega
      · rw [g, if_neg (by omega), if_neg hne]
  · have hx2 : inL x l = false := by simpa using hx
    rw [if_neg (by rw [hx2]; simp)]
    refine ⟨hR, hJ, fun a ha z => ?_, fun j _ _ => rfl⟩
    constructor
    · exact Or.inl
    · rintro (h | ⟨-, h, -⟩)
      · exact h
      · exact absurd h hx

theorem rdRow_spec {l : List ByteArray} {n i : Nat} (hi : i < n) (hl : l.length = i) : ∀ (xs : List ByteArray) {R : List (List Int)}, R.length = n + n → (∀ a, a < n → (a : Int) ∈ R.getD i [] → (i : Int) ∈ R.getD (n + a) []) →
    (rdRow l n i R xs).length = n + n ∧ (∀ a, a < n → ∀ z, z ∈ (rdRow l n i R xs).getD (n + a) [] ↔ z ∈ R.getD (n + a) [] ∨ (z = (i : Int) ∧ ∃ x ∈ xs, inL x l = true ∧ pos l x = a)) ∧ ∀ j, j < n → j ≠ i → (rdRow l n i R xs).getD j [] = R.getD j []
  | [], R, hR, _ => ⟨hR, fun a _ z => by simp [rdRow], fun j _ _ => rfl⟩
  | x :: xs, R, hR, hJ => by
    obtain ⟨s1, s2, s3, s4⟩ := rdS_spec (x := x) hi hl hR hJ
    obtain ⟨t1, t2, t3⟩ := rdRow_spec hi hl xs s1 s2
    refine ⟨t1, fun a ha z => ?_, fun j hj hne => (t3 j hj hne).trans (s4 j hj hne)⟩
    rw [show rdRow l n i R (x :: xs) = rdRow l n i (rdS l n i R x) xs from rfl, t2 a ha z, s3 a ha z]
    constructor
    · rintro ((h | ⟨h1, h2, h3⟩) | ⟨h1, y, h2, h3⟩)
      · exact Or.inl h
      · exact Or.inr ⟨h1, x, List.mem_cons_self .., h2, h3⟩
      · exact Or.inr ⟨h1, y, List.mem_cons_of_mem _ h2, h3⟩
    · rintro (h | ⟨h1, y, h2, h3⟩)
      · exact Or.inl (Or.inl h)
      · rcases List.mem_cons.1 h2 with rfl | h2
        · exact Or.inl (Or.inr ⟨h1, h3⟩)
        · exact Or.inr ⟨h1, y, h2, h3⟩

theorem needN_spec (ns : List Nc) : ∀ k, k ≤ ns.length → (needN ns k).length = ns.length + ns.length ∧ (∀ j, k ≤ j → j < ns.length → (needN ns k).getD j [] = []) ∧ ∀ a, a < ns.length → ∀ z, z ∈ (needN ns k).getD (ns.length + a) [] ↔ ∃ r, r < k ∧ z = (r : Int) ∧ ∃ x ∈ ((ns[r]?.map (·.ins)).getD []), inL x (outsN (ns.take r)) = true ∧ pos (outsN (ns.take r)) x = a
  | 0, _ => by
    have h : ∀ j, (List.replicate (ns.length + ns.length) ([] : List Int)).getD j [] = [] := fun j => by
      rw [List.getD, List.getElem?_replicate]
      split <;> rfl
    exact ⟨by simp [needN], fun j _ _ => h j, fun a _ z => by rw [needN, h]; simp⟩
  | k + 1, hk => by
    obtain ⟨h1, h2, h3⟩ := needN_spec ns k (by omega)
    rw [needN]
    obtain ⟨t1, t2, t3⟩ := rdRow_spec (l := outsN (ns.take k)) (n := ns.length) (i := k) (by omega) (by rw [outsN_len, List.length_take]; omega) ((ns[k]?.map (·.ins)).getD []) h1 (fun a _ h => by rw [h2 k (Nat.le_refl _) (by omega)] at h; cases h)
    refine ⟨t1, fun j hj hj2 => (t3 j hj2 (by omega)).trans (h2 j (by omega) hj2), fun a ha z => ?_⟩
    rw [t2 a ha z, h3 a ha z]
    constructor
    · rintro (⟨r, e1, e2⟩ | ⟨e1, e2⟩)
      · exact ⟨r, by omega, e2⟩
      · exact ⟨k, by omega, e1, e2⟩
    · rintro ⟨r, e1, e2, e3⟩
      by_cases e : r = k
      · subst e
        exact Or.inr ⟨e2, e3⟩
      · exact Or.inl ⟨r, by omega, e2, e3⟩

theorem pos_unlike2 {l : List ByteArray} {k : Nat} (hk : k < l.length) (h : inL l[k] (l.take k) = false) : inL l[k] l = true ∧ pos l l[k] = k := by
  have h1 : inL l[k] l = true := by
    unfold inL
    rw [List.any_eq_true]
    exact ⟨l[k], List.getElem_mem _, by simp⟩
  refine ⟨h1, ?_⟩
  have h2 := pos_at h1
  have h3 := pos_lt h1
  rcases Nat.lt_trichotomy (pos l l[k]) k with h4 | h4 | h4
  · exfalso
    unfold inL at h
    rw [List.any_eq_false] at h
    have hm : l[k] ∈ l.take k := by
      rw [List.mem_iff_getElem?]
      exact ⟨pos l l[k], by rw [List.getElem?_take, if_pos h4]; exact h2⟩
    exact h _ hm (by simp)
  · exact h4
  · exfalso
    have h5 := List.not_of_lt_findIdx (p := fun y : ByteArray => y.data.toList == (l[k]).data.toList) (xs := l) (i := k) h4
    simp at h5

/-- Who reads a node's value, in the order of work, are those that read its name. -/
theorem reads_iff {ns : List Nc} (hu : ∀ k (hk : k < ns.length), inL ns[k].n.out (outsN (ns.take k)) = false) {a b : Nat} (ha : a < ns.length) (hb : b < ns.length) (hab : a < b) : rdsF ns[b] ns[a].n.out = true ↔ (b : Int) ∈ ((needN ns ns.length).drop ns.length).getD a [] := by
  rw [drop_getD, (needN_spec ns ns.length (Nat.le_refl _)).2.2 a ha]
  have hat : (outsN (ns.take b))[a]? = some ns[a].n.out := by
    unfold outsN
    rw [List.getElem?_map, List.getElem?_take, if_pos hab, List.getElem?_eq_getElem ha]
    rfl
  have hlen : (outsN (ns.take b)).length = b := by rw [outsN_len, List.length_take]; omega
  have hself : inL ns[a].n.out (outsN (ns.take b)) = true ∧ pos (outsN (ns.take b)) ns[a].n.out = a := by
    have e1 : (outsN (ns.take b))[a]'(by omega) = ns[a].n.out := by
      have := List.getElem?_eq_getElem (l := outsN (ns.take b)) (i := a) (by omega)
      rw [this] at hat
      injection hat
    have h := pos_unlike2 (l := outsN (ns.take b)) (k := a) (by omega) (by
      rw [e1]
      have e2 : (outsN (ns.take b)).take a = outsN (ns.take a) := by
        unfold outsN
        rw [← List.map_take, List.take_take, Nat.min_eq_left (by omega)]
      rw [e2]
      exact hu a ha)
    rw [e1] at h
    exact h
  unfold rdsF
  rw [List.any_eq_true]
  constructor
  · rintro ⟨x, hx, he⟩
    have e : x = ns[a].n.out := bytes_ext (by simpa [ByteArray.toList_eq] using he)
    exact ⟨b, hb, rfl, x, by rw [List.getElem?_eq_getElem hb]; exact hx, by rw [e]; exact hself.1, by rw [e]; exact hself.2⟩
  · rintro ⟨r, hr, e1, x, hx, h1, h2⟩
    obtain rfl : r = b := by omega
    rw [List.getElem?_eq_getElem hb] at hx
    refine ⟨x, hx, ?_⟩
    have h3 := pos_at h1
    rw [h2, hat] at h3
    have e : ns[a].n.out = x := by injection h3
    rw [e]
    simp
end Go.Proofs.YtmdpeckeliplkaaDoor
