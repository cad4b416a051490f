/- Who reads whose value, and which nodes are before which: plain functions and what holds of them. -/
import Derived.Test.YtmdpeckeliplkaaDoorGLnkJ
namespace Go.Proofs.YtmdpeckeliplkaaDoor
open Go.RowKit

/-- One more name that a node reads: the first n lists are whose values each node reads, the next n who reads each one's. -/
def rdS (l : List ByteArray) (n i : Nat) (R : List (List Int)) (x : ByteArray) : List (List Int) :=
  if inL x l && !((R.getD i []).contains ((pos l x : Nat) : Int)) then (R.set i (R.getD i [] ++ [((pos l x : Nat) : Int)])).set (n + pos l x) (R.getD (n + pos l x) [] ++ [(i : Int)]) else R

def rdRow (l : List ByteArray) (n i : Nat) (R : List (List Int)) (xs : List ByteArray) : List (List Int) := xs.foldl (rdS l n i) R

/-- The names that nodes make. -/
def outsN (ns : List Nc) : List ByteArray := ns.map (fun c => c.n.out)

/-- What the first k nodes read. -/
def needN (ns : List Nc) : Nat → List (List Int)
  | 0 => List.replicate (ns.length + ns.length) []
  | k + 1 => rdRow (outsN (ns.take k)) ns.length k (needN ns k) ((ns[k]?.map (·.ins)).getD [])

theorem rdRow_step (l : List ByteArray) (n i : Nat) (R : List (List Int)) (xs : List ByteArray) {t : Nat} (ht : t < xs.length) : rdRow l n i R (xs.take (t + 1)) = rdS l n i (rdRow l n i R (xs.take t)) xs[t] := by
  unfold rdRow
  rw [List.take_add_one, List.getElem?_eq_getElem ht, List.foldl_append]
  rfl

theorem needN_step (ns : List Nc) {k : Nat} (hk : k < ns.length) : needN ns (k + 1) = rdRow (outsN (ns.take k)) ns.length k (needN ns k) ns[k].ins := by
  rw [needN, List.getElem?_eq_getElem hk]
  rfl

/-- How they are: numbers ahead of one's own, and behind it. -/
structure NB (n cnt : Nat) (R : List (List Int)) : Prop where
  len : R.length = n + n
  b1 : ∀ j, j < n → ∀ z ∈ R.getD j [], 0 ≤ z ∧ z < (j : Int)
  b2 : ∀ j, j < n → ∀ z ∈ R.getD (n + j) [], (j : Int) < z ∧ z < (n : Int)
  cnt : ∀ j, (R.getD j []).length ≤ cnt

theorem getD_set {α : Type} (l : List α) (m : Nat) (v d : α) (j : Nat) (hm : m < l.length) : (l.set m v).getD j d = if j = m then v else l.getD j d := by
  by_cases e : j = m
  · subst e
    rw [if_pos rfl, List.getD, List.getElem?_set_self hm]
    rfl
  · rw [if_neg e, List.getD, List.getElem?_set_ne (fun h => e h.symm)]
    rfl

theorem NB.start (n : Nat) : NB n 0 (List.replicate (n + n) []) := by
  have h : ∀ j, (List.replicate (n + n) ([] : List Int)).getD j [] = [] := fun j => by
    rw [List.getD, List.getElem?_replicate]
    split <;> rfl
  exact ⟨by simp, fun j _ z hz => by rw [h] at hz; simp at hz, fun j _ z hz => by rw [h] at hz; simp at hz, fun j => by rw [h]; simp⟩

theorem NB.le {n a b : Nat} {R : List (List Int)} (h : NB n a R) (hab : a ≤ b) : NB n b R :=
  ⟨h.len, h.b1, h.b2, fun j => by have := h.cnt j; omega⟩

theorem NB.step {n cnt i : Nat} {R : List (List Int)} (h : NB n cnt R) {l : List ByteArray} {x : ByteArray} (hi : i < n) (hl : l.length = i) : NB n (cnt + 1) (rdS l n i R x) := by
  unfold rdS
  split
  · rename_i hc
    simp only [Bool.and_eq_true] at hc
    have hp := pos_lt hc.1
    rw [hl] at hp
    have hlen := h.len
    have g : ∀ j, ((R.set i (R.getD i [] ++ [((pos l x : Nat) : Int)])).set (n + pos l x) (R.getD (n + pos l x) [] ++ [(i : Int)])).getD j [] = if j = n + pos l x then R.getD (n + pos l x) [] ++ [(i : Int)] else if j = i then R.getD i [] ++ [((pos l x : Nat) : Int)] else R.getD j [] := fun j => by
      rw [getD_set _ _ _ _ _ (by rw [List.length_set]; omega), getD_set _ _ _ _ _ (by omega)]
    refine ⟨by simp [hlen], fun j hj z hz => ?_, fun j hj z hz => ?_, fun j => ?_⟩
    · rw [g, if_neg (by omega)] at hz
      by_cases e : j = i
      · subst e
        rw [if_pos rfl] at hz
        rcases List.mem_append.1 hz with h1 | h1
        · exact h.b1 j hj z h1
        · simp at h1; omega
      · rw [if_neg e] at hz
        exact h.b1 j hj z hz
    · rw [g] at hz
      by_cases e : n + j = n + pos l x
      · have e2 : j = pos l x := by omega
        rw [if_pos e] at hz
        rcases List.mem_append.1 hz with h1 | h1
        · rw [← e2] at h1
          exact h.b2 j hj z h1
        · simp at h1; omega
      · rw [if_neg e, if_neg (by omega)] at hz
        exact h.b2 j hj z hz
    · rw [g]
      have c1 := h.cnt (n + pos l x)
      have c2 := h.cnt i
      have c3 := h.cnt j
      split
      · simp only [List.length_append, List.length_singleton]; omega
      · split
        · simp only [List.length_append, List.length_singleton]; omega
        · omega
  · exact h.le (by omega)

theorem NB.row {n i : Nat} {l : List ByteArray} (hi : i < n) (hl : l.length = i) : ∀ (xs : List ByteArray) {cnt : Nat} {R : List (List Int)}, NB n cnt R → NB n (cnt + xs.length) (rdRow l n i R xs)
  | [], _, _, h => h
  | x :: xs, cnt, R, h => by
    have := NB.row hi hl xs (h.step (x := x) hi hl)
    rw [List.length_cons, show cnt + (xs.length + 1) = cnt + 1 + xs.length by omega]
    exact this

theorem outsN_len (ns : List Nc) : (outsN ns).length = ns.length := by simp [outsN]

theorem needN_nb (ns : List Nc) (hin : ∀ c ∈ ns, c.ins.length ≤ 1048576) : ∀ k, k ≤ ns.length → NB ns.length (k * 1048576) (needN ns k)
  | 0, _ => by rw [Nat.zero_mul]; exact NB.start _
  | k + 1, hk => by
    rw [needN_step ns (by omega)]
    have h1 := needN_nb ns hin k (by omega)
    have h2 := hin ns[k] (List.getElem_mem (by omega))
    exact (NB.row (by omega) (by rw [outsN_len, List.length_take]; omega) ns[k].ins h1).le (by omega)

/-- Which nodes' values are outputs. -/
def outS (l : List ByteArray) (bs : List Bool) (x : ByteArray) : List Bool := if inL x l then bs.set (pos l x) true else bs

def outN (l : List ByteArray) (os : List ByteArray) : List Bool := os.foldl (outS l) (List.replicate l.length false)

theorem outN_step (l os : List ByteArray) {t : Nat} (ht : t < os.length) : outN l (os.take (t + 1)) = outS l (outN l (os.take t)) os[t] := by
  unfold outN
  rw [List.take_add_one, List.getElem?_eq_getElem ht, List.foldl_append]
  rfl

theorem outN_len (l : List ByteArray) : ∀ os : List ByteArray, (outN l os).length = l.length := by
  have h : ∀ (os : List ByteArray) (bs : List Bool), (os.foldl (outS l) bs).length = bs.length := by
    intro os
    induction os with
    | nil => intro _; rfl
    | cons x os ih => intro bs; rw [List.foldl_cons, ih]; unfold outS; split <;> simp
  intro os
  unfold outN
  rw [h]
  simp

/-- A row with another one taken in, and with all those of some readers. -/
def joinF (row other : List Bool) : List Bool := List.zipWith (fun a b => a || b) row other

def joinR (M : List (List Bool)) (row : List Bool) (rs : List Int) : List Bool := rs.foldl (fun row r => joinF (row.set r.toNat true) (M.getD r.toNat [])) row

/-- The rows, from behind. -/
def rowN (Rr : List (List Int)) (n : Nat) : Nat → List (List Bool)
  | 0 => List.replicate n []
  | b + 1 => (rowN Rr n b).set (n - 1 - b) (joinR (rowN Rr n b) (List.replicate n false) (Rr.getD (n - 1 - b) []))

theorem joinR_step (M : List (List Bool)) (row : List Bool) (rs : List Int) {t : Nat} (ht : t < rs.length) : joinR M row (rs.take (t + 1)) = joinF ((joinR M row (rs.take t)).set rs[t].toNat true) (M.getD rs[t].toNat []) := by
  unfold joinR
  rw [List.take_add_one, List.getElem?_eq_getElem ht, List.foldl_append]
  rfl

theorem joinF_len {row other : List Bool} (h : row.length = other.length) : (joinF row other).length = row.length := by simp [joinF, h]

theorem joinR_len (M : List (List Bool)) (n : Nat) : ∀ (rs : List Int) (row : List Bool), row.length = n → (∀ r ∈ rs, (M.getD r.toNat []).length = n) → (joinR M row rs).length = n
  | [], row, h, _ => h
  | r :: rs, row, h, hr => by
    have h1 := hr r (List.mem_cons_self ..)
    unfold joinR
    rw [List.foldl_cons]
    exact joinR_len M n rs _ (by rw [joinF_len (by rw [List.length_set]; omega)]; simp [h]) (fun x hx => hr x (List.mem_cons_of_mem _ hx))

theorem joinR_iff (M : List (List Bool)) (n b : Nat) (hb : b < n) : ∀ (rs : List Int) (row : List Bool), row.length = n → (∀ r ∈ rs, 0 ≤ r ∧ r < (n : Int) ∧ (M.getD r.toNat []).length = n) → ((joinR M row rs).getD b false = true ↔ row.getD b false = true ∨ ∃ r ∈ rs, b = r.toNat ∨ (M.getD r.toNat []).getD b false = true)
  | [], row, h, _ => by simp [joinR]
  | r :: rs, row, h, hr => by
    obtain ⟨h0, h2, h1⟩ := hr r (List.mem_cons_self ..)
    have ih := joinR_iff M n b hb rs (joinF (row.set r.toNat true) (M.getD r.toNat [])) (by rw [joinF_len (by rw [List.length_set]; omega)]; simp [h]) (fun x hx => hr x (List.mem_cons_of_mem _ hx))
    have e : joinR M row (r :: rs) = joinR M (joinF (row.set r.toNat true) (M.getD r.toNat [])) rs := rfl
    rw [e, ih]
    have f : (joinF (row.set r.toNat true) (M.getD r.toNat [])).getD b false = ((row.set r.toNat true).getD b false || (M.getD r.toNat []).getD b false) := by
      generalize M.getD r.toNat [] = Y at h1
      unfold joinF
      simp only [List.getD]
      rw [List.getElem?_zipWith, List.getElem?_eq_getElem (by rw [List.length_set]; omega : b < (row.set r.toNat true).length), List.getElem?_eq_getElem (by omega : b < Y.length)]
      simp
    rw [f, getD_set _ _ _ _ _ (by omega)]
    constructor
    · rintro (h3 | ⟨x, hx, h3⟩)
      · by_cases eb : b = r.toNat
        · exact Or.inr ⟨r, List.mem_cons_self .., Or.inl eb⟩
        · rw [if_neg eb, Bool.or_eq_true] at h3
          rcases h3 with h3 | h3
          · exact Or.inl h3
          · exact Or.inr ⟨r, List.mem_cons_self .., Or.inr h3⟩
      · exact Or.inr ⟨x, List.mem_cons_of_mem _ hx, h3⟩
    · rintro (h3 | ⟨x, hx, h3⟩)
      · left
        by_cases eb : b = r.toNat
        · rw [if_pos eb]; rfl
        · rw [if_neg eb, h3]; rfl
      · rcases List.mem_cons.1 hx with rfl | hx
        · left
          rcases h3 with h3 | h3
          · rw [if_pos h3]; rfl
          · rw [h3]; simp
        · exact Or.inr ⟨x, hx, h3⟩

/-- All readers stand behind. -/
def Behind (Rr : List (List Int)) (n : Nat) : Prop := ∀ a, a < n → ∀ z ∈ Rr.getD a [], (a : Int) < z ∧ z < (n : Int)

theorem rowN_len (Rr : List (List Int)) (n : Nat) : ∀ b, (rowN Rr n b).length = n
  | 0 => by simp [rowN]
  | b + 1 => by rw [rowN, List.length_set]; exact rowN_len Rr n b

theorem rowN_row {Rr : List (List Int)} {n : Nat} (hB : Behind Rr n) : ∀ b, b ≤ n → ∀ a, n - b ≤ a → a < n → ((rowN Rr n b).getD a []).length = n
  | 0, _, a, h1, h2 => by omega
  | b + 1, hb, a, h1, h2 => by
    have ih := rowN_row hB b (by omega)
    rw [rowN, getD_set _ _ _ _ _ (by rw [rowN_len]; omega)]
    split
    · refine joinR_len _ n _ _ (by simp) (fun r hr => ?_)
      have := hB (n - 1 - b) (by omega) r hr
      exact ih r.toNat (by omega) (by omega)
    · exact ih a (by omega) h2

/-- A row stays as it is once it is made. -/
theorem rowN_stays {Rr : List (List Int)} {n : Nat} {a b : Nat} (h1 : n - b ≤ a) (ha : a < n) : ∀ c, b ≤ c → c ≤ n → (rowN Rr n c).getD a [] = (rowN Rr n b).getD a []
  | 0, h, _ => by obtain rfl : b = 0 := by omega
                  rfl
  | c + 1, h, hc => by
    by_cases e : b = c + 1
    · rw [e]
    · rw [rowN, getD_set _ _ _ _ _ (by rw [rowN_len]; omega), if_neg (by omega)]
      exact rowN_stays h1 ha c (by omega) (by omega)

theorem rows_iff {Rr : List (List Int)} {n : Nat} (hB : Behind Rr n) {a b : Nat} (ha : a < n) (hb : b < n) : (((rowN Rr n n).getD a []).getD b false = true ↔ ∃ r ∈ Rr.getD a [], b = r.toNat ∨ ((rowN Rr n n).getD r.toNat []).getD b false = true) := by
  have e1 : (rowN Rr n n).getD a [] = joinR (rowN Rr n (n - 1 - a)) (List.replicate n false) (Rr.getD a []) := by
    rw [rowN_stays (b := n - 1 - a + 1) (by omega) ha n (by omega) (by omega), rowN, getD_set _ _ _ _ _ (by rw [rowN_len]; omega), if_pos (by omega), show n - 1 - (n - 1 - a) = a by omega]
  have e2 : ∀ r ∈ Rr.getD a [], (rowN Rr n (n - 1 - a)).getD r.toNat [] = (rowN Rr n n).getD r.toNat [] := fun r hr => by
    have := hB a ha r hr
    rw [rowN_stays (b := n - 1 - a) (by omega) (by omega) n (by omega) (by omega)]
  rw [e1, joinR_iff _ n b hb _ _ (by simp) (fun r hr => by
    have := hB a ha r hr
    exact ⟨by omega, by omega, rowN_row hB _ (by omega) _ (by omega) (by omega)⟩)]
  constructor
  · rintro (h | ⟨r, hr, h⟩)
    · simp [List.getD, hb] at h
    · exact ⟨r, hr, by rw [← e2 r hr]; exact h⟩
  · rintro ⟨r, hr, h⟩
    exact Or.inr ⟨r, hr, by rw [e2 r hr]; exact h⟩

/-- Who is before another one has a lesser number. -/
theorem rows_lt {Rr : List (List Int)} {n : Nat} (hB : Behind Rr n) {b : Nat} (hb : b < n) : ∀ d a, n - a = d → a < n → ((rowN Rr n n).getD a []).getD b false = true → a < b := by
  intro d
  induction d using Nat.strongRecOn with
  | _ d ih =>
    intro a hd ha h
    obtain ⟨r, hr, h1⟩ := (rows_iff hB ha hb).1 h
    have := hB a ha r hr
    rcases h1 with h1 | h1
    · omega
    · have := ih (n - r.toNat) (by omega) r.toNat rfl (by omega) h1
      omega

/-- Before goes on. -/
theorem rows_on {Rr : List (List Int)} {n : Nat} (hB : Behind Rr n) {b c : Nat} (hb : b < n) (hc : c < n) (hbc : ((rowN Rr n n).getD b []).getD c false = true) : ∀ d a, n - a = d → a < n → ((rowN Rr n n).getD a []).getD b false = true → ((rowN Rr n n).getD a []).getD c false = true := by
  intro d
  induction d using Nat.strongRecOn with
  | _ d ih =>
    intro a hd ha h
    obtain ⟨r, hr, h1⟩ := (rows_iff hB ha hb).1 h
    have := hB a ha r hr
    refine (rows_iff hB ha hc).2 ⟨r, hr, Or.inr ?_⟩
    rcases h1 with h1 | h1
    · rw [← h1]; exact hbc
    · exact ih (n - r.toNat) (by omega) r.toNat rfl (by omega) h1

/-- Is one done with ahead of another one; are two apart? -/
def doneF (Rr : List (List Int)) (bs : List Bool) (M : List (List Bool)) (a b : Nat) : Bool :=
  !(bs.getD a false) && (M.getD a []).getD b false && (Rr.getD a []).all (fun r => (M.getD r.toNat []).getD b false)

def apartF (Rr : List (List Int)) (bs : List Bool) (M : List (List Bool)) (a b : Nat) : Bool := doneF Rr bs M a b || doneF Rr bs M b a

theorem apart_before {Rr : List (List Int)} {n : Nat} {bs : List Bool} (hB : Behind Rr n) {a b : Nat} (hb : b < n) (hab : a < b) (h : apartF Rr bs (rowN Rr n n) a b = true) : ((rowN Rr n n).getD a []).getD b false = true := by
  unfold apartF doneF at h
  simp only [Bool.or_eq_true, Bool.and_eq_true] at h
  rcases h with h | h
  · exact h.1.2
  · have := rows_lt hB (show a < n by omega) _ b rfl hb h.1.2
    omega

/-- A graph's nodes, in the order of work. -/
def noNc : Nc := ⟨⟨⟨#[]⟩, ⟨#[]⟩, nilS, ⟨#[]⟩, nilS⟩, [], [], []⟩

def inOrd (cs : List Nc) (ord : List Int) : List Nc := ord.map (fun k => cs.getD k.toNat noNc)
end Go.Proofs.YtmdpeckeliplkaaDoor
