/- In which order attributes stand makes no difference to whether a node may be. -/
import Derived.Test.YtlmaobkfmplalaaDoorNSame
namespace Go.Proofs.YtlmaobkfmplalaaDoor
open Go.RowKit

/-- An attribute that an operator has, of its kind, and a Float where it must be one. -/
def good (rs : List Ra) (a : Atr) : Bool := match rs.find? (sameR a.name) with
  | none => false
  | some r => !(a.kind != r.kind) && !((a.kind == 1) && !(fOK a.f))

theorem chk1_cons {rs : List Ra} {xs l : List Atr} {a : Atr} {i : Nat} : chk1 rs xs (a :: l) i = none ↔ good rs a = true ∧ (xs.take i).any (aheadA a.name) = false ∧ chk1 rs xs l (i + 1) = none := by
  rw [chk1]
  unfold good
  cases hf : rs.find? (sameR a.name) with
  | none => simp
  | some r =>
    simp only
    cases h1 : (a.kind != r.kind) <;> cases h2 : (xs.take i).any (aheadA a.name) <;> cases h3 : ((a.kind == 1) && !(fOK a.f)) <;> simp

/-- Two attributes are not called the same. -/
def Differ (a b : Atr) : Prop := (a.name.toList == b.name.toList) = false

theorem chk1_iff {rs : List Ra} {xs : List Atr} : ∀ (m : List Atr) (i : Nat), chk1 rs xs m i = none ↔ (∀ a ∈ m, good rs a = true) ∧ ∀ (j : Nat) (hj : j < m.length), (xs.take (i + j)).any (aheadA m[j].name) = false
  | [], i => by simp [chk1]
  | a :: m, i => by
    rw [chk1_cons, chk1_iff m (i + 1)]
    constructor
    · rintro ⟨h1, h2, h3, h4⟩
      refine ⟨?_, ?_⟩
      · intro b hb
        rcases List.mem_cons.1 hb with rfl | hb
        · exact h1
        · exact h3 b hb
      · intro j hj
        cases j with
        | zero => simpa using h2
        | succ j =>
          have := h4 j (by simpa using hj)
          rw [show i + (j + 1) = i + 1 + j by omega]
          simpa using this
    · rintro ⟨h1, h2⟩
      refine ⟨h1 a (by simp), h2 0 (by simp), fun b hb => h1 b (by simp [hb]), fun j hj => ?_⟩
      have := h2 (j + 1) (by simpa using hj)
      rw [show i + (j + 1) = i + 1 + j by omega] at this
      simpa using this

theorem chk1_pair {rs : List Ra} {xs : List Atr} : chk1 rs xs xs 0 = none ↔ (∀ a ∈ xs, good rs a = true) ∧ xs.Pairwise Differ := by
  rw [chk1_iff, List.pairwise_iff_getElem]
  refine and_congr Iff.rfl ⟨fun h i j hi hj hij => ?_, fun h j hj => ?_⟩
  · have := h j hj
    rw [Nat.zero_add, List.any_eq_false] at this
    have h2 := this xs[i] (by rw [List.mem_take_iff_getElem]; exact ⟨i, by omega, rfl⟩)
    simpa [aheadA, Differ] using h2
  · rw [Nat.zero_add, List.any_eq_false]
    intro b hb
    obtain ⟨i, hi, rfl⟩ := List.mem_take_iff_getElem.1 hb
    have := h i j (by omega) hj (by omega)
    simpa [aheadA, Differ] using this

theorem differ_symm {a b : Atr} (h : Differ a b) : Differ b a := by
  unfold Differ at h ⊢
  rw [beq_eq_false_iff_ne] at h ⊢
  exact fun e => h e.symm

theorem pair_mem {α : Type} {R : α → α → Prop} : ∀ {l : List α} {a b : α}, l.Pairwise R → a ∈ l → b ∈ l → a = b ∨ R a b ∨ R b a
  | x :: l, a, b, h, ha, hb => by
    obtain ⟨h1, h2⟩ := List.pairwise_cons.1 h
    rcases List.mem_cons.1 ha with ea | ha'
    · rcases List.mem_cons.1 hb with eb | hb'
      · exact Or.inl (ea.trans eb.symm)
      · exact Or.inr (Or.inl (ea ▸ h1 b hb'))
    · rcases List.mem_cons.1 hb with eb | hb'
      · exact Or.inr (Or.inr (eb ▸ h1 a ha'))
      · exact pair_mem h2 ha' hb'

/-- Where there is one at most, it is found in whatever order. -/
theorem find_perm {α : Type} {P : α → Bool} {l m : List α} (hp : l.Perm m) (hu : ∀ a ∈ l, ∀ b ∈ l, P a = true → P b = true → a = b) : m.find? P = l.find? P := by
  cases hl : l.find? P with
  | none =>
    rw [List.find?_eq_none] at hl ⊢
    exact fun x hx => hl x (hp.mem_iff.2 hx)
  | some a =>
    have ha := List.mem_of_find?_eq_some hl
    have hpa := List.find?_some hl
    cases hm : m.find? P with
    | none =>
      rw [List.find?_eq_none] at hm
      exact absurd hpa (hm a (hp.mem_iff.1 ha))
    | some b =>
      have hb := hp.mem_iff.2 (List.mem_of_find?_eq_some hm)
      rw [hu a ha b hb hpa (List.find?_some hm)]

theorem zip_pairs : ∀ (ps : List (Atr × Cont)), (ps.map (·.1)).zip (ps.map (·.2)) = ps
  | [] => rfl
  | p :: ps => by rw [List.map_cons, List.map_cons, List.zip_cons_cons, zip_pairs ps]

theorem isA_name {nm : ByteArray} {kd : Int} {a b : Atr} (ha : isA nm kd a = true) (hb : isA nm kd b = true) : ¬ Differ a b := by
  unfold isA at ha hb
  rw [Bool.and_eq_true, beq_iff_eq] at ha hb
  unfold Differ
  rw [ha.1, hb.1]
  simp

theorem checkF_turned {r : Option (Int × Int × List Ra)} {op : ByteArray} {ins : List ByteArray} {out : ByteArray} {ps qs : List (Atr × Cont)} (hp : ps.Perm qs) (h : checkF r op ins out (ps.map (·.1)) (ps.map (·.2)) = 0) : checkF r op ins out (qs.map (·.1)) (qs.map (·.2)) = 0 := by
  have h0 : checkE r ins out (ps.map (·.1)) = 0 := by
    unfold checkF at h
    by_cases h1 : checkE r ins out (ps.map (·.1)) = 0
    · exact h1
    · rw [if_pos h1] at h; exact h
  obtain ⟨lo, hi, rs, rfl, h1, h2, h3, h4, h5⟩ := checkE_ok h0
  obtain ⟨h6, h7⟩ := attrsE_ok h4
  obtain ⟨hg, hd⟩ := chk1_pair.1 h6
  have hp1 : (ps.map (·.1)).Perm (qs.map (·.1)) := hp.map _
  have hgq : ∀ a ∈ qs.map (·.1), good rs a = true := fun a ha => hg a (hp1.mem_iff.2 ha)
  have hdq : (qs.map (·.1)).Pairwise Differ := (hp1.pairwise_iff differ_symm).1 hd
  have hdp : ps.Pairwise (fun a b => Differ a.1 b.1) := by rwa [List.pairwise_map] at hd
  have ua : ∀ nm kd, ∀ a ∈ ps.map (·.1), ∀ b ∈ ps.map (·.1), isA nm kd a = true → isA nm kd b = true → a = b := by
    intro nm kd a ha b hb h8 h9
    rcases pair_mem hd ha hb with e | e | e
    · exact e
    · exact absurd e (isA_name h8 h9)
    · exact absurd e (isA_name h9 h8)
  have up : ∀ nm kd, ∀ a ∈ ps, ∀ b ∈ ps, isA nm kd a.1 = true → isA nm kd b.1 = true → a = b := by
    intro nm kd a ha b hb h8 h9
    rcases pair_mem hdp ha hb with e | e | e
    · exact e
    · exact absurd e (isA_name h8 h9)
    · exact absurd e (isA_name h9 h8)
  have fa : ∀ nm kd, (qs.map (·.1)).find? (isA nm kd) = (ps.map (·.1)).find? (isA nm kd) := fun nm kd => find_perm hp1 (ua nm kd)
  have hE : checkE (some (lo, hi, rs)) ins out (qs.map (·.1)) = 0 := by
    unfold checkE
    simp only
    have hl : lacks rs (qs.map (·.1)) = false := by
      unfold lacks at h7 ⊢
      simp only [fa]
      exact h7
    have ha : attrsE rs (qs.map (·.1)) = 0 := by
      unfold attrsE
      rw [chk1_pair.2 ⟨hgq, hdq⟩, hl]
      rfl
    rw [if_neg h1, if_neg h2, if_neg (by rw [h3]; decide), if_pos ha, fa]
    exact h5
  unfold checkF at h ⊢
  rw [if_neg (by rw [h0]; simp)] at h
  rw [if_neg (by rw [hE]; simp)]
  by_cases ho : (op.toList == [67, 111, 110, 115, 116, 97, 110, 116]) = true
  · rw [if_pos ho] at h ⊢
    unfold constE at h ⊢
    rw [zip_pairs] at h ⊢
    rw [find_perm (P := fun p => isA ⟨#[118, 97, 108, 117, 101]⟩ 4 p.1) hp (up _ _)]
    exact h
  · rw [if_neg ho]
end Go.Proofs.YtlmaobkfmplalaaDoor
