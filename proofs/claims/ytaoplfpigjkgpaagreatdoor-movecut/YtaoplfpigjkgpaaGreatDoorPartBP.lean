/- Joined texts: MvBackP, MvPartP. -/
import Derived.Test.YtaoplfpigjkgpaaGreatDoorPartBH
import Derived.Test.YtaoplfpigjkgpaaGreatDoorPartBD
import Derived.Test.YtaoplfpigjkgpaaGreatDoorPartBO
import Derived.Test.YtaoplfpigjkgpaaGreatDoorPartAV
import Derived.Test.YtaoplfpigjkgpaaGreatDoorPartBN
namespace Go.Proofs.YtaoplfpigjkgpaaGreatDoor

open Go.RowKit Vw

theorem dot_strd : ∀ (zs cs : List Int), cs.length = zs.length → dot cs (strd zs) = offs zs cs
  | [], [], _ => rfl
  | z :: zs, c :: cs, h => by
    have ih := dot_strd zs cs (by simpa using h)
    simp only [strd, dot, offs, ih]

theorem offs_in : ∀ {zs cs : List Int}, inside zs cs = true → 0 ≤ offs zs cs ∧ offs zs cs < prod zs
  | [], [], _ => by simp [offs, prod]
  | z :: zs, c :: cs, h => by
    simp only [inside, Bool.and_eq_true, decide_eq_true_eq] at h
    obtain ⟨⟨h1, h2⟩, h3⟩ := h
    have ih := offs_in h3
    simp only [offs, prod]
    have hp : 0 < prod zs := by omega
    have k1 : 0 ≤ c * prod zs := Int.mul_nonneg h1 (by omega)
    have k2 : (c + 1) * prod zs ≤ z * prod zs := Int.mul_le_mul_of_nonneg_right (by omega) (by omega)
    rw [Int.add_mul, Int.one_mul] at k2
    omega
  | [], _ :: _, h => by simp [inside] at h
  | _ :: _, [], h => by simp [inside] at h

theorem crds_offs : ∀ {zs cs : List Int}, inside zs cs = true → crds zs (offs zs cs) = cs
  | [], [], _ => rfl
  | z :: zs, c :: cs, h => by
    have h' := h
    simp only [inside, Bool.and_eq_true, decide_eq_true_eq] at h
    obtain ⟨⟨h1, h2⟩, h3⟩ := h
    have io := offs_in h3
    have hp : 0 < prod zs := by omega
    have ih := crds_offs h3
    have e1 : (c * prod zs + offs zs cs) / prod zs = c := by
      rw [Int.add_comm, Int.add_mul_ediv_right _ _ (by omega), Int.ediv_eq_zero_of_lt io.1 io.2, Int.zero_add]
    have hpos : ∀ z ∈ zs, 1 ≤ z := inside_pos h3
    have e2 : crds zs (c * prod zs + offs zs cs) = crds zs (offs zs cs) := by
      rw [← crds_mod zs (c * prod zs + offs zs cs) hpos, Int.add_comm, Int.add_mul_emod_self_right, Int.emod_eq_of_lt io.1 io.2]
    simp only [offs, crds, e1, e2, ih]
    rw [Int.emod_eq_of_lt h1 h2]
  | [], _ :: _, h => by simp [inside] at h
  | _ :: _, [], h => by simp [inside] at h
where
  inside_pos : ∀ {zs cs : List Int}, inside zs cs = true → ∀ z ∈ zs, 1 ≤ z
    | [], [], _, z, hz => by simp at hz
    | y :: zs, c :: cs, h, z, hz => by
      simp only [inside, Bool.and_eq_true, decide_eq_true_eq] at h
      rcases List.mem_cons.1 hz with rfl | hz
      · omega
      · exact inside_pos h.2 z hz
    | [], _ :: _, h, _, _ => by simp [inside] at h
    | _ :: _, [], h, _, _ => by simp [inside] at h

theorem inside_iff : ∀ {zs cs : List Int}, inside zs cs = true ↔ cs.length = zs.length ∧ ∀ k, k < zs.length → 0 ≤ cs.getD k 0 ∧ cs.getD k 0 < zs.getD k 0
  | [], [] => by simp [inside]
  | z :: zs, c :: cs => by
    simp only [inside, Bool.and_eq_true, decide_eq_true_eq, @inside_iff zs cs, List.length_cons]
    constructor
    · rintro ⟨h1, h2, h3⟩
      refine ⟨by omega, fun k hk => ?_⟩
      cases k with
      | zero => simpa using h1
      | succ k => simpa using h3 k (by omega)
    · rintro ⟨h1, h2⟩
      refine ⟨by simpa using h2 0 (by omega), by omega, fun k hk => by simpa using h2 (k + 1) (by omega)⟩
  | [], _ :: _ => by simp [inside]
  | _ :: _, [] => by simp [inside]

end Go.Proofs.YtaoplfpigjkgpaaGreatDoor

namespace Go.Proofs.YtaoplfpigjkgpaaGreatDoor

open Go.RowKit Vw

structure Parts (ds st dims : List Int) : Prop where
  l1 : st.length = ds.length
  l2 : dims.length = ds.length
  ok : ∀ i, i < ds.length → 0 ≤ st.getD i 0 ∧ 1 ≤ dims.getD i 0 ∧ st.getD i 0 + dims.getD i 0 ≤ ds.getD i 0

def cutD (ds dims : List Int) (k : Nat) : List Int := dims.take k ++ ds.drop k

theorem cutD_len {ds dims : List Int} (h : dims.length = ds.length) (k : Nat) : (cutD ds dims k).length = ds.length := by
  unfold cutD
  rw [List.length_append, List.length_take, List.length_drop]
  omega

theorem cutD_at {ds dims : List Int} (h : dims.length = ds.length) (k j : Nat) : (cutD ds dims k).getD j 0 = if j < k then dims.getD j 0 else ds.getD j 0 := by
  unfold cutD
  simp only [List.getD]
  by_cases hk : k ≤ dims.length
  · have hl : (dims.take k).length = k := by rw [List.length_take]; omega
    by_cases hj : j < k
    · rw [if_pos hj, List.getElem?_append_left (by omega), List.getElem?_take_of_lt hj]
    · rw [if_neg hj, List.getElem?_append_right (by omega), hl, List.getElem?_drop]
      congr 2
      omega
  · rw [List.take_of_length_le (by omega), List.drop_of_length_le (by omega), List.append_nil]
    by_cases hj : j < k
    · rw [if_pos hj]
    · rw [if_neg hj, List.getElem?_eq_none (by omega), List.getElem?_eq_none (by omega)]

theorem cutD_step {ds dims : List Int} (h : dims.length = ds.length) (k : Nat) : (cutD ds dims k).set k (dims.getD k 0) = cutD ds dims (k + 1) := by
  refine List.ext_getElem (by rw [List.length_set, cutD_len h, cutD_len h]) fun j h1 h2 => ?_
  have g : ∀ (L : List Int) (h : j < L.length), L[j] = L.getD j 0 := fun L h => by simp [List.getD, h]
  rw [g _ h2, cutD_at h, List.getElem_set]
  by_cases e : k = j
  · subst e
    rw [if_pos rfl, if_pos (by omega)]
  · rw [if_neg e]
    rw [List.length_set] at h1
    rw [g _ h1, cutD_at h]
    by_cases hj : j < k
    · rw [if_pos hj, if_pos (by omega)]
    · rw [if_neg hj, if_neg (by omega)]

theorem prod_le : ∀ {a b : List Int}, a.length = b.length → (∀ i, i < a.length → 1 ≤ a.getD i 0 ∧ a.getD i 0 ≤ b.getD i 0) → prod a ≤ prod b ∧ 1 ≤ prod a
  | [], [], _, _ => by simp [prod]
  | x :: a, y :: b, hl, h => by
    obtain ⟨h1, h2⟩ := h 0 (by simp)
    simp only [List.getD_cons_zero] at h1 h2
    obtain ⟨i1, i2⟩ := @prod_le a b (by simpa using hl) (fun i hi => by simpa using h (i + 1) (by simpa using hi))
    simp only [prod]
    have k1 : x * prod a ≤ y * prod b := Int.mul_le_mul h2 i1 (by omega) (by omega)
    have k2 : 1 * 1 ≤ x * prod a := Int.mul_le_mul h1 i2 (by omega) (by omega)
    omega
  | [], _ :: _, h, _ => by simp at h
  | _ :: _, [], h, _ => by simp at h

def offK (off : Int) (ss st : List Int) (k : Nat) : Int := off + dot (st.take k) ss

theorem dot_take_step : ∀ (st ss : List Int) (k : Nat), k < st.length → st.length = ss.length → dot (st.take (k + 1)) ss = dot (st.take k) ss + st.getD k 0 * ss.getD k 0
  | [], _, k, h, _ => by simp at h
  | _ :: _, [], _, _, h => by simp at h
  | c :: cs, s :: ss, 0, _, _ => by simp [dot]
  | c :: cs, s :: ss, k + 1, h, hl => by
    have ih := dot_take_step cs ss k (by simpa using h) (by simpa using hl)
    simp only [List.take_succ_cons, dot, List.getD_cons_succ] at ih ⊢
    omega

theorem dot_part : ∀ {ds ss cs : List Int}, cs.length ≤ ds.length → ss.length = ds.length → (∀ i, i < cs.length → 0 ≤ cs.getD i 0 ∧ cs.getD i 0 < ds.getD i 0) → (∀ d ∈ ds, 1 ≤ d) → (∀ s ∈ ss, 0 ≤ s) → 0 ≤ dot cs ss ∧ dot cs ss ≤ lst ds ss
  | ds, ss, [], _, _, _, hd, hs => by
    refine ⟨by simp [dot], ?_⟩
    have := lst_nonneg ds ss hd hs
    simp only [dot]
    exact this
  | d :: ds, s :: ss, c :: cs, hl, hl2, h, hd, hs => by
    obtain ⟨h1, h2⟩ := h 0 (by simp)
    simp only [List.getD_cons_zero] at h1 h2
    have ih := @dot_part ds ss cs (by simpa using hl) (by simpa using hl2) (fun i hi => by simpa using h (i + 1) (by simpa using hi)) (fun d hd' => hd d (by simp [hd'])) (fun s hs' => hs s (by simp [hs']))
    have h0 := hs s (by simp)
    simp only [dot, lst]
    have k1 : 0 ≤ c * s := Int.mul_nonneg h1 h0
    have k2 : c * s ≤ (d - 1) * s := Int.mul_le_mul_of_nonneg_right (by omega) h0
    omega
  | [], _, _ :: _, hl, _, _, _, _ => by simp at hl
  | _ :: _, [], _ :: _, _, hl, _, _, _ => by simp at hl

theorem part_off {off : Int} {ds ss st dims : List Int} (hm : MayV off ds ss) (hp : Parts ds st dims) (k : Nat) : off ≤ offK off ss st k ∧ offK off ss st k ≤ off + lst ds ss := by
  have := @dot_part ds ss (st.take k) (by rw [List.length_take, hp.l1]; omega) hm.len (fun i hi => by
    rw [List.length_take] at hi
    have h := hp.ok i (by rw [← hp.l1]; omega)
    have e : (st.take k).getD i 0 = st.getD i 0 := by simp only [List.getD]; rw [List.getElem?_take_of_lt (by omega)]
    rw [e]
    omega) hm.fine.pos (fun s hs => (hm.str s hs).1)
  unfold offK
  omega

theorem part_may {off : Int} {ds ss st dims : List Int} (hm : MayV off ds ss) (hp : Parts ds st dims) (hmax : off + lst ds ss ≤ 65535) (k : Nat) : MayV (offK off ss st k) (cutD ds dims k) ss := by
  have ho := part_off hm hp k
  have hl := cutD_len hp.l2 k
  have hat : ∀ i, i < ds.length → 1 ≤ (cutD ds dims k).getD i 0 ∧ (cutD ds dims k).getD i 0 ≤ ds.getD i 0 := fun i hi => by
    have h := hp.ok i hi
    have hf := hm.fine.at i hi
    rw [cutD_at hp.l2]
    split <;> omega
  have hpr := prod_le (a := cutD ds dims k) (b := ds) hl (fun i hi => hat i (by rw [← hl]; exact hi))
  refine ⟨⟨fun d hd => ?_, by rw [hl]; exact hm.fine.few, by have := hm.fine.le; omega⟩, by rw [hl]; exact hm.len, by have := hm.lo; omega, by omega, hm.str⟩
  obtain ⟨i, hi, rfl⟩ := List.getElem_of_mem hd
  have := (hat i (by rw [← hl]; exact hi)).1
  simpa [List.getD, hi] using this

theorem part_step {off : Int} {ds ss st dims : List Int} (hm : MayV off ds ss) (hp : Parts ds st dims) (hmax : off + lst ds ss ≤ 65535) (k : Nat) (hk : k < ds.length) {E off' : Int} {ds' ss' : List Int}
    (h : Sliced (offK off ss st k) (cutD ds dims k) ss k (st.getD k 0) (st.getD k 0 + dims.getD k 0) E off' ds' ss') : E = 0 ∧ off' = offK off ss st (k + 1) ∧ ds' = cutD ds dims (k + 1) ∧ ss' = ss := by
  have h1 := part_may hm hp hmax k
  have ho := part_off hm hp (k + 1)
  have hst : offK off ss st (k + 1) = offK off ss st k + st.getD k 0 * ss.getD k 0 := by
    unfold offK
    rw [dot_take_step st ss k (by rw [hp.l1]; exact hk) (by rw [hp.l1, hm.len])]
    omega
  have hok := hp.ok k hk
  have hP : PartOk (cutD ds dims k) k (st.getD k 0) (st.getD k 0 + dims.getD k 0) := by
    refine ⟨by omega, by rw [cutD_len hp.l2]; omega, hok.1, ?_, by omega⟩
    rw [Int.toNat_natCast, cutD_at hp.l2, if_neg (by omega)]
    exact hok.2.2
  rcases h with ⟨h, -⟩ | ⟨-, h, -⟩ | ⟨-, -, h, -⟩ | ⟨-, -, -, e1, e2, e3, e4⟩
  · exact absurd h1 h
  · exact absurd hP h
  · rw [Int.toNat_natCast] at h
    omega
  · rw [Int.toNat_natCast] at e2 e3
    refine ⟨e1, by rw [e2, hst], ?_, e4⟩
    rw [e3, show st.getD k 0 + dims.getD k 0 - st.getD k 0 = dims.getD k 0 by omega, cutD_step hp.l2 k]

theorem cutD_all {ds dims : List Int} (h : dims.length = ds.length) : cutD ds dims ds.length = dims := by
  unfold cutD
  rw [← h, List.take_length, h, List.drop_length, List.append_nil]

end Go.Proofs.YtaoplfpigjkgpaaGreatDoor
