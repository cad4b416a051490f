/- Joined texts: MvBackP. -/
import Derived.Test.YtaoplfpigjkgpaaGreatDoorPartBG
import Derived.Test.YtaoplfpigjkgpaaGreatDoorPartBC
import Derived.Test.YtaoplfpigjkgpaaGreatDoorPartBQ
import Derived.Test.YtaoplfpigjkgpaaGreatDoorPartAV
namespace Go.Proofs.YtaoplfpigjkgpaaGreatDoor

open Go.RowKit Vw

theorem dot_strd : ∀ (zs cs : List Int), cs.length = zs.length → dot cs (strd zs) = offs zs cs
  | [], [], _ => rfl
  | z :: zs, c :: cs, h => by
    have ih := dot_strd zs cs (by simpa using h)
    simp only [strd, dot, offs, ih]

theorem offs_in : ∀ {zs cs : List Int}, inside zs cs = true → 0 ≤ offs zs cs ∧ offs zs cs < prod zs
  | [], [], _ => by simp [offs, prod]
  | z :: zs, c :: cs, h => by
    simp only [inside, Bool.and_eq_true, decide_eq_true_eq] at h
    obtain ⟨⟨h1, h2⟩, h3⟩ := h
    have ih := offs_in h3
    simp only [offs, prod]
    have hp : 0 < prod zs := by omega
    have k1 : 0 ≤ c * prod zs := Int.mul_nonneg h1 (by omega)
    have k2 : (c + 1) * prod zs ≤ z * prod zs := Int.mul_le_mul_of_nonneg_right (by omega) (by omega)
    rw [Int.add_mul, Int.one_mul] at k2
    omega
  | [], _ :: _, h => by simp [inside] at h
  | _ :: _, [], h => by simp [inside] at h

theorem crds_offs : ∀ {zs cs : List Int}, inside zs cs = true → crds zs (offs zs cs) = cs
  | [], [], _ => rfl
  | z :: zs, c :: cs, h => by
    have h' := h
    simp only [inside, Bool.and_eq_true, decide_eq_true_eq] at h
    obtain ⟨⟨h1, h2⟩, h3⟩ := h
    have io := offs_in h3
    have hp : 0 < prod zs := by omega
    have ih := crds_offs h3
    have e1 : (c * prod zs + offs zs cs) / prod zs = c := by
      rw [Int.add_comm, Int.add_mul_ediv_right _ _ (by omega), Int.ediv_eq_zero_of_lt io.1 io.2, Int.zero_add]
    have hpos : ∀ z ∈ zs, 1 ≤ z := inside_pos h3
    have e2 : crds zs (c * prod zs + offs zs cs) = crds zs (offs zs cs) := by
      rw [← crds_mod zs (c * prod zs + offs zs cs) hpos, Int.add_comm, Int.add_mul_emod_self_right, Int.emod_eq_of_lt io.1 io.2]
    simp only [offs, crds, e1, e2, ih]
    rw [Int.emod_eq_of_lt h1 h2]
  | [], _ :: _, h => by simp [inside] at h
  | _ :: _, [], h => by simp [inside] at h
where
  inside_pos : ∀ {zs cs : List Int}, inside zs cs = true → ∀ z ∈ zs, 1 ≤ z
    | [], [], _, z, hz => by simp at hz
    | y :: zs, c :: cs, h, z, hz => by
      simp only [inside, Bool.and_eq_true, decide_eq_true_eq] at h
      rcases List.mem_cons.1 hz with rfl | hz
      · omega
      · exact inside_pos h.2 z hz
    | [], _ :: _, h, _, _ => by simp [inside] at h
    | _ :: _, [], h, _, _ => by simp [inside] at h

theorem inside_iff : ∀ {zs cs : List Int}, inside zs cs = true ↔ cs.length = zs.length ∧ ∀ k, k < zs.length → 0 ≤ cs.getD k 0 ∧ cs.getD k 0 < zs.getD k 0
  | [], [] => by simp [inside]
  | z :: zs, c :: cs => by
    simp only [inside, Bool.and_eq_true, decide_eq_true_eq, @inside_iff zs cs, List.length_cons]
    constructor
    · rintro ⟨h1, h2, h3⟩
      refine ⟨by omega, fun k hk => ?_⟩
      cases k with
      | zero => simpa using h1
      | succ k => simpa using h3 k (by omega)
    · rintro ⟨h1, h2⟩
      refine ⟨by simpa using h2 0 (by omega), by omega, fun k hk => by simpa using h2 (k + 1) (by omega)⟩
  | [], _ :: _ => by simp [inside]
  | _ :: _, [] => by simp [inside]

def sumZ (l : List Int) : Int := l.foldr (· + ·) 0

theorem dot_zip : ∀ c s : List Int, dot c s = sumZ ((c.zip s).map fun p => p.1 * p.2)
  | [], _ => by simp [dot, sumZ]
  | _ :: _, [] => by simp [dot, sumZ]
  | c :: cs, s :: ss => by
    have ih := dot_zip cs ss
    simp only [dot, ih, List.zip_cons_cons, List.map_cons]
    rfl

theorem sum_perm {l m : List Int} (h : l.Perm m) : sumZ l = sumZ m := by
  induction h with
  | nil => rfl
  | cons a _ ih => simp only [sumZ, List.foldr_cons] at ih ⊢; omega
  | swap a b l => simp only [sumZ, List.foldr_cons]; omega
  | trans _ _ ih1 ih2 => omega

theorem dot_pick {c s P : List Int} (hs : s.length = c.length) (hp : IsPerm P c.length) : dot (pickL c P) (pickL s P) = dot c s := by
  rw [dot_zip, dot_zip, pick_zip, ← zip_iota c s hs]
  exact sum_perm ((hp.perm.map _).map _)

theorem turn_may {x P : List Int} (F : Fine x) (hp : IsPerm P x.length) : MayV 0 (pickL x P) (pickL (strd x) P) ∧ lst (pickL x P) (pickL (strd x) P) < prod x := by
  have h := turned_whole F hp
  refine ⟨h.1, ?_⟩
  have h2 := h.2.1
  unfold rdE at h2
  split at h2
  · rename_i h3
    unfold rdOk at h3
    rw [Bool.and_eq_true, decide_eq_true_eq, iota_length] at h3
    have := F.prod_pos
    omega
  · omega

theorem turn_rd {x P xs : List Int} (F : Fine x) (hp : IsPerm P x.length) (hl : (xs.length : Int) = prod x) : rdOk 0 (pickL x P) (pickL (strd x) P) xs = true := by
  obtain ⟨h1, h2⟩ := turn_may F hp
  unfold rdOk
  rw [mayB_iff.2 h1, Bool.true_and, decide_eq_true_eq, hl]
  omega

theorem turn_at {x P xs : List Int} (F : Fine x) (hp : IsPerm P x.length) (hl : (xs.length : Int) = prod x) (n : Nat) (hn : (n : Int) < prod x) : (rdL 0 (pickL x P) (pickL (strd x) P) xs).getD n 0 = xs.getD (dot (crds (pickL x P) n) (pickL (strd x) P)).toNat 0 := by
  have hm := (turn_may F hp).1
  have hpr := prod_pick hp
  have e := plc_at (pickL x P) (pickL (strd x) P) 0 (by rw [pickL_len, pickL_len]) (fun d hd => hm.fine.pos d hd) n (by rw [hpr]; exact hn)
  have hlen := plc_length (pickL x P) (pickL (strd x) P) 0 (by rw [pickL_len, pickL_len]) (fun d hd => hm.fine.pos d hd)
  unfold rdL shows
  rw [if_pos (turn_rd F hp hl)]
  have hn2 : n < (plc (pickL x P) (pickL (strd x) P) 0).length := by rw [hlen, hpr]; omega
  simp only [List.getD] at e ⊢
  rw [List.getElem?_map, List.getElem?_eq_getElem hn2]
  rw [List.getElem?_eq_getElem hn2, Option.getD_some, Int.zero_add] at e
  simp only [Option.map_some, Option.getD_some, e]

theorem turn_len {x P xs : List Int} (F : Fine x) (hp : IsPerm P x.length) (hl : (xs.length : Int) = prod x) : (rdL 0 (pickL x P) (pickL (strd x) P) xs).length = xs.length := by
  have hm := (turn_may F hp).1
  have hlen := plc_length (pickL x P) (pickL (strd x) P) 0 (by rw [pickL_len, pickL_len]) (fun d hd => hm.fine.pos d hd)
  unfold rdL shows
  rw [if_pos (turn_rd F hp hl), List.length_map, hlen, prod_pick hp]
  omega

theorem turn_back {x P Q xs : List Int} (F : Fine x) (hp : IsPerm P x.length) (hq : Turns P Q x.length) (hl : (xs.length : Int) = prod x) :
    rdL 0 (pickL (pickL x P) Q) (pickL (strd (pickL x P)) Q) (rdL 0 (pickL x P) (pickL (strd x) P) xs) = xs := by
  have hm := (turn_may F hp).1
  have hyl : (pickL x P).length = x.length := by rw [pickL_len, hp.len]
  have hQ : IsPerm Q x.length := hq.perm hp
  have hQ' : IsPerm Q (pickL x P).length := by rw [hyl]; exact hQ
  have hpy := prod_pick hp
  have hul : ((rdL 0 (pickL x P) (pickL (strd x) P) xs).length : Int) = prod (pickL x P) := by rw [turn_len F hp hl, hpy, hl]
  have hl2 := turn_len hm.fine hQ' hul
  have hback := pick_back hp hq (l := x) rfl
  refine List.ext_getElem (by rw [hl2, turn_len F hp hl]) fun j h1 h2 => ?_
  have hj : (j : Int) < prod x := by rw [← hl]; omega
  have e1 := turn_at hm.fine hQ' hul j (by rw [hpy]; exact hj)
  rw [hback] at e1
  obtain ⟨c, hc⟩ : ∃ c, c = crds x j := ⟨_, rfl⟩
  have hcl : c.length = x.length := by rw [hc, crds_length]
  have hin := crds_inside x j F.pos
  rw [← hc] at e1 hin
  have hcP : pickL (pickL c P) Q = c := pick_back hp hq hcl
  have hd1 : dot c (pickL (strd (pickL x P)) Q) = offs (pickL x P) (pickL c P) := by
    conv => lhs; rw [← hcP]
    rw [dot_pick (by rw [strd_length, pickL_len, pickL_len]) (by rw [pickL_len, hp.len]; exact hQ), dot_strd _ _ (by rw [pickL_len, pickL_len])]
  have hin2 : inside (pickL x P) (pickL c P) = true := by
    rw [inside_iff] at hin ⊢
    refine ⟨by rw [pickL_len, pickL_len], fun k hk => ?_⟩
    rw [pickL_len] at hk
    rw [pickL_at _ _ _ hk, pickL_at _ _ _ hk]
    obtain ⟨q, hq1, hq2⟩ := hp.at k (by rw [hp.len] at hk; exact hk)
    rw [hq2, Int.toNat_natCast]
    exact hin.2 q hq1
  have ho := offs_in hin2
  obtain ⟨i, hi⟩ : ∃ i : Nat, offs (pickL x P) (pickL c P) = i := ⟨(offs (pickL x P) (pickL c P)).toNat, by omega⟩
  rw [hd1, hi, Int.toNat_natCast] at e1
  have e2 := turn_at F hp hl i (by rw [← hi, ← hpy]; exact ho.2)
  rw [← hi, crds_offs hin2, dot_pick (by rw [strd_length, hcl]) (by rw [hcl]; exact hp), dot_strd _ _ hcl, hc, offs_crds x j F.pos, Int.emod_eq_of_lt (by omega) hj, Int.toNat_natCast] at e2
  rw [e2] at e1
  have g : ∀ (L : List Int) (h : j < L.length), L[j] = L.getD j 0 := fun L h => by simp [List.getD, h]
  rw [g _ h1, g _ h2, hback]
  exact e1

end Go.Proofs.YtaoplfpigjkgpaaGreatDoor
