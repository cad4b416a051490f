/- A name in another one's place, in pure words. -/
import Derived.Test.YtflalpchhojenaaDoorGMorePJ
namespace Go.Proofs.YtflalpchhojenaaDoor
open Go.RowKit

/-- A name, with a new one in the place of an old one. -/
def renS (old nm x : ByteArray) : ByteArray := if x.toList == old.toList then nm else x

def renV (f : ByteArray → ByteArray) (p : Val × List Int) : Val × List Int := (⟨f p.1.name, p.1.ty, p.1.dv⟩, p.2)
def renT (f : ByteArray → ByteArray) (p : Nam × List Int × List Int) : Nam × List Int × List Int := (⟨f p.1.name, p.1.ty, p.1.dv, p.1.tv⟩, p.2)
def renC (f : ByteArray → ByteArray) (c : Nc) : Nc := ⟨⟨c.n.op, c.n.name, c.n.iv, f c.n.out, c.n.av⟩, c.ins.map f, c.xs, c.cs⟩

/-- Names that stay unlike, and there. -/
structure RenOk (f : ByteArray → ByteArray) (l : List ByteArray) : Prop where
  inj : ∀ x ∈ l, ∀ y ∈ l, f x = f y → x = y
  emp : ∀ x, (f x).toList = [] ↔ x.toList = []

theorem renS_ok {old nm : ByteArray} {l : List ByteArray} (hn : nm ∉ l) (h1 : nm.toList ≠ []) (h2 : old.toList ≠ []) : RenOk (renS old nm) l := by
  have hto : ∀ {x y : ByteArray}, x.toList = y.toList → x = y := fun {x y} h => bytes_eq (by rw [← bytes_toList, ← bytes_toList, h])
  refine ⟨fun x hx y hy e => ?_, fun x => ?_⟩
  · unfold renS at e
    by_cases hx1 : (x.toList == old.toList) = true <;> by_cases hy1 : (y.toList == old.toList) = true
    · have e1 : x.toList = old.toList := by simpa using hx1
      have e2 : y.toList = old.toList := by simpa using hy1
      exact hto (e1.trans e2.symm)
    · rw [if_pos hx1, if_neg hy1] at e
      exact absurd (e ▸ hy) hn
    · rw [if_neg hx1, if_pos hy1] at e
      exact absurd (e ▸ hx) hn
    · rw [if_neg hx1, if_neg hy1] at e
      exact e
  · unfold renS
    by_cases hx1 : (x.toList == old.toList) = true
    · rw [if_pos hx1]
      have e1 : x.toList = old.toList := by simpa using hx1
      exact ⟨fun h => absurd h h1, fun h => absurd (e1.symm.trans h) h2⟩
    · rw [if_neg hx1]

theorem nodup_ren {f : ByteArray → ByteArray} : ∀ {l : List ByteArray}, (∀ x ∈ l, ∀ y ∈ l, f x = f y → x = y) → ((l.map f).Nodup ↔ l.Nodup)
  | [], _ => by simp
  | x :: l, h => by
    rw [List.map_cons, List.nodup_cons, List.nodup_cons, nodup_ren (fun a ha b hb => h a (by simp [ha]) b (by simp [hb]))]
    refine and_congr_left fun _ => not_congr ⟨fun hm => ?_, fun hm => List.mem_map_of_mem hm⟩
    obtain ⟨y, hy, e⟩ := List.mem_map.1 hm
    have := h x (by simp) y (by simp [hy]) e.symm
    exact this ▸ hy

theorem namesOK_ren {f : ByteArray → ByteArray} {l : List ByteArray} (h : RenOk f l) : namesOK [] (l.map f) = namesOK [] l := by
  rw [Bool.eq_iff_iff, namesOK_nil, namesOK_nil, nodup_ren h.inj]
  refine and_congr_left fun _ => ?_
  constructor
  · intro hh y hy e
    exact hh (f y) (List.mem_map_of_mem hy) ((h.emp y).2 e)
  · intro hh y hy e
    obtain ⟨x, hx, rfl⟩ := List.mem_map.1 hy
    exact hh x hx ((h.emp x).1 e)

theorem mem_ren {f : ByteArray → ByteArray} {L l : List ByteArray} (h : RenOk f L) (hl : ∀ y ∈ l, y ∈ L) {x : ByteArray} (hx : x ∈ L) : f x ∈ l.map f ↔ x ∈ l := by
  constructor
  · intro hm
    obtain ⟨y, hy, e⟩ := List.mem_map.1 hm
    have := h.inj x hx y (hl y hy) e.symm
    exact this ▸ hy
  · exact fun hm => List.mem_map_of_mem hm

theorem pos_ren {f : ByteArray → ByteArray} {L : List ByteArray} (h : RenOk f L) {x : ByteArray} (hx : x ∈ L) : ∀ {l : List ByteArray}, (∀ y ∈ l, y ∈ L) → pos (l.map f) (f x) = pos l x
  | [], _ => rfl
  | y :: l, hl => by
    have ih := pos_ren h hx (l := l) (fun z hz => hl z (by simp [hz]))
    unfold pos at ih ⊢
    rw [List.map_cons, List.findIdx_cons, List.findIdx_cons]
    have e : ((f y).data.toList == (f x).data.toList) = (y.data.toList == x.data.toList) := by
      rw [Bool.eq_iff_iff, beq_iff_eq, beq_iff_eq]
      exact ⟨fun e => by rw [h.inj y (hl y (by simp)) x hx (bytes_eq e)], fun e => by rw [bytes_eq e]⟩
    rw [e, ih]

theorem row_ren {f : ByteArray → ByteArray} {L l : List ByteArray} (h : RenOk f L) (hl : ∀ y ∈ l, y ∈ L) (k0 i : Nat) : ∀ {ys : List ByteArray} (p : List Int × List (List Int)), (∀ y ∈ ys, y ∈ L) → lnkRow (l.map f) k0 i p (ys.map f) = lnkRow l k0 i p ys
  | [], _, _ => rfl
  | y :: ys, p, hy => by
    show lnkRow (l.map f) k0 i (lnk (l.map f) k0 i p (f y)) (ys.map f) = lnkRow l k0 i (lnk l k0 i p y) ys
    have e : lnk (l.map f) k0 i p (f y) = lnk l k0 i p y := by
      unfold lnk
      rw [pos_ren h (hy y (by simp)) hl]
    rw [e, row_ren h hl k0 i _ (fun z hz => hy z (by simp [hz]))]

theorem links_ren {f : ByteArray → ByteArray} {L l : List ByteArray} {cs : List Nc} (h : RenOk f L) (hl : ∀ y ∈ l, y ∈ L) (hc : ∀ c ∈ cs, ∀ y ∈ c.ins, y ∈ L) (k0 : Nat) : ∀ k, linksN (cs.map (renC f)) (l.map f) k0 k = linksN cs l k0 k
  | 0 => by rw [linksN, linksN, List.length_map]
  | k + 1 => by
    rw [linksN, linksN, links_ren h hl hc k0 k]
    have e : (((cs.map (renC f))[k]?).map (·.ins)).getD [] = ((cs[k]?.map (·.ins)).getD []).map f := by
      rw [List.getElem?_map]
      cases cs[k]? <;> rfl
    rw [e]
    refine row_ren h hl k0 k _ ?_
    cases hk : cs[k]? with
    | none => simp
    | some c => simpa using hc c (List.mem_of_getElem? hk)

theorem nodE_ren {f : ByteArray → ByteArray} (h : ∀ x, (f x).toList = [] ↔ x.toList = []) (c : Nc) : nodE (renC f c) = nodE c := by
  have e1 : ((f c.n.out).toList == []) = (c.n.out.toList == []) := by
    rw [Bool.eq_iff_iff, beq_iff_eq, beq_iff_eq]
    exact h _
  have e2 : (c.ins.map f).any (isS ⟨#[]⟩) = c.ins.any (isS ⟨#[]⟩) := by
    rw [List.any_map]
    congr 1
    funext y
    show isS ⟨#[]⟩ (f y) = isS ⟨#[]⟩ y
    unfold isS
    have hem : (⟨#[]⟩ : ByteArray).toList = [] := by rw [bytes_toList]
    rw [hem, Bool.eq_iff_iff, beq_iff_eq, beq_iff_eq]
    have := h y
    exact ⟨fun e => ((h y).1 e.symm).symm, fun e => ((h y).2 e.symm).symm⟩
  have e3 : ∀ r, checkE r (c.ins.map f) (f c.n.out) c.xs = checkE r c.ins c.n.out c.xs := by
    intro r
    unfold checkE
    cases r with
    | none => rfl
    | some t =>
      obtain ⟨lo, hi, rs⟩ := t
      simp only
      rw [List.length_map, e1, e2]
  unfold nodE renC checkF
  simp only
  rw [e3]

theorem firstE_ext {a b c d : List Int} (h1 : a = b) (h2 : c = d) : firstE (a ++ c) = firstE (b ++ d) := by rw [h1, h2]

theorem vnames_ren (f : ByteArray → ByteArray) (cs : List Nc) (vin : List (Val × List Int)) (its : List (Nam × List Int × List Int)) : vnames (cs.map (renC f)) (vin.map (renV f)) (its.map (renT f)) = (vnames cs vin its).map f := by
  unfold vnames
  simp only [List.map_append, List.map_map]
  rfl

theorem onames_ren (f : ByteArray → ByteArray) (vout : List (Val × List Int)) : onames (vout.map (renV f)) = (onames vout).map f := by
  unfold onames
  simp only [List.map_map]
  rfl

theorem ren_order {f : ByteArray → ByteArray} {cs : List Nc} {vin vout : List (Val × List Int)} {its : List (Nam × List Int × List Int)} (h : RenOk f (allN cs vin vout its)) : orderR (cs.map (renC f)) (vin.map (renV f)) (vout.map (renV f)) (its.map (renT f)) = orderR cs vin vout its := by
  have av : ∀ y ∈ vnames cs vin its, y ∈ allN cs vin vout its := fun y hy => by
    unfold vnames at hy
    unfold allN
    simp only [List.mem_append] at hy ⊢
    rcases hy with (hy | hy) | hy
    · exact Or.inl (Or.inl (Or.inl hy))
    · exact Or.inl (Or.inr hy)
    · right
      rw [List.map_map] at hy
      obtain ⟨c, hc, rfl⟩ := List.mem_map.1 hy
      exact List.mem_flatMap.2 ⟨c, hc, by simp⟩
  have ao : ∀ y ∈ onames vout, y ∈ allN cs vin vout its := fun y hy => by
    unfold onames at hy
    unfold allN
    simp only [List.mem_append]
    exact Or.inl (Or.inl (Or.inr hy))
  have ai : ∀ c ∈ cs, ∀ y ∈ c.ins, y ∈ allN cs vin vout its := fun c hc y hy => by
    unfold allN
    simp only [List.mem_append]
    exact Or.inr (List.mem_flatMap.2 ⟨c, hc, by simp [hy]⟩)
  have hp : partsF (cs.map (renC f)) (vin.map (renV f)) (its.map (renT f)) = partsF cs vin its := by
    have e1 : (vin.map (renV f)).map valE = vin.map valE := by rw [List.map_map]; rfl
    have e2 : (its.map (renT f)).map namE = its.map namE := by rw [List.map_map]; rfl
    have e3 : (cs.map (renC f)).map nodE = cs.map nodE := by
      rw [List.map_map]
      exact List.map_congr_left fun c _ => nodE_ren h.emp c
    unfold partsF
    rw [e1, e2, e3]
  have hn : namesOK [] (vnames (cs.map (renC f)) (vin.map (renV f)) (its.map (renT f))) = namesOK [] (vnames cs vin its) := by
    rw [vnames_ren]
    exact namesOK_ren ⟨fun x hx y hy => h.inj x (av x hx) y (av y hy), h.emp⟩
  have hf : foundF (cs.map (renC f)) (onames (vout.map (renV f))) (vnames (cs.map (renC f)) (vin.map (renV f)) (its.map (renT f))) = foundF cs (onames vout) (vnames cs vin its) := by
    rw [Bool.eq_iff_iff, foundF_iff, foundF_iff, vnames_ren, onames_ren, namesOK_ren ⟨fun x hx y hy => h.inj x (ao x hx) y (ao y hy), h.emp⟩, List.length_map]
    refine and_congr_right fun _ => and_congr_right fun _ => and_congr ?_ ?_
    · constructor
      · exact fun hh x hx => (mem_ren h av (ao x hx)).1 (hh (f x) (List.mem_map_of_mem hx))
      · intro hh x hx
        obtain ⟨y, hy, rfl⟩ := List.mem_map.1 hx
        exact (mem_ren h av (ao y hy)).2 (hh y hy)
    · constructor
      · exact fun hh c hc x hx => (mem_ren h av (ai c hc x hx)).1 (hh (renC f c) (List.mem_map_of_mem hc) (f x) (List.mem_map_of_mem hx))
      · intro hh c hc x hx
        obtain ⟨d, hd, rfl⟩ := List.mem_map.1 hc
        obtain ⟨y, hy, rfl⟩ := List.mem_map.1 hx
        exact (mem_ren h av (ai d hd y hy)).2 (hh d hd y hy)
  have hl : lineF (cs.map (renC f)) (vin.map (renV f)) (its.map (renT f)) = lineF cs vin its := by
    unfold lineF
    rw [vnames_ren, List.length_map, List.length_map, List.length_map, links_ren h av ai]
  unfold orderR
  rw [hp, hn, hf, hl]
  simp only [List.length_map]
end Go.Proofs.YtflalpchhojenaaDoor
