/- infer.Out at nodes with no attributes: the operators of two and Not. -/
import Derived.Test.YteigfipgmghgmaaGreatDoorEDo
import Derived.Test.YteigfipgmghgmaaGreatDoorIOut
import Derived.Test.YteigfipgmghgmaaGreatDoorIValueOf
import Derived.Test.YteigfipgmghgmaaGreatDoorITy
import Derived.Test.YteigfipgmghgmaaGreatDoorIDmX
import Derived.Test.YteigfipgmghgmaaGreatDoorGLit
namespace Go.Proofs.YteigfipgmghgmaaGreatDoor
open Go.RowKit

theorem ended_monoE {α : Type} {w w' : World} {r : R α} {Q Q' : α → Value → World → Prop} {e : Ending} (h : Ended w r Q e w') (hq : ∀ a v, r = .ok a → Q a v w' → Q' a v w') : Ended w r Q' e w' := by
  cases r with
  | error c => exact h
  | ok a =>
    obtain ⟨hg, v, he, hv⟩ := h
    exact ⟨hg, v, he, hq a v rfl hv⟩

theorem bare_in (w : World) (op out : ByteArray) (iv : Sl) (ins : List ByteArray) (hi : IsStrs w iv.v ins) : NodeIn w ⟨op, ⟨#[]⟩, iv, out, nilS⟩ ins [] [] :=
  ⟨hi, OwnsL.isL (te := 92) (base := 0) acells_len (OwnsL.nil ..) (by simp), (fun j a h => by simp at h), by simp, (fun a h => by cases h)⟩

theorem bare_ok (w : World) (op out : ByteArray) (iv : Sl) : NodeOk w ⟨op, ⟨#[]⟩, iv, out, nilS⟩ ⟨op, [], []⟩ :=
  ⟨rfl, OwnsL.isL (te := 92) (base := 0) acells_len (OwnsL.nil ..) (by simp), (fun j a h => by simp at h), (fun a h => by cases h)⟩

/-- What comes of two values. -/
def out2F (op : ByteArray) (t0 t1 : Int) (x y : List Int) : R (Int × List Int) :=
  (typP t0).bind fun _ => (countP x).bind fun _ => (typP t1).bind fun _ => (countP y).bind fun _ => (sameP [t0, t1]).bind fun t => (mustP (twoOK op.toList t)).bind fun _ => (spreadP x y).bind fun d => (countP d).bind fun _ => .ok (t, d)

/-- What comes of one value. -/
def out1F (op : ByteArray) (t0 : Int) (x : List Int) : R (Int × List Int) :=
  (typP t0).bind fun _ => (countP x).bind fun _ => (mustP (oneOK op.toList t0)).bind fun _ => .ok (t0, x)

theorem bind_assocE {α β γ : Type} (r : R α) (f : α → R β) (g : β → R γ) : (r.bind f).bind g = r.bind fun a => (f a).bind g := by cases r <;> rfl

theorem value2 (op : ByteArray) (v0 v1 : Val) (x y : List Int) : valueP 0 true [(v0, x), (v1, y)] ((sameP (tysOf [(v0, x), (v1, y)])).bind (fun t => (mustP (twoOK op.toList t)).bind (fun _ => .ok t))) (spreadP x y) [] = out2F op v0.ty v1.ty x y := by
  unfold valueP out2F
  simp only [stopP, mustP, if_true, vinP, tysOf, List.map_cons, List.map_nil, thenP, bind_assocE]
  rfl

theorem countP_bind {α : Type} (x : List Int) (f : R α) : ((countP x).bind fun _ => (countP x).bind fun _ => f) = (countP x).bind fun _ => f := by cases countP x <;> rfl

theorem value1 (op : ByteArray) (v0 : Val) (x : List Int) : valueP 0 true [(v0, x)] ((sameP (tysOf [(v0, x)])).bind (fun t => (mustP (oneOK op.toList t)).bind (fun _ => .ok t))) (.ok x) [] = out1F op v0.ty x := by
  unfold valueP out1F
  simp only [stopP, mustP, if_true, vinP, tysOf, List.map_cons, List.map_nil, thenP, bind_assocE, sameP, List.all_nil]
  cases typP v0.ty with
  | error c => rfl
  | ok a =>
    cases h : countP x with
    | error c => rfl
    | ok b =>
      by_cases hb : oneOK op.toList v0.ty = true
      · simp [hb, Except.bind, h]
      · simp [hb, Except.bind]

theorem isType_of {t : Int} (h : typP t = .ok ()) : isTypeP t = true := by
  unfold typP at h
  by_cases hb : isTypeP t = true
  · exact hb
  · rw [if_neg hb] at h
    cases h

theorem vin2 {v0 v1 : Val} {x y : List Int} (h : vinP [(v0, x), (v1, y)] = .ok ()) : ∀ s ∈ tysOf [(v0, x), (v1, y)], isTypeP s = true := by
  have h0 : typP v0.ty = .ok () ∧ typP v1.ty = .ok () := by
    simp only [vinP] at h
    cases h1 : typP v0.ty with
    | error c => rw [h1] at h; cases h
    | ok a =>
      rw [h1] at h
      simp only [Except.bind] at h
      cases h2 : countP x with
      | error c => rw [h2] at h; cases h
      | ok b =>
        rw [h2] at h
        simp only at h
        cases h3 : typP v1.ty with
        | error c => rw [h3] at h; cases h
        | ok c => exact ⟨rfl, rfl⟩
  intro s hs
  simp only [tysOf, List.map_cons, List.map_nil, List.mem_cons, List.not_mem_nil, or_false] at hs
  rcases hs with rfl | rfl
  · exact isType_of h0.1
  · exact isType_of h0.2

theorem vin1 {v0 : Val} {x : List Int} (h : vinP [(v0, x)] = .ok ()) : ∀ s ∈ tysOf [(v0, x)], isTypeP s = true := by
  have h0 : typP v0.ty = .ok () := by
    simp only [vinP] at h
    cases h1 : typP v0.ty with
    | error c => rw [h1] at h; cases h
    | ok a => rfl
  intro s hs
  simp only [tysOf, List.map_cons, List.map_nil, List.mem_cons, List.not_mem_nil, or_false] at hs
  subst hs
  exact isType_of h0

theorem eout2 (op out : ByteArray) (iv : Sl) (i1 i2 : ByteArray) (hop : op ∈ ([⟨#[65, 100, 100]⟩, ⟨#[68, 105, 118]⟩, ⟨#[65, 110, 100]⟩, ⟨#[79, 114]⟩, ⟨#[77, 117, 108]⟩] : List ByteArray)) (hck : checkF (ruleF op) op [i1, i2] out [] [] = 0) (ho : out.size ≤ 1048576) (u : Sl) (v0 v1 : Val) (x y : List Int) (w : World) (hl : Laid w) (hi : IsStrs w iv.v [i1, i2]) (hv : ValsIn w u.v [(v0, x), (v1, y)]) :
    Calls Tryz.prog 27 #[nval ⟨op, ⟨#[]⟩, iv, out, nilS⟩, .slice u.a u.n u.c] w (AttQ out w (out2F op v0.ty v1.ty x y)) := by
  have hop9 : op ∈ ([⟨#[65, 100, 100]⟩, ⟨#[83, 117, 98]⟩, ⟨#[77, 117, 108]⟩, ⟨#[68, 105, 118]⟩, ⟨#[77, 97, 120]⟩, ⟨#[77, 105, 110]⟩, ⟨#[65, 110, 100]⟩, ⟨#[79, 114]⟩, ⟨#[88, 111, 114]⟩] : List ByteArray) := by
    simp only [List.mem_cons, List.not_mem_nil, or_false] at hop ⊢
    rcases hop with h | h | h | h | h <;> simp [h]
  have hop12 : op ∈ ([⟨#[65, 100, 100]⟩, ⟨#[83, 117, 98]⟩, ⟨#[77, 117, 108]⟩, ⟨#[68, 105, 118]⟩, ⟨#[77, 97, 120]⟩, ⟨#[77, 105, 110]⟩, ⟨#[65, 110, 100]⟩, ⟨#[79, 114]⟩, ⟨#[88, 111, 114]⟩, ⟨#[69, 113, 117, 97, 108]⟩, ⟨#[76, 101, 115, 115]⟩, ⟨#[71, 114, 101, 97, 116, 101, 114]⟩] : List ByteArray) := by
    simp only [List.mem_cons, List.not_mem_nil, or_false] at hop ⊢
    rcases hop with h | h | h | h | h <;> simp [h]
  refine out_any ⟨op, ⟨#[]⟩, iv, out, nilS⟩ u _ w fun wx hx => ?_
  have key := valueof_any ⟨op, ⟨#[]⟩, iv, out, nilS⟩ ⟨op, [], []⟩ [i1, i2] u [(v0, x), (v1, y)] wx (hl.more hx) (bare_in wx op out iv _ (hi.more hx)) (hv.more hx) (by show out.size ≤ _; omega) _ _ (fun hc hll hin wy hy => ((type_two ⟨op, ⟨#[]⟩, iv, out, nilS⟩ ⟨op, [], []⟩ u [(v0, x), (v1, y)] wy hop9 (bare_ok wy op out iv) (hv.more (grown_trans hx hy)) rfl (by simp) (vin2 hin)).mono fun e w' he => ended_monoE he fun t v e1 e2 => ⟨e2, by
    simp only [tysOf, List.map_cons, List.map_nil, sameP] at e1
    have ht := vin2 hin v0.ty (by simp [tysOf])
    by_cases hb : ([v1.ty].all fun s => s == v0.ty) = true
    · rw [if_pos hb] at e1
      simp only [Except.bind, mustP] at e1
      split at e1
      · cases e1
      · rename_i a h1
        have : v0.ty = t := by simpa using e1
        rw [← this]; exact ht
    · rw [if_neg hb] at e1
      cases e1⟩)) (fun hc hll hin wy hy => dims_two ⟨op, ⟨#[]⟩, iv, out, nilS⟩ ⟨op, [], []⟩ u v0 v1 x y wy hop12 (bare_ok wy op out iv) (hv.more (grown_trans hx hy)))
  rw [show checkF (ruleF (Nod.op ⟨op, ⟨#[]⟩, iv, out, nilS⟩)) (Nod.op ⟨op, ⟨#[]⟩, iv, out, nilS⟩) [i1, i2] (Nod.out ⟨op, ⟨#[]⟩, iv, out, nilS⟩) (At.xs ⟨op, [], []⟩) (At.cs ⟨op, [], []⟩) = 0 from hck] at key
  have e := value2 op v0 v1 x y
  refine key.mono fun e' w' he => ?_
  rw [← e]
  exact ended_monoE he fun r v _ e2 => e2

theorem eout1 (op out : ByteArray) (iv : Sl) (i1 : ByteArray) (hop : op ∈ ([⟨#[78, 111, 116]⟩] : List ByteArray)) (hck : checkF (ruleF op) op [i1] out [] [] = 0) (ho : out.size ≤ 1048576) (u : Sl) (v0 : Val) (x : List Int) (w : World) (hl : Laid w) (hi : IsStrs w iv.v [i1]) (hv : ValsIn w u.v [(v0, x)]) :
    Calls Tryz.prog 27 #[nval ⟨op, ⟨#[]⟩, iv, out, nilS⟩, .slice u.a u.n u.c] w (AttQ out w (out1F op v0.ty x)) := by
  have hop9 : op ∈ ([⟨#[73, 100, 101, 110, 116, 105, 116, 121]⟩, ⟨#[78, 101, 103]⟩, ⟨#[65, 98, 115]⟩, ⟨#[78, 111, 116]⟩, ⟨#[82, 101, 108, 117]⟩, ⟨#[83, 113, 114, 116]⟩, ⟨#[70, 108, 111, 111, 114]⟩, ⟨#[69, 120, 112]⟩, ⟨#[83, 105, 103, 109, 111, 105, 100]⟩, ⟨#[84, 97, 110, 104]⟩] : List ByteArray) := by
    simp only [List.mem_cons, List.not_mem_nil, or_false] at hop ⊢
    simp [hop]
  have hop12 : op ∈ ([⟨#[73, 100, 101, 110, 116, 105, 116, 121]⟩, ⟨#[78, 101, 103]⟩, ⟨#[65, 98, 115]⟩, ⟨#[78, 111, 116]⟩, ⟨#[82, 101, 108, 117]⟩, ⟨#[83, 113, 114, 116]⟩, ⟨#[70, 108, 111, 111, 114]⟩, ⟨#[69, 120, 112]⟩, ⟨#[83, 105, 103, 109, 111, 105, 100]⟩, ⟨#[84, 97, 110, 104]⟩, ⟨#[67, 108, 105, 112]⟩, ⟨#[67, 97, 115, 116]⟩] : List ByteArray) := by
    simp only [List.mem_cons, List.not_mem_nil, or_false] at hop ⊢
    simp [hop]
  refine out_any ⟨op, ⟨#[]⟩, iv, out, nilS⟩ u _ w fun wx hx => ?_
  have key := valueof_any ⟨op, ⟨#[]⟩, iv, out, nilS⟩ ⟨op, [], []⟩ [i1] u [(v0, x)] wx (hl.more hx) (bare_in wx op out iv _ (hi.more hx)) (hv.more hx) (by show out.size ≤ _; omega) _ _ (fun hc hll hin wy hy => ((type_one ⟨op, ⟨#[]⟩, iv, out, nilS⟩ ⟨op, [], []⟩ u [(v0, x)] wy hop9 (bare_ok wy op out iv) (hv.more (grown_trans hx hy)) rfl (by simp) (vin1 hin)).mono fun e w' he => ended_monoE he fun t v e1 e2 => ⟨e2, by
    simp only [tysOf, List.map_cons, List.map_nil, sameP, List.all_nil, if_true, Except.bind, mustP] at e1
    have ht := vin1 hin v0.ty (by simp [tysOf])
    split at e1
    · cases e1
    · have : v0.ty = t := by simpa using e1
      rw [← this]; exact ht⟩)) (fun hc hll hin wy hy => dims_x ⟨op, ⟨#[]⟩, iv, out, nilS⟩ ⟨op, [], []⟩ u v0 x wy hop12 (bare_ok wy op out iv) (hv.more (grown_trans hx hy)))
  rw [show checkF (ruleF (Nod.op ⟨op, ⟨#[]⟩, iv, out, nilS⟩)) (Nod.op ⟨op, ⟨#[]⟩, iv, out, nilS⟩) [i1] (Nod.out ⟨op, ⟨#[]⟩, iv, out, nilS⟩) (At.xs ⟨op, [], []⟩) (At.cs ⟨op, [], []⟩) = 0 from hck] at key
  have e := value1 op v0 x
  refine key.mono fun e' w' he => ?_
  rw [← e]
  exact ended_monoE he fun r v _ e2 => e2
end Go.Proofs.YteigfipgmghgmaaGreatDoor
