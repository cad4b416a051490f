/- Joined texts: MvTrG, MvInts. -/
import Derived.Test.YtaoplfpigjkgpaaGreatDoorPartBL
import Derived.Test.YtaoplfpigjkgpaaGreatDoorPartBR
import Derived.Test.YtaoplfpigjkgpaaGreatDoorPartBJ
namespace Go.Proofs.YtaoplfpigjkgpaaGreatDoor

open Go.RowKit

theorem axesO_nodup {rank : Nat} : ∀ {l : List Int} {is r : List Bool}, is.length = rank → axesO rank l is = some r → (∀ a ∈ l, 0 ≤ a) → l.Nodup ∧ ∀ a ∈ l, a < rank ∧ is.getD a.toNat false = false
  | [], _, _, _, _, _ => ⟨List.nodup_nil, fun a ha => by simp at ha⟩
  | a :: l, is, r, hl, h, h0 => by
    have ha := h0 a (by simp)
    unfold axesO at h
    have e : axisO a rank = if (rank : Int) ≤ a then none else some a.toNat := by
      have hf : fromEndP a rank = a := by unfold fromEndP; rw [if_neg (by omega)]
      unfold axisO
      rw [hf, if_neg (by omega)]
    rw [e] at h
    by_cases hr : (rank : Int) ≤ a
    · rw [if_pos hr] at h
      cases h
    · rw [if_neg hr] at h
      simp only at h
      split at h
      · cases h
      · rename_i hi
        have hi : is.getD a.toNat false = false := by simpa using hi
        obtain ⟨n1, n2⟩ := axesO_nodup (by rw [List.length_set]; exact hl) h (fun b hb => h0 b (by simp [hb]))
        have ai : a.toNat < is.length := by omega
        have hne : ∀ b ∈ l, b.toNat ≠ a.toNat := fun b hb e => by
          have h1 := (n2 b hb).2
          rw [e] at h1
          simp [List.getD, ai] at h1
        refine ⟨List.nodup_cons.2 ⟨fun hm => hne a hm rfl, n1⟩, fun b hb => ?_⟩
        rcases List.mem_cons.1 hb with rfl | hb
        · exact ⟨by omega, hi⟩
        · refine ⟨(n2 b hb).1, ?_⟩
          have h1 := (n2 b hb).2
          simp only [List.getD] at h1 ⊢
          rw [List.getElem?_set_ne (fun e => hne b hb e.symm)] at h1
          exact h1

theorem permL_ok {x : List Int} : ∀ {P l : List Int}, permL x P = .ok l → (∀ p ∈ P, 0 ≤ p) ∧ l = Vw.pickL x P
  | [], l, h => by cases h; exact ⟨fun p hp => by simp at hp, rfl⟩
  | p :: P, l, h => by
    unfold permL at h
    split at h
    · rename_i hp
      unfold Except.map at h
      split at h
      · cases h
      · rename_i l' hl
        cases h
        obtain ⟨h1, h2⟩ := permL_ok hl
        exact ⟨fun q hq => by rcases List.mem_cons.1 hq with rfl | hq; exact hp; exact h1 q hq, by rw [h2]; rfl⟩
    · cases h

theorem transposed_ok {A : At} {x l : List Int} (h : transposedP A x = .ok l) : Vw.IsPerm (permP A x.length) x.length ∧ l = Vw.pickL x (permP A x.length) := by
  unfold transposedP at h
  obtain ⟨_, h1, h⟩ := bind_ok h
  obtain ⟨r, h2, h⟩ := bind_ok h
  obtain ⟨h3, h4⟩ := permL_ok h
  have hl : (permP A x.length).length = x.length := by
    unfold mustP at h1
    split at h1
    · rename_i e; simpa using e
    · cases h1
  unfold axesP at h2
  split at h2
  · rename_i is his
    obtain ⟨n1, n2⟩ := axesO_nodup (by simp) his h3
    exact ⟨⟨hl, fun p hp => ⟨h3 p hp, (n2 p hp).1⟩, n1⟩, h4⟩
  · cases h2

theorem nz_transposed (A : At) (x : List Int) : ∀ c, transposedP A x = .error c → c ≠ 0 := by
  intro c h
  have bnd : ∀ {α β : Type} {r : R α} {f : α → R β}, r.bind f = .error c → r = .error c ∨ ∃ a, r = .ok a ∧ f a = .error c := by
    intro α β r f h
    cases r with
    | error c' => exact .inl (by cases h; rfl)
    | ok a => exact .inr ⟨a, rfl, h⟩
  unfold transposedP at h
  rcases bnd h with h | ⟨_, -, h⟩
  · unfold mustP at h
    split at h
    · cases h
    · cases h; decide
  rcases bnd h with h | ⟨_, -, h⟩
  · unfold axesP at h
    split at h
    · cases h
    · cases h; decide
  · have key : ∀ P : List Int, permL x P = .error c → c ≠ 0 := by
      intro P
      induction P with
      | nil => intro h; cases h
      | cons p P ih =>
        intro h
        unfold permL at h
        split at h
        · unfold Except.map at h
          split at h
          · rename_i c' hc; cases h; exact ih hc
          · cases h
        · cases h; decide
    exact key _ h

theorem nz_outTG (t : Int) (x : List Int) (A : At) : ∀ c, outT t x (transposedP A x) = .error c → c ≠ 0 := by
  intro c h
  have bnd : ∀ {α β : Type} {r : R α} {f : α → R β}, r.bind f = .error c → r = .error c ∨ ∃ a, r = .ok a ∧ f a = .error c := by
    intro α β r f h
    cases r with
    | error c' => exact .inl (by cases h; rfl)
    | ok a => exact .inr ⟨a, rfl, h⟩
  unfold outT at h
  rcases bnd h with h | ⟨_, -, h⟩
  · exact nz_typT h
  rcases bnd h with h | ⟨_, -, h⟩
  · exact nz_cntT h
  rcases bnd h with h | ⟨_, -, h⟩
  · exact nz_transposed _ _ _ h
  rcases bnd h with h | ⟨_, -, h⟩
  · exact nz_cntT h
  · cases h

theorem toutG (n : Nod) (A : At) (i1 : ByteArray) (hop : n.op = ⟨#[84, 114, 97, 110, 115, 112, 111, 115, 101]⟩) (u : Sl) (v0 : Val) (x : List Int) (w : World) (hl : Laid w) (hni : NodeIn w n [i1] A.xs A.cs) (hno : NodeOk w n A) (hck : checkF (ruleF n.op) n.op [i1] n.out A.xs A.cs = 0) (hth : thenL (A.xs.find? (isA ⟨#[116, 104, 101, 110]⟩ 3)) = []) (ho : n.out.size ≤ 1048576) (hv : ValsIn w u.v [(v0, x)]) :
    Calls Tryz.prog 38 #[nval n, .slice u.a u.n u.c] w (AttQ n.out w (outT v0.ty x (transposedP A x))) := by
  refine out_any n u _ w fun wx hx => ?_
  have key := valueof_any n A [i1] u [(v0, x)] wx (hl.more hx) (hni.more hx) (hv.more hx) (by omega) _ _ (fun hc hll hin wy hy => ((type_same n A u [(v0, x)] wy (by rw [hop]; simp) (hno.more (grown_trans hx hy)) (hv.more (grown_trans hx hy)) (by simp) (by simp) (vinT hin).1).mono fun e w' he => ended_monoE he fun t v e1 e2 => ⟨e2, sameP_typ e1 (by simp [tysOf]) (vinT hin).1⟩)) (fun hc hll hin wy hy => dims_transposed n A u v0 x wy (by rw [hop]; simp) (hno.more (grown_trans hx hy)) (hv.more (grown_trans hx hy)) (fine_of (vinT hin).2))
  rw [hck, hth] at key
  have e := valueT v0 x (transposedP A x)
  refine key.mono fun e' w' he => ?_
  rw [← e]
  exact ended_monoE he fun r v _ e2 => e2

def trG (A : At) (t : Int) (x xs : List Int) : R (Int × List Int × List Int) :=
  doR (nodeP [tq t x xs] (outT t x (transposedP A x))) fun _ => .ok (Vw.rdL 0 (Vw.pickL x (permP A x.length)) (Vw.pickL (strd x) (permP A x.length)) xs)

theorem tr_do (n : Nod) (A : At) (i1 : ByteArray) (hop : n.op = ⟨#[84, 114, 97, 110, 115, 112, 111, 115, 101]⟩) (u : Sl) (T0 : Ten) (x xs : List Int) (w : World) (hl : Laid w) (hni : NodeIn w n [i1] A.xs A.cs) (hno : NodeOk w n A) (hck : checkF (ruleF n.op) n.op [i1] n.out A.xs A.cs = 0) (hth : thenL (A.xs.find? (isA ⟨#[116, 104, 101, 110]⟩ 3)) = []) (ho : n.out.size ≤ 1048576) (hv : TensIn w u.v [(T0, (x, xs))]) :
    Calls Tryz.prog 11 #[nval n, .slice u.a u.n u.c] w (DoQ w (trG A T0.ty x xs)) := by
  refine mdo_any _ u _ w fun wx hx => mbdo_any _ u _ _ wx (nz_node (nz_outTG _ _ _)) (fun l => nz_ok _) (fun wy hy => ?_) (fun wy ty dv l hy hr hd => ?_)
  · have hg := grown_trans hx hy
    refine bnode_any n u [(T0, (x, xs))] _ wy (hv.more hg) (by simp) fun wz s vs hz hvs h1 h2 => ?_
    obtain ⟨v0, rfl, e0⟩ := one_valT h1 h2
    have key := toutG n A i1 hop s v0 x wz (hl.more (grown_trans hg hz)) (hni.more (grown_trans hg hz)) (hno.more (grown_trans hg hz)) hck hth ho hvs
    rw [e0] at key
    exact key
  · have hg := grown_trans hx hy
    obtain ⟨hall, hr⟩ := node_inv hr
    obtain ⟨-, c1, hp, c3⟩ := outT_inv hr
    obtain ⟨hP, hle⟩ := transposed_ok hp
    simp only [tq, okT, List.all_cons, List.all_nil, Bool.and_true, beq_iff_eq] at hall
    exact moved_trans n A hop u T0 x xs _ ty dv l wy (hno.more hg) (hv.more hg) hd (by rw [hle, Vw.pickL_len, hP.len]) c1 hP (turn_rd (fine_of c1) hP (pb_inv hall).2)

theorem trG_inv {A : At} {t ty : Int} {x xs l zs : List Int} (h : trG A t x xs = .ok (ty, l, zs)) : ty = t ∧ cntE x = 0 ∧ cntE l = 0 ∧ Vw.IsPerm (permP A x.length) x.length ∧ l = Vw.pickL x (permP A x.length) ∧ zs = Vw.rdL 0 (Vw.pickL x (permP A x.length)) (Vw.pickL (strd x) (permP A x.length)) xs ∧ pbE t x xs = 0 := by
  unfold trG doR at h
  split at h
  · rename_i ty' l' hn
    obtain ⟨hall, ho⟩ := node_inv hn
    obtain ⟨e1, c1, hp, c3⟩ := outT_inv ho
    obtain ⟨hP, hle⟩ := transposed_ok hp
    simp only [tq, okT, List.all_cons, List.all_nil, Bool.and_true, beq_iff_eq] at hall
    cases h
    exact ⟨e1, c1, c3, hP, hle, rfl, hall⟩
  · cases h

theorem nz_trG (A : At) (t : Int) (x xs : List Int) : ∀ c, trG A t x xs = .error c → c ≠ 0 := by
  intro c h
  unfold trG doR at h
  split at h
  · cases h
  · rename_i c' hn
    cases h
    exact nz_node (nz_outTG _ _ _) _ hn

end Go.Proofs.YtaoplfpigjkgpaaGreatDoor

namespace Go.Proofs.YtaoplfpigjkgpaaGreatDoor

open Go.RowKit

def inA (nm : ByteArray) (s : Sl) : Atr := ⟨nm, 7, 0, 0, ⟨#[]⟩, 0, nilS, nilS, s⟩

set_option maxRecDepth 100000 in
set_option maxHeartbeats 4000000 in
theorem mints_any (nm : ByteArray) (s : Sl) (w : World) : Calls Tryz.prog 13 #[.string nm, .slice s.a s.n s.c] w fun e w' => e = .returned (.slice (some ⟨w.heap.size, 0, none⟩) 1 1) ∧ w' = w.alloc (.cells #[.string nm, .int .i64 7, .int .i64 0, .int .i64 0, .string ⟨#[]⟩, .int .i64 0, .slice none 0 0, .slice none 0 0, .slice s.a s.n s.c] 41) := by
  obtain ⟨sa, sn, sc⟩ := s
  go_enter Tryz.func13, Tryz.ntmps13
  go_wp2
  go_ret
  exact ⟨rfl, rfl⟩

theorem set_grown (x : World) (B j : Nat) (v : Value) : x.grownBy (x.setCell ⟨B, j, none⟩ v) (some B) :=
  ⟨rfl, rfl, rfl, by simp [World.setCell], fun k _ hk => Below.heap_setCell _ _ _ _ (fun e => hk (by rw [e]))⟩

def inAt (op nm : ByteArray) (s : Sl) (P : List Int) : At := ⟨op, [inA nm s], [⟨[], [], P⟩]⟩

theorem in_attrs {w : World} {B : Nat} {nm : ByteArray} {s : Sl} (h : w.heap[B]? = some (.cells #[.string nm, .int .i64 7, .int .i64 0, .int .i64 0, .string ⟨#[]⟩, .int .i64 0, .slice none 0 0, .slice none 0 0, .slice s.a s.n s.c] 41 (0, 0))) : IsAttrs w (.slice (some ⟨B, 0, none⟩) 1 1) [inA nm s] :=
  lit_isLG (te := 41) (bytes := 136) (xs := [inA nm s]) acells_len h rfl rfl (Nat.le_of_ble_eq_true rfl) (Nat.le_of_ble_eq_true rfl)

theorem in_has {w : World} (op nm : ByteArray) {s : Sl} {P : List Int} (hp : IsInts w s.v P) : ∀ (j : Nat) (b : Atr), (inAt op nm s P).xs[j]? = some b → ∃ c, (inAt op nm s P).cs[j]? = some c ∧ Has w b c
  | 0, b, h => by
    cases h
    exact ⟨_, rfl, ⟨ints_nil w, ints_nil w, hp⟩⟩
  | _ + 1, b, h => by simp [inAt] at h

theorem in_ok {w : World} {op nm out : ByteArray} {iv s : Sl} {B : Nat} {P : List Int} (hp : IsInts w s.v P) (h : IsAttrs w (.slice (some ⟨B, 0, none⟩) 1 1) [inA nm s]) : NodeOk w ⟨op, ⟨#[]⟩, iv, out, ⟨some ⟨B, 0, none⟩, 1, 1⟩⟩ (inAt op nm s P) :=
  ⟨rfl, h, in_has op nm hp, fun b hb => by
    simp only [inAt, List.mem_cons, List.not_mem_nil, or_false] at hb
    subst hb
    show -9223372036854775808 ≤ (0 : Int) ∧ (0 : Int) ≤ 9223372036854775807
    omega⟩

theorem in_in {w : World} {op nm out : ByteArray} {iv s : Sl} {B : Nat} {P : List Int} {ins : List ByteArray} (hi : IsStrs w iv.v ins) (hp : IsInts w s.v P) (h : IsAttrs w (.slice (some ⟨B, 0, none⟩) 1 1) [inA nm s]) : NodeIn w ⟨op, ⟨#[]⟩, iv, out, ⟨some ⟨B, 0, none⟩, 1, 1⟩⟩ ins (inAt op nm s P).xs (inAt op nm s P).cs :=
  ⟨hi, h, in_has op nm hp, by simp [inAt], fun b hb => by
    simp only [inAt, List.mem_cons, List.not_mem_nil, or_false] at hb
    subst hb
    show 0 ≤ 1048576
    omega⟩

theorem pm_perm (s : Sl) (P : List Int) (n : Nat) : permP (inAt ⟨#[84, 114, 97, 110, 115, 112, 111, 115, 101]⟩ ⟨#[112, 101, 114, 109]⟩ s P) n = P := by kernel_rfl

theorem pm_then (s : Sl) (P : List Int) : thenL ((inAt ⟨#[84, 114, 97, 110, 115, 112, 111, 115, 101]⟩ ⟨#[112, 101, 114, 109]⟩ s P).xs.find? (isA ⟨#[116, 104, 101, 110]⟩ 3)) = [] := by kernel_rfl

theorem pm_check (s : Sl) (P : List Int) : checkF (ruleF ⟨#[84, 114, 97, 110, 115, 112, 111, 115, 101]⟩) ⟨#[84, 114, 97, 110, 115, 112, 111, 115, 101]⟩ [⟨#[120]⟩] ⟨#[121]⟩ (inAt ⟨#[84, 114, 97, 110, 115, 112, 111, 115, 101]⟩ ⟨#[112, 101, 114, 109]⟩ s P).xs (inAt ⟨#[84, 114, 97, 110, 115, 112, 111, 115, 101]⟩ ⟨#[112, 101, 114, 109]⟩ s P).cs = 0 := by kernel_rfl

theorem x_strs {w : World} {B : Nat} (h : w.heap[B]? = some (.cells #[.string ⟨#[120]⟩] 9 (0, 0))) : IsStrs w (.slice (some ⟨B, 0, none⟩) 1 1) [⟨#[120]⟩] := lit_isLG (te := 9) (bytes := 16) (xs := [⟨#[120]⟩]) scell_len h rfl rfl (Nat.le_of_ble_eq_true rfl) (Nat.le_of_ble_eq_true rfl)

theorem back_answer {s s' : Sl} {t ty ty' : Int} {x xs l zs l' zs' P Q : List Int} (h : trG (inAt ⟨#[84, 114, 97, 110, 115, 112, 111, 115, 101]⟩ ⟨#[112, 101, 114, 109]⟩ s P) t x xs = .ok (ty, l, zs)) (hq : Vw.Turns P Q x.length) (h' : trG (inAt ⟨#[84, 114, 97, 110, 115, 112, 111, 115, 101]⟩ ⟨#[112, 101, 114, 109]⟩ s' Q) ty l zs = .ok (ty', l', zs')) : ty' = t ∧ l' = x ∧ zs' = xs := by
  obtain ⟨rfl, c1, c2, hP, hl, hz, hpb⟩ := trG_inv h
  obtain ⟨rfl, -, -, hQ, hl', hz', -⟩ := trG_inv h'
  rw [pm_perm] at hP hl hz hQ hl' hz'
  refine ⟨rfl, ?_, ?_⟩
  · rw [hl', hl, Vw.pick_back hP hq rfl]
  · rw [hz', hz, hl]
    exact turn_back (fine_of c1) hP hq (pb_inv hpb).2

theorem axesO_some {rank : Nat} : ∀ {l : List Int} {is : List Bool}, is.length = rank → l.Nodup → (∀ a ∈ l, 0 ≤ a ∧ a < rank ∧ is.getD a.toNat false = false) → ∃ r, axesO rank l is = some r
  | [], is, _, _, _ => ⟨is, rfl⟩
  | a :: l, is, hl, hn, h => by
    obtain ⟨h1, h2, h3⟩ := h a (by simp)
    rw [List.nodup_cons] at hn
    have e : axisO a rank = some a.toNat := by
      have hf : fromEndP a rank = a := by unfold fromEndP; rw [if_neg (by omega)]
      unfold axisO
      rw [hf, if_neg (by omega), if_neg (by omega)]
    obtain ⟨r, hr⟩ := axesO_some (rank := rank) (l := l) (is := is.set a.toNat true) (by rw [List.length_set]; exact hl) hn.2 (fun b hb => by
      obtain ⟨b1, b2, b3⟩ := h b (by simp [hb])
      have hne : a.toNat ≠ b.toNat := fun e => hn.1 (by rw [show a = b by omega]; exact hb)
      refine ⟨b1, b2, ?_⟩
      simp only [List.getD] at b3 ⊢
      rw [List.getElem?_set_ne hne]
      exact b3)
    refine ⟨r, ?_⟩
    unfold axesO
    rw [e]
    simp only [h3, Bool.false_eq_true, if_false]
    exact hr

theorem permL_mk {x : List Int} : ∀ {P : List Int}, (∀ p ∈ P, 0 ≤ p) → permL x P = .ok (Vw.pickL x P)
  | [], _ => rfl
  | p :: P, h => by
    unfold permL
    rw [if_pos (h p (by simp)), permL_mk (fun q hq => h q (by simp [hq]))]
    rfl

theorem transposed_mk {A : At} {x : List Int} (hP : Vw.IsPerm (permP A x.length) x.length) : transposedP A x = .ok (Vw.pickL x (permP A x.length)) := by
  have h1 : mustP (decide ((permP A x.length).length = x.length)) = .ok () := by unfold mustP; rw [if_pos (by simp [hP.len])]
  obtain ⟨r, hr⟩ := axesO_some (rank := x.length) (l := permP A x.length) (is := List.replicate x.length false) (by simp) hP.once (fun a ha => ⟨(hP.rng a ha).1, (hP.rng a ha).2, by simp only [List.getD]; rw [List.getElem?_replicate]; split <;> rfl⟩)
  have h2 : axesP (permP A x.length) x.length = .ok r := by unfold axesP; rw [hr]
  unfold transposedP
  rw [h1, h2, permL_mk (fun p hp => (hP.rng p hp).1)]
  rfl

theorem trG_typ {A : At} {t ty : Int} {x xs l zs : List Int} (h : trG A t x xs = .ok (ty, l, zs)) : ∃ u, typP t = .ok u := by
  unfold trG doR at h
  split at h
  · rename_i ty' l' hn
    obtain ⟨-, ho⟩ := node_inv hn
    unfold outT at ho
    obtain ⟨u, hu, -⟩ := bind_ok ho
    exact ⟨u, hu⟩
  · cases h

theorem turned_pb {t : Int} {x xs P : List Int} (hpb : pbE t x xs = 0) (c1 : cntE x = 0) (hP : Vw.IsPerm P x.length) : pbE t (Vw.pickL x P) (Vw.rdL 0 (Vw.pickL x P) (Vw.pickL (strd x) P) xs) = 0 := by
  have F := fine_of c1
  have hl := (pb_inv hpb).2
  have hm := (turn_may F hP).1
  have hlen := turn_len F hP hl
  have hc : cntE (Vw.pickL x P) = 0 := hm.fine.ok
  have h0 : chk t 0 ≠ false := fun e => by unfold pbE at hpb; rw [if_pos e] at hpb; cases hpb
  have hx : xs.all (chk t) = true := by
    unfold pbE at hpb
    rw [if_neg h0, if_neg (by simp [c1]), if_neg (by rw [cnt, if_pos c1, hl]; simp)] at hpb
    split at hpb
    · assumption
    · cases hpb
  unfold pbE
  rw [if_neg h0, if_neg (by simp [hc]), if_neg (by rw [cnt, if_pos hc, hlen, hl, Vw.prod_pick hP]; simp), if_pos ?_]
  rw [List.all_eq_true] at hx ⊢
  intro z hz
  obtain ⟨n, hn, rfl⟩ := List.getElem_of_mem hz
  have e := turn_at F hP hl n (by rw [← hl, ← hlen]; omega)
  simp only [List.getD] at e
  rw [List.getElem?_eq_getElem hn, Option.getD_some] at e
  rw [e]
  cases h : xs[(Vw.dot (crds (Vw.pickL x P) n) (Vw.pickL (strd x) P)).toNat]? with
  | none => simpa using h0
  | some y => exact hx y (List.mem_of_getElem? h)

theorem back_ok {s s' : Sl} {t ty : Int} {x xs l zs P Q : List Int} (h : trG (inAt ⟨#[84, 114, 97, 110, 115, 112, 111, 115, 101]⟩ ⟨#[112, 101, 114, 109]⟩ s P) t x xs = .ok (ty, l, zs)) (hq : Vw.Turns P Q x.length) : trG (inAt ⟨#[84, 114, 97, 110, 115, 112, 111, 115, 101]⟩ ⟨#[112, 101, 114, 109]⟩ s' Q) ty l zs = .ok (t, x, xs) := by
  obtain ⟨u, hu⟩ := trG_typ h
  have h' := h
  obtain ⟨rfl, c1, c2, hP, hl, hz, hpb⟩ := trG_inv h
  rw [pm_perm] at hP hl hz
  have hyl : l.length = x.length := by rw [hl, Vw.pickL_len, hP.len]
  have hQ : Vw.IsPerm Q l.length := by rw [hyl]; exact hq.perm hP
  have hp2 : pbE ty l zs = 0 := by rw [hz, hl]; exact turned_pb hpb c1 hP
  have hb := Vw.pick_back hP hq (l := x) rfl
  have ht := transposed_mk (A := inAt ⟨#[84, 114, 97, 110, 115, 112, 111, 115, 101]⟩ ⟨#[112, 101, 114, 109]⟩ s' Q) (x := l) (by rw [pm_perm]; exact hQ)
  rw [pm_perm] at ht
  have ho : outT ty l (transposedP (inAt ⟨#[84, 114, 97, 110, 115, 112, 111, 115, 101]⟩ ⟨#[112, 101, 114, 109]⟩ s' Q) l) = .ok (ty, x) := by
    unfold outT
    rw [hu, ht, show countP l = .ok (prod l) from if_pos c2, hl, hb, ]
    show (countP x).bind _ = _
    rw [show countP x = .ok (prod x) from if_pos c1]
    rfl
  have hd : trG (inAt ⟨#[84, 114, 97, 110, 115, 112, 111, 115, 101]⟩ ⟨#[112, 101, 114, 109]⟩ s' Q) ty l zs = .ok (ty, x, Vw.rdL 0 (Vw.pickL l Q) (Vw.pickL (strd l) Q) zs) := by
    unfold trG
    rw [pm_perm]
    unfold nodeP
    rw [if_pos (by simp [tq, okT, hp2]), ho]
    rfl
  obtain ⟨-, -, e⟩ := back_answer h' hq hd
  rw [hd, e]

end Go.Proofs.YtaoplfpigjkgpaaGreatDoor
