/- Joined texts: RdOut. -/
import Derived.Test.YtahmmilhmoogbaaGreatDoorPartBR
namespace Go.Proofs.YtahmmilhmoogbaaGreatDoor

open Go.RowKit

def outR (t : Int) (x : List Int) (ts : R Int) (d : R (List Int)) : R (Int × List Int) :=
  (typP t).bind fun _ => (countP x).bind fun _ => ts.bind fun t' => d.bind fun d => (countP d).bind fun _ => .ok (t', d)

theorem valueR (v0 : Val) (x : List Int) (ts : R Int) (d : R (List Int)) : valueP 0 true [(v0, x)] ts d [] = outR v0.ty x ts d := by
  unfold valueP outR
  simp only [stopP, mustP, if_true, vinP, thenP, bind_assocE]
  rfl

theorem outR_inv {t ty : Int} {x l : List Int} {ts : R Int} {d : R (List Int)} (h : outR t x ts d = .ok (ty, l)) : cntE x = 0 ∧ ts = .ok ty ∧ d = .ok l ∧ cntE l = 0 := by
  unfold outR at h
  obtain ⟨_, -, h⟩ := bind_ok h
  obtain ⟨_, hx, h⟩ := bind_ok h
  obtain ⟨t', ht, h⟩ := bind_ok h
  obtain ⟨d', hd, h⟩ := bind_ok h
  obtain ⟨_, hc, h⟩ := bind_ok h
  cases h
  exact ⟨count_ok hx, ht, hd, count_ok hc⟩

theorem bindR {α β : Type} {c : Int} {r : R α} {f : α → R β} (h : r.bind f = .error c) : r = .error c ∨ ∃ a, r = .ok a ∧ f a = .error c := by
  cases r with
  | error c' => exact .inl (by cases h; rfl)
  | ok a => exact .inr ⟨a, rfl, h⟩

theorem nz_mustR {b : Bool} {c : Int} (h : mustP b = .error c) : c ≠ 0 := by
  unfold mustP at h
  split at h
  · cases h
  · cases h; decide

theorem nz_axesR {l : List Int} {r : Nat} {c : Int} (h : axesP l r = .error c) : c ≠ 0 := by
  unfold axesP at h
  split at h
  · cases h
  · cases h; decide

theorem nz_isOn {z c : Int} (h : isOnP z = .error c) : c ≠ 0 := by
  unfold isOnP at h
  split at h
  · cases h
  · split at h
    · cases h
    · cases h; decide

theorem nz_reduced (A : At) (x : List Int) : ∀ c, reducedP A x = .error c → c ≠ 0 := by
  intro c h
  unfold reducedP at h
  rcases bindR h with h | ⟨_, -, h⟩
  · exact nz_isOn h
  rcases bindR h with h | ⟨_, -, h⟩
  · exact nz_axesR h
  · cases h

theorem nz_outR (t : Int) (x : List Int) (ts : R Int) (d : R (List Int)) (ht : ∀ c, ts = .error c → c ≠ 0) (hd : ∀ c, d = .error c → c ≠ 0) : ∀ c, outR t x ts d = .error c → c ≠ 0 := by
  intro c h
  unfold outR at h
  rcases bindR h with h | ⟨_, -, h⟩
  · exact nz_typT h
  rcases bindR h with h | ⟨_, -, h⟩
  · exact nz_cntT h
  rcases bindR h with h | ⟨_, -, h⟩
  · exact ht _ h
  rcases bindR h with h | ⟨_, -, h⟩
  · exact hd _ h
  rcases bindR h with h | ⟨_, -, h⟩
  · exact nz_cntT h
  · cases h

theorem axesO_length {rank : Nat} : ∀ {l : List Int} {is r : List Bool}, axesO rank l is = some r → r.length = is.length
  | [], is, r, h => by cases h; rfl
  | a :: l, is, r, h => by
    unfold axesO at h
    split at h
    · cases h
    · split at h
      · cases h
      · rw [axesO_length h, List.length_set]

def goneP (A : At) (x : List Int) : List Bool := (axesO x.length (alongP A x.length) (List.replicate x.length false)).getD []

theorem axes_gone {A : At} {x : List Int} {g : List Bool} (h : axesP (alongP A x.length) x.length = .ok g) : g = goneP A x ∧ axesO x.length (alongP A x.length) (List.replicate x.length false) = some (goneP A x) ∧ (goneP A x).length = x.length := by
  unfold axesP at h
  unfold goneP
  split at h
  · rename_i is hs
    cases h
    rw [hs]
    exact ⟨rfl, rfl, by rw [Option.getD_some, axesO_length hs, List.length_replicate]⟩
  · cases h

theorem reduced_gone {A : At} {x l : List Int} (h : reducedP A x = .ok l) : ∃ keep, isOnP (A.int ⟨#[107, 101, 101, 112, 100, 105, 109, 115]⟩ 1) = .ok keep ∧ l = keptL keep x (goneP A x) ∧ axesO x.length (alongP A x.length) (List.replicate x.length false) = some (goneP A x) ∧ (goneP A x).length = x.length := by
  unfold reducedP at h
  obtain ⟨keep, hk, h⟩ := bind_ok h
  obtain ⟨g, hg, h⟩ := bind_ok h
  cases h
  obtain ⟨rfl, h1, h2⟩ := axes_gone hg
  exact ⟨keep, hk, rfl, h1, h2⟩

def tySame (t : Int) : R Int := (mustP (t != 9)).bind fun _ => .ok t
def tyArg (t : Int) : R Int := (mustP (t != 9)).bind fun _ => .ok 7
def tyFlt (t : Int) : R Int := (mustP (t == 1)).bind fun _ => .ok 1

theorem nz_tysame (t : Int) : ∀ c, tySame t = .error c → c ≠ 0 := fun c h => by
  rcases bindR h with h | ⟨_, -, h⟩
  · exact nz_mustR h
  · cases h

theorem nz_tyarg (t : Int) : ∀ c, tyArg t = .error c → c ≠ 0 := fun c h => by
  rcases bindR h with h | ⟨_, -, h⟩
  · exact nz_mustR h
  · cases h

theorem nz_tyflt (t : Int) : ∀ c, tyFlt t = .error c → c ≠ 0 := fun c h => by
  rcases bindR h with h | ⟨_, -, h⟩
  · exact nz_mustR h
  · cases h

theorem routG (n : Nod) (A : At) (i1 : ByteArray) (u : Sl) (v0 : Val) (x : List Int) (w : World) (hl : Laid w) (hni : NodeIn w n [i1] A.xs A.cs) (hck : checkF (ruleF n.op) n.op [i1] n.out A.xs A.cs = 0) (hth : thenL (A.xs.find? (isA ⟨#[116, 104, 101, 110]⟩ 3)) = []) (ho : n.out.size ≤ 1048576) (hv : ValsIn w u.v [(v0, x)]) (ts : R Int) (d : R (List Int))
    (TM : vinP [(v0, x)] = .ok () → ∀ wx, w.grownBy wx none → Calls Tryz.prog 80 #[nval n, .slice u.a u.n u.c] wx (Ended wx ts fun t v _ => v = .int .i64 t ∧ isTypeP t = true))
    (DM : vinP [(v0, x)] = .ok () → ∀ wx, w.grownBy wx none → Calls Tryz.prog 81 #[nval n, .slice u.a u.n u.c] wx (Ended wx d DimsQ)) :
    Calls Tryz.prog 36 #[nval n, .slice u.a u.n u.c] w (AttQ n.out w (outR v0.ty x ts d)) := by
  refine out_any n u _ w fun wx hx => ?_
  have key := valueof_any n A [i1] u [(v0, x)] wx (hl.more hx) (hni.more hx) (hv.more hx) (by omega) _ _ (fun hc hll hin wy hy => TM hin wy (grown_trans hx hy)) (fun hc hll hin wy hy => DM hin wy (grown_trans hx hy))
  rw [hck, hth] at key
  have e := valueR v0 x ts d
  refine key.mono fun e' w' he => ?_
  rw [← e]
  exact ended_monoE he fun r v _ e2 => e2

def sumR (A : At) (t : Int) (x xs : List Int) : R (Int × List Int × List Int) :=
  doR (nodeP [tq t x xs] (outR t x (tySame t) (reducedP A x))) fun _ => .ok (eachL (addL t) xs (plF x (goneP A x) [0]) (cntF x (goneP A x)))

theorem sum_do (n : Nod) (A : At) (i1 : ByteArray) (hop : n.op = ⟨#[82, 101, 100, 117, 99, 101, 83, 117, 109]⟩) (u : Sl) (T0 : Ten) (x xs : List Int) (w : World) (hl : Laid w) (hni : NodeIn w n [i1] A.xs A.cs) (hno : NodeOk w n A) (hck : checkF (ruleF n.op) n.op [i1] n.out A.xs A.cs = 0) (hth : thenL (A.xs.find? (isA ⟨#[116, 104, 101, 110]⟩ 3)) = []) (ho : n.out.size ≤ 1048576) (hv : TensIn w u.v [(T0, (x, xs))]) :
    Calls Tryz.prog 9 #[nval n, .slice u.a u.n u.c] w (DoQ w (sumR A T0.ty x xs)) := by
  refine rdo_any _ u _ w fun wx hx => rbdo_any _ u _ _ wx (nz_node (nz_outR _ _ _ _ (nz_tysame _) (nz_reduced _ _))) (fun l => nz_ok _) (fun wy hy => ?_) (fun wy ty dv l hy hr hd => ?_)
  · have hg := grown_trans hx hy
    refine bnode_any n u [(T0, (x, xs))] _ wy (hv.more hg) (by simp) fun wz s vs hz hvs h1 h2 => ?_
    obtain ⟨v0, rfl, e0⟩ := one_valT h1 h2
    have hgz := grown_trans hg hz
    have key := routG n A i1 s v0 x wz (hl.more hgz) (hni.more hgz) hck hth ho hvs (tySame v0.ty) (reducedP A x) (fun hin wq hq => ?_) (fun hin wq hq => dims_reduced n A s v0 x wq (by rw [hop]; simp) (hno.more (grown_trans hgz hq)) (hvs.more hq) (fine_of (vinT hin).2))
    · rw [e0] at key
      exact key
    · refine (type_ReduceSum n A s [(v0, x)] wq hop (hno.more (grown_trans hgz hq)) (hvs.more hq) rfl (by simp) (vinT hin).1).mono fun e w' he => ended_monoE he fun t v e1 e2 => ⟨e2, ?_⟩
      obtain ⟨_, -, e1⟩ := bind_ok e1
      cases e1
      exact (vinT hin).1 _ (by simp [tysOf])
  · have hg := grown_trans hx hy
    obtain ⟨hall, hr⟩ := node_inv hr
    obtain ⟨c1, -, hp, c3⟩ := outR_inv hr
    simp only [tq, okT, List.all_cons, List.all_nil, Bool.and_true, beq_iff_eq] at hall
    obtain ⟨keep, -, -, ha, hgl⟩ := reduced_gone hp
    exact made_sum n A hop u T0 x xs _ _ ty dv wy (hno.more hg) (hv.more hg) (fine_of c1) (pb_inv hall).2 ha hgl

def maxR (A : At) (t : Int) (x xs : List Int) : R (Int × List Int × List Int) :=
  doR (nodeP [tq t x xs] (outR t x (tySame t) (reducedP A x))) fun _ => .ok (eachL (mostL t) xs (plF x (goneP A x) [0]) (cntF x (goneP A x)))

theorem max_do (n : Nod) (A : At) (i1 : ByteArray) (hop : n.op = ⟨#[82, 101, 100, 117, 99, 101, 77, 97, 120]⟩) (u : Sl) (T0 : Ten) (x xs : List Int) (w : World) (hl : Laid w) (hni : NodeIn w n [i1] A.xs A.cs) (hno : NodeOk w n A) (hck : checkF (ruleF n.op) n.op [i1] n.out A.xs A.cs = 0) (hth : thenL (A.xs.find? (isA ⟨#[116, 104, 101, 110]⟩ 3)) = []) (ho : n.out.size ≤ 1048576) (hv : TensIn w u.v [(T0, (x, xs))]) :
    Calls Tryz.prog 9 #[nval n, .slice u.a u.n u.c] w (DoQ w (maxR A T0.ty x xs)) := by
  refine rdo_any _ u _ w fun wx hx => rbdo_any _ u _ _ wx (nz_node (nz_outR _ _ _ _ (nz_tysame _) (nz_reduced _ _))) (fun l => nz_ok _) (fun wy hy => ?_) (fun wy ty dv l hy hr hd => ?_)
  · have hg := grown_trans hx hy
    refine bnode_any n u [(T0, (x, xs))] _ wy (hv.more hg) (by simp) fun wz s vs hz hvs h1 h2 => ?_
    obtain ⟨v0, rfl, e0⟩ := one_valT h1 h2
    have hgz := grown_trans hg hz
    have key := routG n A i1 s v0 x wz (hl.more hgz) (hni.more hgz) hck hth ho hvs (tySame v0.ty) (reducedP A x) (fun hin wq hq => ?_) (fun hin wq hq => dims_reduced n A s v0 x wq (by rw [hop]; simp) (hno.more (grown_trans hgz hq)) (hvs.more hq) (fine_of (vinT hin).2))
    · rw [e0] at key
      exact key
    · refine (type_ReduceMax n A s [(v0, x)] wq hop (hno.more (grown_trans hgz hq)) (hvs.more hq) rfl (by simp) (vinT hin).1).mono fun e w' he => ended_monoE he fun t v e1 e2 => ⟨e2, ?_⟩
      obtain ⟨_, -, e1⟩ := bind_ok e1
      cases e1
      exact (vinT hin).1 _ (by simp [tysOf])
  · have hg := grown_trans hx hy
    obtain ⟨hall, hr⟩ := node_inv hr
    obtain ⟨c1, -, hp, c3⟩ := outR_inv hr
    simp only [tq, okT, List.all_cons, List.all_nil, Bool.and_true, beq_iff_eq] at hall
    obtain ⟨keep, -, -, ha, hgl⟩ := reduced_gone hp
    exact made_max n A hop u T0 x xs _ _ ty dv wy (hno.more hg) (hv.more hg) (fine_of c1) (pb_inv hall).2 ha hgl

def argR (A : At) (t : Int) (x xs : List Int) : R (Int × List Int × List Int) :=
  doR (nodeP [tq t x xs] (outR t x (tyArg t) (reducedP A x))) fun _ => .ok (eachL (firstL t) xs (plF x (goneP A x) [0]) (cntF x (goneP A x)))

theorem arg_do (n : Nod) (A : At) (i1 : ByteArray) (hop : n.op = ⟨#[65, 114, 103, 77, 97, 120]⟩) (u : Sl) (T0 : Ten) (x xs : List Int) (w : World) (hl : Laid w) (hni : NodeIn w n [i1] A.xs A.cs) (hno : NodeOk w n A) (hck : checkF (ruleF n.op) n.op [i1] n.out A.xs A.cs = 0) (hth : thenL (A.xs.find? (isA ⟨#[116, 104, 101, 110]⟩ 3)) = []) (ho : n.out.size ≤ 1048576) (hv : TensIn w u.v [(T0, (x, xs))]) :
    Calls Tryz.prog 9 #[nval n, .slice u.a u.n u.c] w (DoQ w (argR A T0.ty x xs)) := by
  refine rdo_any _ u _ w fun wx hx => rbdo_any _ u _ _ wx (nz_node (nz_outR _ _ _ _ (nz_tyarg _) (nz_reduced _ _))) (fun l => nz_ok _) (fun wy hy => ?_) (fun wy ty dv l hy hr hd => ?_)
  · have hg := grown_trans hx hy
    refine bnode_any n u [(T0, (x, xs))] _ wy (hv.more hg) (by simp) fun wz s vs hz hvs h1 h2 => ?_
    obtain ⟨v0, rfl, e0⟩ := one_valT h1 h2
    have hgz := grown_trans hg hz
    have key := routG n A i1 s v0 x wz (hl.more hgz) (hni.more hgz) hck hth ho hvs (tyArg v0.ty) (reducedP A x) (fun hin wq hq => ?_) (fun hin wq hq => dims_reduced n A s v0 x wq (by rw [hop]; simp) (hno.more (grown_trans hgz hq)) (hvs.more hq) (fine_of (vinT hin).2))
    · rw [e0] at key
      exact key
    · refine (type_ArgMax n A s [(v0, x)] wq hop (hno.more (grown_trans hgz hq)) (hvs.more hq) rfl (by simp) (vinT hin).1).mono fun e w' he => ended_monoE he fun t v e1 e2 => ⟨e2, ?_⟩
      obtain ⟨_, -, e1⟩ := bind_ok e1
      cases e1
      rfl
  · have hg := grown_trans hx hy
    obtain ⟨hall, hr⟩ := node_inv hr
    obtain ⟨c1, -, hp, c3⟩ := outR_inv hr
    simp only [tq, okT, List.all_cons, List.all_nil, Bool.and_true, beq_iff_eq] at hall
    obtain ⟨keep, -, -, ha, hgl⟩ := reduced_gone hp
    exact made_arg n A hop u T0 x xs _ _ ty dv wy (hno.more hg) (hv.more hg) (fine_of c1) (pb_inv hall).2 ha hgl

def meanR (A : At) (t : Int) (x xs : List Int) : R (Int × List Int × List Int) :=
  doR (nodeP [tq t x xs] (outR t x (tyFlt t) (reducedP A x))) fun _ => .ok (eachL meanL xs (plF x (goneP A x) [0]) (cntF x (goneP A x)))

theorem soft_do (n : Nod) (A : At) (i1 : ByteArray) (hop : n.op = ⟨#[83, 111, 102, 116, 109, 97, 120]⟩) (u : Sl) (T0 : Ten) (h1 : T0.ty = 1) (w : World) (hl : Laid w) (hni : NodeIn w n [i1] A.xs A.cs) (hno : NodeOk w n A) (hck : checkF (ruleF n.op) n.op [i1] n.out A.xs A.cs = 0) (hth : thenL (A.xs.find? (isA ⟨#[116, 104, 101, 110]⟩ 3)) = []) (ho : n.out.size ≤ 1048576) (hv : TensIn w u.v [(T0, ([2], [0, 0]))]) (hax : axesO 1 (alongP A 1) (List.replicate 1 false) = some [true]) :
    Calls Tryz.prog 9 #[nval n, .slice u.a u.n u.c] w (DoQ w (.ok (1, [2], [1056964608, 1056964608]))) := by
  have e : doR (nodeP [tq T0.ty [2] [0, 0]] (outR T0.ty [2] (tyFlt T0.ty) ((axesP (alongP A 1) 1).bind (fun _ => .ok [2])))) (fun _ => .ok [1056964608, 1056964608]) = .ok (1, [2], [1056964608, 1056964608]) := by
    rw [h1, show axesP (alongP A 1) 1 = .ok [true] from by unfold axesP; rw [hax]]
    kernel_rfl
  rw [← e]
  refine rdo_any _ u _ w fun wx hx => rbdo_any _ u _ _ wx (nz_node (nz_outR _ _ _ _ (nz_tyflt _) (fun c h => by
    rcases bindR h with h | ⟨_, -, h⟩
    · exact nz_axesR h
    · cases h))) (fun l => nz_ok _) (fun wy hy => ?_) (fun wy ty dv l hy hr hd => ?_)
  · have hg := grown_trans hx hy
    refine bnode_any n u [(T0, ([2], [0, 0]))] _ wy (hv.more hg) (by simp) fun wz s vs hz hvs h1 h2 => ?_
    obtain ⟨v0, rfl, e0⟩ := one_valT h1 h2
    have hgz := grown_trans hg hz
    have key := routG n A i1 s v0 [2] wz (hl.more hgz) (hni.more hgz) hck hth ho hvs (tyFlt v0.ty) ((axesP (alongP A 1) 1).bind (fun _ => .ok [2])) (fun hin wq hq => ?_) (fun hin wq hq => dims_Softmax n A s v0 [2] wq hop (hno.more (grown_trans hgz hq)) (hvs.more hq) (fine_of (vinT hin).2))
    · rw [e0] at key
      exact key
    · refine (type_float n A s [(v0, [2])] wq (by rw [hop]; simp) (hno.more (grown_trans hgz hq)) (hvs.more hq) (by simp) (by simp) (vinT hin).1).mono fun e w' he => ?_
      have he2 : Ended wq (tyFlt v0.ty) (fun t v _ => v = .int .i64 t) e w' := he
      exact ended_monoE he2 fun t v e1 e2 => ⟨e2, by
        obtain ⟨_, -, e1⟩ := bind_ok e1
        cases e1
        rfl⟩
  · have hg := grown_trans hx hy
    exact made_soft0 n A hop u T0 _ ty dv wy (hno.more hg) (hv.more hg) hax

end Go.Proofs.YtahmmilhmoogbaaGreatDoor
